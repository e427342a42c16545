import PyProof.Rows.All
import Wide.All
import OpenK.AllK
import Wide.FinOn
import Lean
import PyProof.EqAt
import PyProof.EqKinds
import PyProof.TupleCall
import KE.KIsAll
import KE.KItem
import KE.KxBytes
import KE.KRevIter
import KE.KDictOf
import KE.KTurnsDict
import KE.KPairComp
import PyProof.Rows.SortShell
import KE.KDictList
import PyProof.AttrMissSeq
import PyProof.DictUpdate
import PyProof.WalksS
import PyProof.ListRange
import KE.KEqDict
import PyProof.SumWalkG
import PyProof.LongRange
import PyProof.ReprRoads
import PyProof.ReprLen
import PyProof.StationsW
import PyProof.Rows.TopTwo
import OpenK.KOwn
import PyProof.RulesDel
import PyProof.Rows.CatchOwn
import PyProof.RulesAs
import PyProof.ExcArgs
import PySem.Challenge.RW_likehalves_k33_a_keeper_by_drawn_deeds
local macro_rules|`(tactic|show $e)=>`(tactic|refine $e)
theorem μ.{u}{α:Sort u}{a:α}:a=a:=rfl
set_option linter.defProp false
noncomputable section
def Z{p:Prop}(h:p:=by lia):p:=h
def ξ{p:Prop}(h:p:=by decide +kernel):p:=h
def ζ{p:Prop}(h:p:=by decide):p:=h
def η{p:Prop}(h:p:=by rfl):p:=h
def θ{p:Prop}(h:p:=by simp):p:=h
def a1H:=@List.length_map
def a1I:=@List.getElem?_eq_some_iff
def a1J:=@PySem.Heap.get?_push_of_some
def a1K:=@List.mem_of_getElem?
def a1L:=@List.mem_cons
def a1M:=@Nat.le_refl
def a1N:=@PySem.Heap.lt_size
def a1O:=@List.getElem?_map
def a1P:=@List.take_add_one
def a1Q:=@Option.some.inj
def a1R:=@List.getElem?_append_left
def a1S:=@PySem.Heap.get?_push_size
def a1T:=@List.take_length
def a1U:=@List.mem_map
def a1V:=@List.getElem?_append_right
def a1W:=@List.size_toArray
def a1X:=@List.mem_singleton
def a1Y:=@Bool.false_ne_true
def a1Z:=@List.not_mem_nil
def a2a:=@List.getElem?_eq_getElem
def a2b:=@List.sum_cons
def a2c:=@Nat.lt_of_lt_of_le
def a2d:=@List.length_take
def a2e:=@Nat.ne_of_lt
def a2f:=@List.map_cons
def a2g:=@List.mem_append_right
def a2h:=@List.foldl_cons
def a2i:=@List.map_append
def a2j:=@List.nodup_cons
def a2k:=@List.length_drop
def a2l:=@List.mem_append
def a2m:=@List.mem_cons_of_mem
def a2n:=@List.mem_append_left
def a2o:=@Nat.le_trans
def a2p:=@List.length_append
def a2q:=@List.sum_append
def a2r:=@List.take_append_drop
def a2s:=@List.length_cons
def a2t:=@List.take_of_length_le
def a2u:=@Nat.zero_le
def a2v:=@Bool.and_eq_true
def a2w:=@PySem.Heap.size_push
def a2x:=@Nat.pow_add
def a2y:=@List.eq_nil_of_length_eq_zero
def a2z:=@Nat.mul_le_mul_right
def a2A:=@List.append_assoc
def a2B:=@Array.toList_append
def a2C:=@PySem.Heap.get?_update_other
def a2D:=@Nat.mul_comm
def a2E:=@Nat.div_div_eq_div_mul
def a2F:=@Nat.add_mul
def a2G:=@List.map_congr_left
def a2H:=@List.getElem?_of_mem
def a2I:=@Bool.false_eq_true
def a2J:=@Nat.pow_pos
def a2K:=@Nat.ne_of_gt
def a2L:=@List.replicate_succ
def a2M:=@List.length_reverse
def a2N:=@Int.zero_add
def a2O:=@Nat.lt_irrefl
def a2P:=@Nat.mul_assoc
def a2Q:=@PySem.W.mg_of
def a2R:=@List.mem_of_find?_eq_some
def a2S:=@Nat.pow_succ
def a2T:=@Nat.lt_succ_self
def a2U:=@Int.le_refl
def a2V:=@Array.getElem?_eq_some_iff
def a2W:=@PySem.W.kia_one
def a2X:=@List.length_singleton
def a2Y:=@List.append_nil
def a2Z:=@List.find?_cons
def a3a:=@List.dropLast_concat_getLast
def a3b:=@Nat.le_add_right
def a3c:=@Nat.add_assoc
def a3d:=@Nat.lt_succ_of_lt
def a3e:=@Int.le_trans
def a3f:=@List.length_pos_of_mem
def a3g:=@Array.toList_push
def a3h:=@Nat.add_zero
def a3i:=@List.map_map
def a3j:=@Nat.zero_mul
def a3k:=@List.lookup_cons
def a3l:=@Nat.div_eq_of_lt
def a3m:=@Array.getElem?_setIfInBounds_self_of_lt
def a3n:=@Nat.sub_self
def a3o:=@List.getElem?_set_ne
def a3p:=@Bool.false_and
def a3q:=@List.getElem?_cons_succ
def a3r:=@List.foldl_append
def a3s:=@Nat.min_eq_left
def a3t:=@List.getElem?_set_self
def a3u:=@Nat.pow_zero
def a3v:=@List.drop_of_length_le
def a3w:=@List.mem_cons_self
def a3x:=@Nat.lt_of_le_of_lt
def a3y:=@PySem.W.mg_none_of
def a3z:=@PySem.W.methodCall_KW
def a3A:=@PySem.Heap.get?_update_self
def a3B:=@List.getElem?_eq_none
def a3C:=@List.perm_append_comm
def a3D:=@List.drop_eq_getElem_cons
def a3E:=@List.length_set
def a3F:=@Nat.div_add_mod
def a3G:=@List.mem_of_mem_take
def a3H:=@List.mem_of_mem_drop
def a3I:=@Nat.zero_add
def a3J:=@Nat.one_mul
def a3K:=@Array.length_toList
def a3L:=@Nat.add_sub_cancel_left
def a3M:=@List.drop_drop
def a3N:=@Nat.mod_lt
def a3O:=@Nat.sub_zero
def a3P:=@List.range_succ
def a3Q:=@Nat.pow_succ'
def a3R:=@List.reverse_cons
def a3S:=@List.flatten_cons
def a3T:=@List.mem_range
def a3U:=@Nat.le_succ
def a3V:=@Array.perm_iff_toList_perm
def a3W:=@Array.toList_reverse
def a3X:=@List.drop_zero
def a3Y:=@Int.one_mul
def a3Z:=@List.all_eq_true
def a4a:=@List.cons_append
def a4b:=@List.filterMap_cons
def a4c:=@List.zipWith_append
def a4d:=@List.any_cons
def a4e:=@List.eq_of_mem_replicate
def a4f:=@Int.mul_assoc
def a4g:=@List.nil_append
def a4h:=@Option.map_some
def a4i:=@Int.emod_nonneg
def a4j:=@List.find?_some
def a4k:=@Nat.mul_add_div
def a4l:=@PySem.W.callWith_K
def a4m:=@List.getElem?_drop
def a4n:=@Int.emod_lt_of_pos
def a4o:=@List.getElem?_replicate
def a4p:=@List.filter_cons_of_pos
def a4q:=@List.filter_cons_of_neg
def a4r:=@Nat.add_comm
def a4s:=@List.map_nil
def a4t:=@List.ext_getElem?
def a4u:=@Option.map_eq_some_iff
def a4v:=@List.nodup_nil
def a4w:=@List.reverse_perm
def a4x:=@Int.zero_mul
def a4y:=@Int.mul_zero
def a4z:=@Int.mul_comm
def a4A:=@Array.getElem?_setIfInBounds_ne
def a4B:=@List.length_replicate
def a4C:=@List.getElem?_reverse
def a4D:=@List.getElem?_zipWith
def a4E:=@Option.getD_some
def a4F:=@PySem.W.kdl_dict
def a4G:=@Nat.min_eq_right
def a4H:=@List.map_drop
def a4I:=@Int.mul_le_mul_of_nonneg_left
def a4J:=@Nat.pow_le_pow_right
def a4K:=@Bool.eq_iff_iff
def a4L:=@PySem.W.plainGet_of
def a4M:=@List.take_succ_cons
def a4N:=@Nat.pow_le_pow_left
def a4O:=@List.getElem?_range
def a4P:=@Int.toNat_of_nonneg
def a4Q:=@Nat.le_of_lt
def a4R:=@Nat.le_total
def a4S:=@Nat.mul_div_cancel
def a4T:=@List.exists_cons_of_ne_nil
def a4U:=@List.getElem?_eq_none_iff
def a4V:=@List.extract_eq_take_drop
def a4W:=@List.mem_or_eq_of_mem_set
def a4X:=@Int.add_mul
def a4Y:=@Option.isSome_map
def a4Z:=@Nat.div_one
def a5a:=@List.all_cons
def a5b:=@List.map_take
def a5c:=@Bool.true_and
def a5d:=@List.getElem_mem
def a5e:=@List.any_eq_true
def a5f:=@List.zipIdx_cons
def a5g:=@Nat.mod_eq_of_lt
def a5h:=@Int.add_zero
def a5i:=@List.mem_filter
def a5j:=@List.of_mem_zip
def a5k:=@List.forIn_cons
def a5l:=@List.length_nil
def a5m:=@Array.Perm.refl
def a5n:=@Int.mul_one
def a5o:=@Bool.and_false
def a5p:=@Int.mul_add
def a5q:=@List.take_zero
def a5r:=@Nat.mul_one
def a5s:=@List.take_take
set_option compiler.extract_closed false
set_option bootstrap.genMatcherCode false
set_option genSizeOf false
set_option Elab.async false
set_option linter.all false
set_option maxRecDepth 100000
namespace L2
open PySem PySem.Spec PyProof.Rows
abbrev aD:=Sum Int Str
noncomputable def kh:aD->Value->Bool
 | .inl k,v=>Value.isInt k v
 | .inr x,v=>Value.isStrOf x v
noncomputable def QT(w:World):aD->Int
 | .inl k=>hashInt k
 | .inr x=>hashStr w x
def M_:∀ {k:aD} {v:Value},kh k v=true->(∃i t,k=Sum.inl i/\v=Value.int i t)\/(∃x t,k=Sum.inr x/\v=Value.str x t)
 | .inl i,v,h=>by
  obtain⟨t,e⟩:=Value.isInt_shape h;show .inl ⟨i,t,μ,e⟩
 | .inr x,v,h=>by
  obtain⟨t,e⟩:=Value.isStrOf_shape h;show .inr ⟨x,t,μ,e⟩
def QU(i:Int)(t:Tok):kh (.inl i) (.int i t)=true:=by simp[kh,Value.isInt]
def QV(x:Str)(t:Tok):kh (.inr x) (.str x t)=true:=by simp[kh,Value.isStrOf]
def QW(a b:Int):decide ((Sum.inl a:aD)=Sum.inl b)=(a==b):=by grind
def QX(a b:Str):decide ((Sum.inr a:aD)=Sum.inr b)=decide (a=b):=by simp
def QY(a:Int)(b:Str):decide ((Sum.inl a:aD)=Sum.inr b)=false:=by simp
def QZ(a:Str)(b:Int):decide ((Sum.inr a:aD)=Sum.inl b)=false:=by simp
noncomputable def C_(prog:Program)(w:World):PySem.KeyKind prog w aD where
 is:=kh
 hash:=QT w
 inj:=λv a b ha hb=>by
  rcases M_ ha with⟨i,t,rfl,rfl⟩ | ⟨x,t,rfl,rfl⟩
  .rcases M_ hb with⟨j,u,rfl,e⟩ | ⟨y,u,rfl,e⟩;.injection e with e1 _;rw[e1]
   .show nomatch e
  .rcases M_ hb with⟨j,u,rfl,e⟩ | ⟨y,u,rfl,e⟩;.show nomatch e
   .injection e with e1 _;rw[e1]
 byValue:=λk v h=>by
  rcases M_ h with⟨i,t,rfl,rfl⟩ | ⟨x,t,rfl,rfl⟩ <;> rfl
 pyHash:=λhv h=>by
  rcases M_ hv with⟨i,t,rfl,rfl⟩ | ⟨x,t,rfl,rfl⟩;.show wpAny_pyHash_int h
  .show wpAny_pyHash_str h
 eqBool:=λhu hv h=>by
  rcases M_ hu with⟨i,t,rfl,rfl⟩ | ⟨x,t,rfl,rfl⟩
  .rcases M_ hv with⟨j,u,rfl,rfl⟩ | ⟨y,u,rfl,rfl⟩;.rw[QW] at h;show wpAny_eqBool_int h
   .rw[QY] at h;show SeqAt.EqAt.int_str i t y u _ _ _ _ h
  .rcases M_ hv with⟨j,u,rfl,rfl⟩ | ⟨y,u,rfl,rfl⟩;.rw[QZ] at h;show SeqAt.EqAt.str_int x t j u _ _ _ _ h
   .rw[QX] at h;show wpAny_eqBool_str h
 «strs»:=λk x t v h=>by
  rcases M_ h with⟨i,u,rfl,e⟩ | ⟨y,u,rfl,e⟩;.show nomatch e
  .injection e with e1 _;subst e1;cases v <;> rfl
def Q0(prog:Program)(w:World)(i:Int)(t:Tok):(C_ prog w).is (.inl i) (.int i t)=true:=QU i t
def Q1(prog:Program)(w:World)(x:Str)(t:Tok):(C_ prog w).is (.inr x) (.str x t)=true:=QV x t
inductive V where
 | ax | bl (b:Bool) | int (i:Int) | str (x:Str) | iA (b:Array UInt8) | nL (b:UInt64) | ref (a:Addr) | ty (n:String)
 deriving DecidableEq
def RelV:V->Value->Prop
 | .ax,u=>u=Value.none
 | .bl b,u=>u=Value.bool b
 | .int i,u=>∃t,u=Value.int i t
 | .str x,u=>∃t,u=Value.str x t
 | .iA b,u=>∃t,u=Value.bytes b t
 | .nL b,u=>∃t,u=Value.float b t
 | .ref a,u=>u=Value.ref a
 | .ty n,u=>u=Value.type n
abbrev aE:List V->List Value->Prop:=Paired RelV
theorem aE.length(r:aE xs us):xs.length=us.length:=Paired.length r
theorem aE.get:∀ {xs:List V} {us:List Value} {i:Nat} {x:V},aE xs us->xs[i]?=some x->∃u,us[i]?=some u/\RelV x u
 | _,_,_,_,.nil,e=>by simp at e
 | _,_,0,_,.cons r _,e=>by simp at e;subst e;show⟨_,μ,r⟩
 | _,_,i+1,x,.cons _ t,e=>by
  obtain⟨u,h1,h2⟩:=aE.get t (by simpa using e);show⟨u,by simpa using h1,h2⟩
theorem aE.set{x:V}{u:Value}(r:RelV x u):∀ {xs:List V} {us:List Value} (i:Nat),aE xs us->aE (xs.set i x) (us.set i u)
 | _,_,_,.nil=>.nil
 | _,_,0,.cons _ t=>.cons r t
 | _,_,i+1,.cons q t=>.cons q (aE.set r i t)
def aE.append(a:aE xs us)(b:aE ys ws):aE (xs++ys) (us++ws):=by
 induction a with
 | nil=>show b
 | cons r _ ih=>show .cons r ih
theorem aE.take:∀ {xs:List V} {us:List Value} (n:Nat),aE xs us->aE (xs.take n) (us.take n)
 | _,_,0,_=>.nil
 | _,_,_+1,.nil=>.nil
 | _,_,n+1,.cons r t=>.cons r (aE.take n t)
theorem aE.drop:∀ {xs:List V} {us:List Value} (n:Nat),aE xs us->aE (xs.drop n) (us.drop n)
 | _,_,0,r=>r
 | _,_,_+1,.nil=>.nil
 | _,_,n+1,.cons _ t=>aE.drop n t
def aE.none_of:∀ {xs:List V} {us:List Value} {i:Nat},aE xs us->xs[i]?=none->us[i]?=none:=λ{xs us i} r e=>by
 have h1:=r.length;have h2:=a4U.mp e;show a4U.mpr<|by omega
def ff:Option V->Option Value->Prop
 | some v,some u=>RelV v u
 | none,none=>True
 | _,_=>False
def KV:List (κ×V)->List (κ×Value)->Prop:=Paired λ(p:κ×V) (q:κ×Value)=>p.1=q.1/\RelV p.2 q.2
noncomputable def kV:aD->V
 | .inl i=>.int i
 | .inr x=>.str x
inductive HO where
 | lst (xs:List V)
 | tup (xs:List V)
 | dK (kvs:List (aD×V)) | dT (kvs:List (List aD×V))
 | set (S:Int->Bool) (n:Nat)
 | ins (C dx:Addr) (fs:List (Str×V))
 | own (x:Addr)
 | xd (fs:List (Str×V))
 | met (f x:Addr)
 | vF (lo hi:Int)
 | bE (o:Obj) (u:HO)
 | l9 (ps:Array Value)
 | ext (φ:Heap->Prop)
abbrev Hp:=Addr->Option HO
noncomputable def upd(H:Hp)(a:Addr)(o:HO):Hp:=λb=>if b=a then some o else H b
def c_:upd H a o a=some o:=by unfold upd;rw[if_pos μ]
def j_(h:b≠a):upd H a o b=H b:=by unfold upd;rw[if_neg h]
def sD{H:Hp}(h:H a=some o)(h':H b=some u)(d:o≠u):a≠b:=by intro e;subst e;rw[h] at h';show d<|a1Q h'
def l_{H:Hp}(h:H a=some o)(h':H b=none):a≠b:=by grind
section
variable(P:Program)(w:World)
def ci(H:Hp)(h:Heap)(a:Addr):HO->Prop
 | .lst xs=>xs.length<=sizeLine/\∃(ad:List Value) (n:Nat),aE xs ad/\h.get? a=some {cls:=.type "list",data:=.seq ad.toArray n}
 | .tup xs=>xs.length<=sizeLine/\∃ad:List Value,aE xs ad/\IsTup h a ad.toArray
 | .dK kvs=>kvs.length<=sizeLine/\(a==sysModules)=false/\∃vs,KV kvs vs/\h.DictOf (C_ P w) a vs
 | .dT kvs=>kvs.length<=sizeLine/\(a==sysModules)=false/\∃xs:List (List aD×Addr×Value),
   Paired (λ(p:List aD×V) (q:List aD×Addr×Value)=>p.1=q.1/\H q.2.1=some (.tup (p.1.map kV))/\RelV p.2 q.2.2) kvs xs/\
   ∃o es ep,h.get? a=some o/\o.ExactDict/\o.data=.dict es ep/\es.toList=xs.map (entryOfKey (tupleKind (C_ P w)))/\(xs.map (·.1)).Nodup
 | .set S n=>h.SetOf (intKind P w) a S n
 | .ins C dx fs=>H dx=some (.own a)/\fs.length<=1000/\dx≠a/\h.get? a=some (PySem.W.instObj C dx)/\
   ∃mA,h.Ns1 dx mA/\(∀f,ff (fs.lookup f) (mA f))/\PySem.Within mA (fs.map (·.1))
 | .own _=>∃o,h.get? a=some o
 | .xd fs=>∃mA,h.Ns1 a mA/\∀f,ff (fs.lookup f) (mA f)
 | .vF lo hi=>∃t u v,h.get? a=some {cls:=.type "range",data:=.fields #[.int lo t,.int hi u,.int 1 v]}
 | .bE o u=>h.get? a=some o/\ci H h a u
 | .l9 ps=>h.get? a=some {cls:=.none,data:=.fields ps}
 | .met f x=>h.get? a=some (PySem.W.methodObj (.ref f) (.ref x))
 | .ext φ=>φ h/\(∃o,h.get? a=some o)/\∀h1 h2:Heap,φ h1->(∀o,h1.get? a=some o->h2.get? a=some o)->φ h2
def bH(H:Hp)(h:Heap):Prop:=∀a o,H a=some o->ci P w H h a o
end
section
variable{a:Addr}
theorem ci.lt(x:ci P w H h a o):a<h.objs.size:=by
 cases o with
 | lst xs=>obtain⟨_,_,_,_,e⟩:=x;show a1N e
 | tup xs=>obtain⟨_,_,_,p⟩:=x;show p.lt
 | dK kvs=>obtain⟨_,_,_,_,o,_,_,e,_⟩:=x;show a1N e
 | dT kvs=>obtain⟨_,_,_,_,o,_,_,e,_⟩:=x;show a1N e
 | set S n=>obtain⟨o,_,_,_,e,_⟩:=x;show a1N e
 | ins C dx fs=>obtain⟨_,_,_,e,_⟩:=x;show a1N e
 | own y=>obtain⟨_,e⟩:=x;show a1N e
 | xd fs=>obtain⟨_,⟨_,_,_,e,_⟩,_⟩:=x;show a1N e
 | vF lo hi=>obtain⟨_,_,_,e⟩:=x;show a1N e
 | bE ob u=>obtain⟨e,_⟩:=x;show a1N e
 | l9 ps=>show a1N (show h.get? a=some _ from x)
 | met f y=>show a1N (show h.get? a=some _ from x)
 | ext φ=>obtain⟨_,⟨_,e⟩,_⟩:=x;show a1N e
def Paired.fE{GV:List α}{GW:List β}(h:Paired F GV GW)(f:∀a b,F a b->G a b):Paired G GV GW:=by
 induction h with
 | nil=>show .nil
 | cons r _ ih=>show .cons (f _ _ r) ih
def ci.bN(x:ci P w H h a o)(k:∀b u,(b=a\/H b=some (.own a))->h.get? b=some u->h'.get? b=some u) (ho:∀b,H b=some (.own a)->H' b=some (.own a)) (ht:∀b xs,H b=some (.tup xs)->H' b=some (.tup xs)):ci P w H' h' a o:=by
 induction o with
 | lst xs=>obtain⟨z,ad,n,r,e⟩:=x;show⟨z,ad,n,r,k _ _ (.inl μ) e⟩
 | tup xs=>obtain⟨z,ad,r,ob,e,c⟩:=x;show⟨z,ad,r,ob,k _ _ (.inl μ) e,c⟩
 | dK kvs=>obtain⟨z,y,vs,r,ob,es,ep,e,c⟩:=x;show⟨z,y,vs,r,ob,es,ep,k _ _ (.inl μ) e,c⟩
 | dT kvs =>
  obtain⟨z,y,xs,r,ob,es,ep,e,c⟩:=x;show⟨z,y,xs,Paired.fE r λp q z=>⟨z.1,ht _ _ z.2.1,z.2.2⟩,ob,es,ep,k _ _ (.inl μ) e,c⟩
 | set S n=>obtain⟨ob,es,ep,t,e,c⟩:=x;show⟨ob,es,ep,t,k _ _ (.inl μ) e,c⟩
 | ins C dx fs =>
  obtain⟨d,z,ne,e,mA,⟨od,es,ep,e2,c⟩,r⟩:=x;show⟨ho _ d,z,ne,k _ _ (.inl μ) e,mA,⟨od,es,ep,k _ _ (.inr d) e2,c⟩,r⟩
 | own y=>obtain⟨ob,e⟩:=x;show⟨ob,k _ _ (.inl μ) e⟩
 | xd fs=>obtain⟨mA,⟨od,es,ep,e,c⟩,r⟩:=x;show⟨mA,⟨od,es,ep,k _ _ (.inl μ) e,c⟩,r⟩
 | vF lo hi=>obtain⟨t,u,v,e⟩:=x;show⟨t,u,v,k _ _ (.inl μ) e⟩
 | bE ob u ih=>obtain⟨e,q⟩:=x;show⟨k _ _ (.inl μ) e,ih q⟩
 | l9 ps =>
  have e:=x;show k a _ (.inl μ) e
 | met f y =>
  have e:=x;show k a _ (.inl μ) e
 | ext φ=>obtain⟨p,⟨o,e⟩,st⟩:=x;show⟨st _ _ p λo q=>k _ _ (.inl μ) q,⟨o,k _ _ (.inl μ) e⟩,st⟩
theorem bH.lt(x:bH P w H h)(e:H a=some o):a<h.objs.size:=(x a o e).lt
def bH.fresh(x:bH P w H h)(e:h.objs.size<=a):H a=none:=by
 cases q:H a with
 | none=>rfl
 | some u=>show absurd (a2c (x.lt q) e)<|a2O _
def bH.kept(x:bH P w H h)(k:∀b u,h.get? b=some u->h'.get? b=some u):bH P w H h':=λa o e => (x a o e).bN (λb u _ q=>k b u q) (λ_ q=>q) λ_ _ q=>q
def bH.laid(x:bH P w H h)(k:∀b u,h.get? b=some u->h'.get? b=some u)(hp:h.objs.size<=a)(new:ci P w (upd H a o) h' a o):bH P w (upd H a o) h':=λb u e=>by
 have hn:=x.fresh hp;by_cases hb:b=a;.subst hb;rw[c_] at e;cases e;show new
 .rw[j_ hb] at e;show(x b u e).bN (λc v _ q=>k c v q) (λc q=>by rw[j_ (l_ q hn)];show q) λc xs q=>by rw[j_ (l_ q hn)];show q
end
def Rd(H:Hp)(a:Addr)(u:HO):Prop:=H a=some u\/∃o,H a=some (.bE o u)
def Rd.ok(r:Rd H a u)(x:bH P w H h):ci P w H h a u:=by
 rcases r with r | ⟨o,r⟩;.show x a u r
 .obtain⟨_,q⟩:=x a _ r;show q
def sE:Option HO->Prop
 | some (.lst _)=>True
 | some (.dK _)=>True
 | some (.dT _)=>True
 | some (.set _ _)=>True
 | some (.ins _ _ _)=>True
 | some (.ext _)=>True
 | _=>False
def bH.write(ok:bH P w H h)(mu:sE (H x))(he:e=x\/H e=some (.own x))(k:∀b u,b≠e->h.get? b=some u->h'.get? b=some u)(p9:∃u,h'.get? e=some u) (new:ci P w (upd H x o') h' x o'):bH P w (upd H x o') h':=λb u q=>by
 have GX:∀c y,H c=some (.own y)->c≠x:=λc y r z=>by subst z;rw[r] at mu;show mu
 have Q2:∀c xs,H c=some (.tup xs)->c≠x:=λc xs r z=>by subst z;rw[r] at mu;show mu
 by_cases hb:b=x;.subst hb;rw[c_] at q;cases q;show new
 .rw[j_ hb] at q;by_cases ki:b=e
  .have q':H b=some (.own x):=by simp_all
   rw[q] at q';cases q';obtain⟨v,hv⟩:=p9;show⟨v,by rw[ki];show hv⟩
  .show(ok b u q).bN (λc v hc r=>k c v ?_ r) (λc r=>by rw[j_ (GX c b r)];show r) λc xs r=>by rw[j_ (Q2 c xs r)];show r
   rcases hc with rfl | hc;.show ki
   .grind
structure Un(fs ex:List Addr)(H H':Hp)(h h':Heap):Prop where
 keep:∀b o,h.get? b=some o->H b=none->b∉fs->b∉ex->h'.get? b=some o
 slot:∀b o,h.get? b=some o->H b=none->b∈fs->b∉ex->∃sl,h'.get? b=some {o with slots:=sl}
 free:∀b o,h.get? b=some o->H b=none->b∉ex->H' b=none
 there:∀b o,h.get? b=some o->b∉ex->∃o',h'.get? b=some o'
 fS:∀b xs,H b=some (.tup xs)->H' b=some (.tup xs)
 fF:∀b o u,H b=some (.bE o u)->H' b=some (.bE o u)
 f9:∀b ps,H b=some (.l9 ps)->∃more,H' b=some (.l9 (ps++more))
section
variable{h h1 h2 h':Heap}{a x e:Addr}
def Un.any(u:Un fs ex H H1 h h1)(q:h.get? b=some ob)(n:H b=none)(hx:b∉ex):∃sl,h1.get? b=some {ob with slots:=sl}:=by
 by_cases hb:b∈fs;.show u.slot b ob q n hb hx
 .show⟨ob.slots,u.keep b ob q n hb hx⟩
def Un.kept(k:∀b u,h.get? b=some u->h'.get? b=some u):Un fs ex H H h h' := ⟨λb ob q _ _ _=>k b ob q,λb ob q _ _ _=>⟨ob.slots,k b ob q⟩,λ_ _ _ n _=>n,λb ob q _=>⟨ob,k b ob q⟩,λ_ _ q=>q,λ_ _ _ q=>q,λ_ ps q=>⟨#[],by show q▸?_;simp⟩⟩
def Un.refl:Un fs ex H H h h:=Un.kept λ_ _ q=>q
def Un.laid(k:∀b u,h.get? b=some u->h'.get? b=some u)(hp:h.objs.size<=a)(hn:H a=none):Un fs ex H (upd H a o) h h' where
 keep:=λb u q _ _ _=>k b u q
 slot:=λb u q _ _ _=>⟨u.slots,k b u q⟩
 free:=λb u q n _=>by rw[j_ (a2e<|a2c (a1N q) hp)];show n
 there:=λb u q _=>⟨u,k b u q⟩
 fS:=λb xs q=>by rw[j_ (l_ q hn)];show q
 fF:=λb u xs q=>by rw[j_ (l_ q hn)];show q
 f9:=λb ps q=>⟨#[],by show (j_ (l_ q hn))▸q▸?_;simp⟩
def Un.write(mu:sE (H x))(he:e=x\/H e=some (.own x))(k:∀b u,b≠e->h.get? b=some u->h'.get? b=some u)(p9:∃u,h'.get? e=some u):Un fs ex H (upd H x o) h h':=by
 have hx:∀b,H b=none->b≠x:=λb n z=>by subst z;rw[n] at mu;show mu
 have hb:∀b,H b=none->b≠e:=λb n z=>by simp_all
 have hm:∀b u,H b=some u->¬ sE (some u)->b≠x:=λb u q nm z=>by simp_all
 show⟨λb u q n _ _=>k b u (hb b n) q,λb u q n _ _=>⟨u.slots,k b u (hb b n) q⟩,λb u q n _=>by rw[j_ (hx b n)];show n,λb u q _=>?_, λb xs q=>by rw[j_ (hm b _ q λz=>z)];show q,λb u xs q=>by rw[j_ (hm b _ q λz=>z)];show q,λb ps q=>⟨#[],by show (j_ (hm b _ q λz=>z))▸q▸?_;simp⟩⟩;by_cases ki:b=e;.subst ki;show p9
 .show⟨u,k b u ki q⟩
end
noncomputable def vG(h:Heap)(H:Hp):List Addr:=(List.range h.objs.size).filter λa=>(H a).isSome
noncomputable def km(h:Heap)(H:Hp):Heap:=PySem.W.hideAll h (vG h H)
def Q4(h:Heap)(H:Hp):(km h H).objs.size=h.objs.size:=PySem.W.hideAll_size _ _
def Q5(e:h.get? b=some o)(n:H b=none):(km h H).get? b=some o :=
 PySem.W.hideAll_get _ e λhm=>by
  have q:=(a5i.mp hm).2;rw[n] at q;simp at q
def Q6(e:(km h H).get? b=some o):h.get? b=some o/\H b=none:=by
 have e':=PySem.W.of_hideAll _ e;show⟨e',?_⟩
 cases q:H b with
 | none=>rfl
 | some x =>
  have hm:b∈vG h H:=a5i.mpr ⟨a3T.mpr<|a1N e',by simp[q]⟩;have z:(km h H).get? b=none:=PySem.W.hideAll_none _ hm;rw[z] at e;cases e
noncomputable def Q7(g h:Heap)(L:Addr):List (Addr×Obj):=(List.range h.objs.size).filterMap λa=>if a=L\/(g.get? a).isSome=true then none else (h.get? a).map λo=>(a,o)
noncomputable def rest(g h:Heap)(L d:Addr):List (Addr×Obj):=(Q7 g h L).filter λp=>decide (p.1≠d)
structure Mod(K:PySem.W.Frag)(mg:Str->Option Value)(base:Heap):Prop where
 qa:K.In base
 glob:base.Ns mainGlobals mg
 blt:∃mb,base.Ns builtinsNs mb/\∀x:Str,x≠"__name__"->mb x=bootBuiltins x
 nolimit:base.NoLimit
structure Cx where
 prog:Program
 w:World
 K:PySem.W.Frag
 mg:Str->Option Value
 base:Heap
 A:Around
 N:List Str
 cL:Shared
 fT:Hp
 env:Env
 outer:List Env
 stack:List Env
 ex:List Addr
 fn:Str->Bool
 calm:Bool
 pn:List (Addr×Obj)
 xe:Value->Shared->Prop
noncomputable def bD(l:List Env):List Addr:=l.filterMap (·.frame)
abbrev Cx.fs(X:Cx):List Addr:=bD X.outer
def qb(sc:Scope)(x:Str):Prop:=sc.names.lookup x=some .local\/sc.names.lookup x=some .cell\/sc.names.lookup x=some .free
def Loc(sc:Scope)(x:Str):Prop:=sc.names.lookup x=some .local\/sc.names.lookup x=some .cell
def Look(env:Env)(h:Heap)(m:Str->Option Value)(x:Str)(u:Value):Prop := (env.kindOf x=some .local/\m x=some u)\/((env.kindOf x=some .cell\/env.kindOf x=some .free)/\∃c,env.cells.lookup x=some c/\h.IsCell c (some u))
structure Cx.Ok(X:Cx):Prop where
 mod:Mod X.K X.mg X.base
 kind:X.env.scope.kind=.function
 glob:X.env.globals=mainGlobals
 blt:X.env.builtins=builtinsNs
 above:X.cL.heap.objs.size<=X.env.locals
 inj:∀x y c,X.env.cells.lookup x=some c->X.env.cells.lookup y=some c->x=y
 has:∀x,(X.env.kindOf x=some .cell\/X.env.kindOf x=some .free)->∃c,X.env.cells.lookup x=some c
 nM:∀x c,X.fn x=true->X.env.cells.lookup x=some c->X.cL.heap.objs.size<=c
 hd:X.calm=true->X.A.handled=none
 frames:X.A.frames=some X.stack
 qc:X.stack=X.outer\/(X.stack=X.env::X.outer/\X.env.frame=some X.env.locals)
 sF:∀b∈X.ex,b≠X.env.locals/\∀x c,X.env.cells.lookup x=some c->c≠b
 bs:∀b o,X.base.get? b=some o->X.cL.heap.get? b=some o/\X.fT b=none
 iB:X.base.objs.size<=X.cL.heap.objs.size
 nN:∀b o,X.base.get? b=some o->b∉X.ex
 nO:∀b∈X.ex,b∉X.fs
 gD:X.cL.heap.FunFrames X.base X.outer
 kq:∀b∈X.fs,X.fT b=none
structure Inv(X:Cx)(aa:List (Addr×Obj))(σ:List (Option V))(H:Hp)(s:Shared):Prop where
 ok:X.Ok
 os:s.os=X.cL.os
 bare:AllBare s.gens
 base:Un X.fs X.ex X.fT H X.cL.heap s.heap
 loc:∃m,s.heap.Ns X.env.locals m/\∀(i:Nat) (x:Str) (v:V),X.N[i]?=some x->σ[i]?=some (some v)->qb X.env.scope x->∃u,RelV v u/\Look X.env s.heap m x u
 cell:∀x c,X.env.cells.lookup x=some c->∃v,s.heap.IsCell c v
 free:H X.env.locals=none
 fH:∀x c,X.env.cells.lookup x=some c->H c=none
 pin:∀p∈X.pn++aa,s.heap.get? p.1=some p.2/\H p.1=none/\p.1≠X.env.locals/\p.1∉X.fs/\∀v,p.2.data≠.cell v
 am:bH X.prog X.w H s.heap
 len:σ.length=X.N.length
section
variable{X:Cx}
def Cx.Ok.Q8(ok:X.Ok)(e:X.base.get? b=some o):b∉X.fs:=λhb=>by
 have:=(ok.gD.mem hb).1;rw[e] at this;cases this
theorem Inv.bs(I:Inv X aa σ H s):∀b o,X.base.get? b=some o->s.heap.get? b=some o/\H b=none:=λb o e => ⟨I.base.keep b o (I.ok.bs b o e).1 (I.ok.bs b o e).2 (I.ok.Q8 e)<|I.ok.nN b o e,I.base.free b o (I.ok.bs b o e).1 (I.ok.bs b o e).2<|I.ok.nN b o e⟩
def Inv.bk(I:Inv X aa σ H s):∀b o,X.base.get? b=some o->s.heap.get? b=some o:=λb o e=>(I.bs b o e).1
theorem Inv.mod(I:Inv X aa σ H s):Mod X.K X.mg X.base:=I.ok.mod
def Inv.cq(I:Inv X aa σ H s):X.K.In s.heap:=I.ok.mod.qa.keeps I.bk
def Inv.fr(I:Inv X aa σ H s):∃m,Fr X.base X.env.locals s.heap m :=
 let ⟨m,hn,_⟩:=I.loc
 ⟨m,hn,I.bk,a2o I.ok.iB I.ok.above⟩
theorem Inv.lt(I:Inv X aa σ H s):X.env.locals<s.heap.objs.size:=let ⟨_,hn,_⟩:=I.loc;hn.lt
def Inv.sz(I:Inv X aa σ H s):X.cL.heap.objs.size<=s.heap.objs.size:=a2o I.ok.above (a4Q I.lt)
def Inv.Q9(I:Inv X aa σ H s){a:Addr}(h:s.heap.objs.size<=a):a∉X.fs:=λhb=>by
 obtain⟨_,o,ho,_⟩:=I.ok.gD.mem hb;show absurd (a2c (a1N ho)<|a2o I.sz h)<|a2O _
def Inv.iW(I:Inv X aa σ H s):∀x c,X.env.cells.lookup x=some c->c≠X.env.locals:=λx c e z=>by
 obtain⟨v,o,ho,hd⟩:=I.cell x c e;obtain⟨m,⟨o',es,ep,iX,eD,_⟩,_⟩:=I.loc;rw[z,iX] at ho;cases ho;rw[eD] at hd;cases hd
theorem Inv.gD(I:Inv X aa σ H s):s.heap.FunFrames X.base X.outer:=by
 have all:∀ l ,(∀b∈bD l,b∈X.fs)->X.cL.heap.FunFrames X.base l->s.heap.FunFrames X.base l:=by
  intro l
  induction l with
  | nil=>intro _ _;trivial
  | cons env r ih =>
   intro hs hl;obtain⟨hk,⟨L,o,hf,hn,ho,hd⟩,hr⟩:=hl;have hL:=hs L (by unfold bD;rw[a4b,hf];show a3w);obtain⟨sl,e⟩:=I.base.slot L o ho (I.ok.kq L hL) hL λz=>I.ok.nO L z hL;show⟨hk,⟨L,_,hf,hn,e,hd⟩,ih (λb hb=>hs b<|by unfold bD;rw[a4b,hf];show a2m _ hb) hr⟩
 show all _ (λ_ hb=>hb) I.ok.gD
theorem Inv.stack(I:Inv X aa σ H s):s.heap.FunFrames X.base X.stack:=by
 rcases I.ok.qc with e | ⟨e,hf⟩;.rw[e];show I.gD
 .rw[e];obtain⟨m,hn,_⟩:=I.loc;show .cons (by rw[I.ok.kind];decide) hf hn (Heap.get?_none_of_le (a2o I.ok.iB I.ok.above)) I.gD
def Inv.AC(I:Inv X aa σ H s):∀b∈bD X.stack,b∈X.env.locals::X.fs:=λb hb=>by
 rcases I.ok.qc with e | ⟨e,hf⟩;.rw[e] at hb;show a2m _ hb
 .rw[e] at hb;unfold bD at hb;rw[a4b,hf] at hb;show hb
def Inv.ku(I:Inv X aa σ H s):∀b∈bD X.stack,H b=none:=λb hb=>by
 rcases a1L.mp (I.AC b hb) with e | hb;.rw[e];show I.free
 .obtain⟨_,o,ho,_⟩:=I.ok.gD.mem hb;show I.base.free b o ho (I.ok.kq b hb) λz=>I.ok.nO b z hb
def Inv.step{ch:List Addr}(I:Inv X aa σ H s) (dY:∀b∈ch,(b∈X.ex\/X.cL.heap.objs.size<=b)/\b≠X.env.locals/\(∀x c,X.env.cells.lookup x=some c->c≠b)/\∀p∈X.pn++aa,p.1≠b) (keep:∀b o,b≠X.env.locals->b∉X.fs->b∉ch->s.heap.get? b=some o->H b=none->h'.get? b=some o) (slot:∀b o,b≠X.env.locals->b∈X.fs->b∉ch->s.heap.get? b=some o->H b=none->∃sl,h'.get? b=some {o with slots:=sl}) (free:∀b o,b∉ch->s.heap.get? b=some o->H b=none->H' b=none) (there:∀b o,b∉ch->s.heap.get? b=some o->∃o',h'.get? b=some o') (fS:∀b xs,H b=some (.tup xs)->H' b=some (.tup xs)) (fF:∀b o u,H b=some (.bE o u)->H' b=some (.bE o u)) (f9:∀b ps,H b=some (.l9 ps)->∃more,H' b=some (.l9 (ps++more))) (ns:∀m,s.heap.Ns X.env.locals m->h'.Ns X.env.locals m) (am:bH X.prog X.w H' h') (hg:AllBare g') : Inv X aa σ H' {s with heap:=h',gens:=g',drawn:=d',toks:=t'}:=by
 have GY:∀b o,X.cL.heap.get? b=some o->b≠X.env.locals:=λb o e=>a2e (a2c (a1N e) I.ok.above)
 have vH:∀b o,X.cL.heap.get? b=some o->b∉X.ex->b∉ch:=λb o e hx hb=>by
  rcases(dY b hb).1 with z | z;.show hx z
  .show absurd (a2c (a1N e) z) (a2O _)
 have GZ:∀x c,X.env.cells.lookup x=some c->∀v,s.heap.IsCell c v->h'.IsCell c v:=λx c e v ⟨o,ho,hd⟩=>by
  have iC:=λz=>(dY c z).2.2.1 x c e μ;by_cases hc:c∈X.fs
  .obtain⟨sl,q⟩:=slot c o (I.iW x c e) hc iC ho (I.fH x c e);show⟨_,q,hd⟩
  .show⟨o,keep c o (I.iW x c e) hc iC ho (I.fH x c e),hd⟩
 show⟨I.ok,I.os,hg,⟨λb o e n hb hx=>?_,λb o e n hb hx=>?_,λb o e n hx=>?_,λb o e hx=>?_,λb xs e=>fS b xs (I.base.fS b xs e),λb o xs e=>fF b o xs (I.base.fF b o xs e),λb ps e=>?_⟩,?_,λx c e=>?_,?_,λx c e=>?_,λp hp=>?_,am,I.len⟩;.show keep b o (GY b o e) hb (vH b o e hx) (I.base.keep b o e n hb hx) (I.base.free b o e n hx)
 .obtain⟨sl,e1⟩:=I.base.slot b o e n hb hx;obtain⟨Ra,e2⟩:=slot b _ (GY b o e) hb (vH b o e hx) e1 (I.base.free b o e n hx);show⟨Ra,e2⟩
 .obtain⟨o',e1⟩:=I.base.there b o e hx;show free b o' (vH b o e hx) e1 (I.base.free b o e n hx)
 .obtain⟨o',e1⟩:=I.base.there b o e hx;show there b o' (vH b o e hx) e1
 .obtain⟨m1,e1⟩:=I.base.f9 b ps e;obtain⟨m2,e2⟩:=f9 b _ e1;show⟨m1++m2,by rw[e2,Array.append_assoc]⟩
 .obtain⟨m,hn,hl⟩:=I.loc;show⟨m,ns m hn,λi x v e1 e2 e3=>?_⟩;obtain⟨u,r,l⟩:=hl i x v e1 e2 e3;show⟨u,r,?_⟩;rcases l with l | ⟨k,c,e,z⟩;.show .inl l
  .show .inr ⟨k,c,e,GZ x c e _ z⟩
 .obtain⟨v,z⟩:=I.cell x c e;show⟨v,GZ x c e v z⟩
 .obtain⟨m,⟨o,_,_,ho,_⟩,_⟩:=I.loc;show free _ o (λz=>(dY _ z).2.1 μ) ho I.free
 .obtain⟨v,o,ho,hd⟩:=I.cell x c e;show free c o (λz=>(dY c z).2.2.1 x c e μ) ho (I.fH x c e)
 .obtain⟨e,n,ne,nf,d⟩:=I.pin p hp;have iC:=λz=>(dY p.1 z).2.2.2 p hp μ;show⟨keep p.1 p.2 ne nf iC e n,free p.1 p.2 iC e n,ne,nf,d⟩
def Inv.un(I:Inv X aa σ H s)(u:Un X.fs [] H H' s.heap h')(am:bH X.prog X.w H' h'):Inv X aa σ H' {s with heap:=h',toks:=t'}:=by
 obtain⟨m,⟨o,es,ep,ho,r⟩,_⟩:=id I.loc;obtain⟨sl,hL⟩:=u.any ho I.free θ
 show I.step (ch:=[]) (λ_ z=>nomatch z) (λb o _ hb _ e n=>u.keep b o e n hb<|by simp) (λb o _ hb _ e n=>u.slot b o e n hb<|by simp) (λb o _ e n=>u.free b o e n<|by simp) (λb o _ e=>u.there b o e<|by simp) u.fS u.fF u.f9 (λm' hm=>by
  obtain⟨o',AD,AE,iX,r'⟩:=hm;rw[ho] at iX;cases iX;show⟨_,AD,AE,hL,r'⟩) am I.bare
def Inv.call(I:Inv X aa σ H s)(u:Un (bD X.stack) ch H H' s.heap h')(am:bH X.prog X.w H' h')(hg:AllBare g') (dY:∀b∈ch,(b∈X.ex\/X.cL.heap.objs.size<=b)/\b≠X.env.locals/\(∀x c,X.env.cells.lookup x=some c->c≠b)/\∀p∈X.pn++aa,p.1≠b) : Inv X aa σ H' {s with heap:=h',gens:=g',drawn:=d',toks:=t'}:=by
 obtain⟨m,⟨o,es,ep,ho,r⟩,_⟩:=id I.loc;obtain⟨sl,hL⟩:=u.any ho I.free λz=>(dY _ z).2.1 μ
 show I.step dY (λb o hL hb hc e n=>u.keep b o e n (λz=>(a1L.mp<|I.AC b z).elim hL hb) hc) (λb o _ _ hc e n=>u.any e n hc) (λb o hc e n=>u.free b o e n hc) (λb o hc e=>u.there b o e hc) u.fS u.fF u.f9 (λm' hm=>by
  obtain⟨o',AD,AE,iX,r'⟩:=hm;rw[ho] at iX;cases iX;show⟨_,AD,AE,hL,r'⟩) am hg
def Inv.turned(I:Inv X aa σ H s)(k:∀b o,b≠it->s.heap.get? b=some o->h'.get? b=some o)(hn:H it=none)(hL:it≠X.env.locals) (h1:it∈X.ex\/X.cL.heap.objs.size<=it) (h2:∀x c,X.env.cells.lookup x=some c->c≠it) (h3:∀p∈X.pn++aa,p.1≠it):Inv X aa σ H {s with heap:=h',toks:=t'}:=by
 have G0:∀b u,H b=some u->b≠it:=λb u e z=>by rw[z,hn] at e;cases e
 show I.step (ch:=[it]) (λb hb=>?_) (λb o _ _ hc e _=>k b o (λz=>hc<|by simp[z]) e) (λb o _ _ hc e _=>⟨o.slots,k b o (λz=>hc<|by simp[z]) e⟩) (λ_ _ _ _ n=>n) (λb o hc e=>⟨o,k b o (λz=>hc<|by simp[z]) e⟩) (λ_ _ e=>e) (λ_ _ _ e=>e) (λb ps e=>⟨#[],by show e▸?_;simp⟩) (λm hm=>?_) (λb u e=>?_) I.bare
 .have e:b=it:=by simpa using hb
  subst e;show⟨h1,hL,h2,h3⟩
 .obtain⟨o,es,ep,ho,r⟩:=hm;show⟨o,es,ep,k _ o (Ne.symm hL) ho,r⟩
 .show(I.am b u e).bN (λc v hc q=>k c v ?_ q) (λ_ q=>q) λ_ _ q=>q;rcases hc with z | z;.rw[z];show G0 b u e
  .show G0 c _ z
def Inv.tok(I:Inv X aa σ H s)(t:Nat):Inv X aa σ H {s with toks:=t}:=I.un Un.refl I.am
theorem Inv.kept(I:Inv X aa σ H s)(k:∀b u,s.heap.get? b=some u->h'.get? b=some u):Inv X aa σ H {s with heap:=h',toks:=t'}:=I.un (Un.kept k) (I.am.kept k)
theorem Inv.laid{a:Addr}(I:Inv X aa σ H s)(k:∀b u,s.heap.get? b=some u->h'.get? b=some u)(hp:s.heap.objs.size<=a)(new:ci X.prog X.w (upd H a o) h' a o) : Inv X aa σ (upd H a o) {s with heap:=h',toks:=t'}:=I.un (Un.laid k hp<|I.am.fresh hp) (I.am.laid k hp new)
theorem Inv.write(I:Inv X aa σ H s)(mu:sE (H x))(he:e=x\/H e=some (.own x))(k:∀b u,b≠e->s.heap.get? b=some u->h'.get? b=some u)(p9:∃u,h'.get? e=some u) (new:ci X.prog X.w (upd H x o) h' x o):Inv X aa σ (upd H x o) {s with heap:=h',toks:=t'}:=I.un (Un.write mu he k p9) (I.am.write mu he k p9 new)
def Inv.weak(I:Inv X aa σ H s)(hl:aJ.length=σ.length)(w:∀(i:Nat) v,aJ[i]?=some (some v)->σ[i]?=some (some v)):Inv X aa aJ H s :=
 ⟨I.ok,I.os,I.bare,I.base,let ⟨m,hn,cE⟩:=I.loc;⟨m,hn,λi x v e1 e2 e3=>cE i x v e1 (w i v e2) e3⟩,I.cell,I.free,I.fH,I.pin,I.am,hl.trans I.len⟩
def Inv.vI(I:Inv X aa σ H s)(h:∀p∈G7,s.heap.get? p.1=some p.2/\H p.1=none/\p.1≠X.env.locals/\p.1∉X.fs/\∀v,p.2.data≠.cell v):Inv X G7 σ H s := ⟨I.ok,I.os,I.bare,I.base,I.loc,I.cell,I.free,I.fH,λp hp=>(a2l.mp hp).elim (λz=>I.pin p<|a2n _ z)<|h p,I.am,I.len⟩
def AG{N:List Str}(hN:N.Nodup){i j:Nat}(a:N[i]?=some x)(b:N[j]?=some x):i=j:=by
 obtain⟨h1,e1⟩:=a1I.mp a;obtain⟨h2,e2⟩:=a1I.mp b;show(List.getElem_inj hN).mp<|e1.trans e2.symm
def G9(I:Inv X aa σ H s)(hN:X.N.Nodup)(hi:X.N[i]?=some x)(hx:Loc X.env.scope x)(r:RelV v u) (h:∀s',Inv X aa (σ.set i (some v)) H s'->(∃a,Heap.SameBut a s.heap s'.heap/\(a=X.env.locals\/X.env.cells.lookup x=some a))->Q () s') (hf:X.fn x=true\/X.env.scope.names.lookup x=some .local:=by first | show .inl μ | show .inr μ | assumption):wpAny M A (storeName X.env x u) Q E s:=by
 obtain⟨m,hn,hl⟩:=id I.loc;have sH:(X.env.scope.kind==.class || (X.env.scope.kind==.module&&X.env.locals != X.env.globals))=false:=by rw[I.ok.kind];rfl
 have vJ:i<σ.length:=by rw[I.len];show(a1I.mp hi).1
 have iW:=I.iW
 have Ha:∀ {a:Addr} {h':Heap},(∃o,s.heap.get? a=some o/\H a=none)->Heap.SameBut a s.heap h'->bH X.prog X.w H h':=λ{a h'} ha hs b ob e=>by
  obtain⟨_,_,Hb⟩:=ha;show(I.am b ob e).bN (λc w' hc q=>(hs.2 c ?_).trans q) (λ_ q=>q) λ_ _ q=>q;rintro rfl;rcases hc with rfl | hc;.rw[Hb] at e;cases e
  .rw[Hb] at hc;cases hc
 rcases hx with hk | hk
 .show wpAny_storeName_local hk hn (λh' AH hs=>?_) sH;obtain⟨oL,_,_,Hc,_⟩:=id hn;show h _ ⟨I.ok,I.os,I.bare,⟨λb o e n hb hx=>?_,λb o e n hb hx=>?_,I.base.free,λb o e hx=>?_,I.base.fS,I.base.fF,I.base.f9⟩,⟨_,AH,λj y v' e1 e2 e3=>?_⟩,λy c e=>?_,I.free,I.fH,λp hp=>?_,Ha ⟨oL,Hc,I.free⟩ hs,by simpa using I.len⟩ ⟨_,hs,.inl μ⟩;.show(hs.2 b (a2e (a2c (a1N e) I.ok.above))).trans (I.base.keep b o e n hb hx)
  .obtain⟨sl,e1⟩:=I.base.slot b o e n hb hx;show⟨sl,(hs.2 b (a2e (a2c (a1N e) I.ok.above))).trans e1⟩
  .obtain⟨o',e1⟩:=I.base.there b o e hx;show⟨o',(hs.2 b (a2e (a2c (a1N e) I.ok.above))).trans e1⟩
  .by_cases hj:j=i
   .subst hj;rw[hi] at e1;cases e1;rw[a3t vJ] at e2;cases e2;show⟨u,r,.inl ⟨hk,θ⟩⟩
   .rw[a3o (Ne.symm hj)] at e2;obtain⟨u',r',q⟩:=hl j y v' e1 e2 e3;show⟨u',r',?_⟩;rcases q with⟨k,e⟩ | ⟨k,c,e,z⟩
    .show .inl ⟨k,?_⟩;have:y≠x:=λe=>hj (AG hN e1 (e▸hi));simp[this,e]
    .show .inr ⟨k,c,e,z.sameBut hs (iW y c e)⟩
  .obtain⟨w',z⟩:=I.cell y c e;show⟨w',z.sameBut hs (iW y c e)⟩
  .obtain⟨e,n,ne,nf,d⟩:=I.pin p hp;show⟨(hs.2 p.1 ne).trans e,n,ne,nf,d⟩
 .have nP:X.fn x=true:=by
   rcases hf with z | z;.show z
   .rw[z] at hk;cases hk
  obtain⟨c,hc⟩:=I.ok.has x (.inl hk);obtain⟨w',z⟩:=I.cell x c hc;show wpAny_storeName_cell I.ok.kind hk hc z (λh' fi hs=>?_);obtain⟨oc,Hd,Rb⟩:=id z;show h {s with heap:=h'} ⟨I.ok,I.os,I.bare,⟨λb o e n hb hx=>?_,λb o e n hb hx=>?_,I.base.free,λb o e hx=>?_,I.base.fS,I.base.fF,I.base.f9⟩,⟨m,hn.sameBut hs (Ne.symm (iW x c hc)),λj y v' e1 e2 e3=>?_⟩,λy c' e=>?_,I.free,I.fH,λp hp=>?_,Ha ⟨oc,Hd,I.fH x c hc⟩ hs,by simpa using I.len⟩ ⟨c,hs,.inr hc⟩;.show(hs.2 b (a2e (a2c (a1N e) (I.ok.nM x c nP hc)))).trans (I.base.keep b o e n hb hx)
  .obtain⟨sl,e1⟩:=I.base.slot b o e n hb hx;show⟨sl,(hs.2 b (a2e (a2c (a1N e) (I.ok.nM x c nP hc)))).trans e1⟩
  .obtain⟨o',e1⟩:=I.base.there b o e hx;show⟨o',(hs.2 b (a2e (a2c (a1N e) (I.ok.nM x c nP hc)))).trans e1⟩
  .by_cases hj:j=i
   .subst hj;rw[hi] at e1;cases e1;rw[a3t vJ] at e2;cases e2;show⟨u,r,.inr ⟨.inl hk,c,hc,fi⟩⟩
   .rw[a3o (Ne.symm hj)] at e2;obtain⟨u',r',q⟩:=hl j y v' e1 e2 e3;show⟨u',r',?_⟩;rcases q with q | ⟨k,c',e,z'⟩;.show .inl q
    .show .inr ⟨k,c',e,z'.sameBut hs ?_⟩;rintro rfl;show hj (AG hN e1 (I.ok.inj _ _ _ e hc▸hi))
  .by_cases He:c'=c;.subst He;show⟨_,fi⟩
   .obtain⟨w2,z2⟩:=I.cell y c' e;show⟨w2,z2.sameBut hs He⟩
  .obtain⟨e,n,ne,nf,d⟩:=I.pin p hp;show⟨(hs.2 p.1 ?_).trans e,n,ne,nf,d⟩;intro q;rw[q,Hd] at e;have q':=a1Q e;show d w' (by show q'▸?_;show Rb)
def nQ(I:Inv X aa σ H s)(hN:X.N.Nodup)(hi:X.N[i]?=some x)(hx:Loc X.env.scope x)(r:RelV v u) (h:∀s',Inv X aa (σ.set i (some v)) H s'->Q () s') (hf:X.fn x=true\/X.env.scope.names.lookup x=some .local:=by first | show .inl μ | show .inr μ | assumption):wpAny M A (storeName X.env x u) Q E s := G9 I hN hi hx r (λs' I' _=>h s' I') hf
def Inv.sI(I:Inv X aa σ H s)(ho:s'.os=s.os)(u:Un (bD X.stack) ch H H' s.heap s'.heap)(am:bH X.prog X.w H' s'.heap)(hg:AllBare s'.gens) (dY:∀b∈ch,(b∈X.ex\/X.cL.heap.objs.size<=b)/\b≠X.env.locals/\(∀x c,X.env.cells.lookup x=some c->c≠b)/\∀p∈X.pn++aa,p.1≠b):Inv X aa σ H' s':=by
 obtain⟨h',g',d',t',o'⟩:=s';have e:=ho;subst e;show I.call u am hg dY
end
abbrev XK:=Value->Option Addr->Hp->Prop
abbrev St:=List (Option V)
abbrev VK:=V->Hp->Prop
abbrev TE:=St->Hp->VK->Prop
abbrev TT:=St->Hp->(Bool->Hp->Prop)->Prop
abbrev TA:=St->Hp->(List V->Hp->Prop)->Prop
structure Ends where
 nx:St->Hp->Prop
 rt:VK
 bk:St->Hp->Prop:=λ_ _=>False
 ct:St->Hp->Prop:=λ_ _=>False
abbrev TS:=Ends->St->Hp->Prop
def EP(X:Cx)(aa:List (Addr×Obj))(σ:St)(Q:VK)(u:Value)(s':Shared):Prop:=∃v H',Inv X aa σ H' s'/\RelV v u/\Q v H'
def TP(X:Cx)(aa:List (Addr×Obj))(σ:St)(Q:Bool->Hp->Prop)(b:Bool)(s':Shared):Prop:=∃H',Inv X aa σ H' s'/\Q b H'
def AP(X:Cx)(aa:List (Addr×Obj))(σ:St)(Q:List V->Hp->Prop)(us:List Value)(s':Shared):Prop:=∃vs H',Inv X aa σ H' s'/\aE vs us/\Q vs H'
def SP(X:Cx)(aa:List (Addr×Obj))(D:Ends)(f:Flow)(s':Shared):Prop :=
 match f with
 | .next=>∃ aJ H',Inv X aa aJ H' s'/\D.nx aJ H'
 | .brk=>∃ aJ H',Inv X aa aJ H' s'/\D.bk aJ H'
 | .cont=>∃ aJ H',Inv X aa aJ H' s'/\D.ct aJ H'
 | .ret u=>∃v aJ H',Inv X aa aJ H' s'/\RelV v u/\D.rt v H'
def PE(X:Cx)(e:Expr)(t:TE):Prop := ∀(aa:List (Addr×Obj)) (s:Shared) (σ:St) (H:Hp) (Q:VK),Inv X aa σ H s->t σ H Q->wpAny (model X.prog X.w) X.A (eval e X.env) (EP X aa σ Q) X.xe s
def PT(X:Cx)(e:Expr)(t:TT):Prop := ∀(aa:List (Addr×Obj)) (s:Shared) (σ:St) (H:Hp) (Q:Bool->Hp->Prop),Inv X aa σ H s->t σ H Q->wpAny (model X.prog X.w) X.A (isTrue e X.env (eval e X.env)) (TP X aa σ Q) X.xe s
def PW(X:Cx)(e:Expr)(t:TT):Prop := ∀(vK:Sem Value) (aa:List (Addr×Obj)) (s:Shared) (σ:St) (H:Hp) (Q:Bool->Hp->Prop),Inv X aa σ H s->t σ H Q->wpAny (model X.prog X.w) X.A (isTrue e X.env vK) (TP X aa σ Q) X.xe s
def PW.pt(h:PW X e t):PT X e t:=h _
def PA(X:Cx)(es:List Expr)(t:TA):Prop := ∀(pos:Pos) (aa:List (Addr×Obj)) (s:Shared) (σ:St) (H:Hp) (Q:List V->Hp->Prop),Inv X aa σ H s->t σ H Q->wpAny (model X.prog X.w) X.A (spliced (backTo pos (starEach es X.env))) (AP X aa σ Q) X.xe s
def PS(X:Cx)(st:Stmt)(t:TS):Prop := ∀(aa:List (Addr×Obj)) (s:Shared) (σ:St) (H:Hp) (D:Ends),Inv X aa σ H s->t D σ H->wpAny (model X.prog X.w) X.A (exec st X.env) (SP X aa D) X.xe s
def dP(X:Cx)(st:List Stmt)(t:TS):Prop := ∀(aa:List (Addr×Obj)) (s:Shared) (σ:St) (H:Hp) (D:Ends),Inv X aa σ H s->t D σ H->wpAny (model X.prog X.w) X.A (execs st X.env) (SP X aa D) X.xe s
def au{Q Q':α->Shared->Prop}(h:wpAny M A t Q E s)(hQ:∀a s,Q a s->Q' a s):wpAny M A t Q' E s:=wpAny_mono h hQ λ_ _ x=>x
section
variable{X:Cx}
def bin(ha:PE X a ta)(hb:PE X b tb){σ:St}{R:V->V->Hp->Prop}(I:Inv X aa σ H s)(h:ta σ H λx H1=>tb σ H1 λy H2=>R x y H2) {f:Value->Value->Sem α} (hf:∀v u s2 x y H2,Inv X aa σ H2 s2->RelV x v->RelV y u->R x y H2->wpAny (model X.prog X.w) X.A (f v u) Q X.xe s2) : wpAny (model X.prog X.w) X.A (eval a X.env) (λv bv=>wpAny (model X.prog X.w) X.A (eval b X.env) (λu iD=>wpAny (model X.prog X.w) X.A (f v u) Q X.xe iD) X.xe bv) X.xe s:=by
 show au (ha aa s σ H _ I h) λv s1 ⟨x,H1,I1,r1,q1⟩=>(au (hb aa s1 σ H1 _ I1 q1) λu s2 ⟨y,H2,I2,r2,q2⟩=>?_);show hf v u s2 x y H2 I2 r1 r2 q2
inductive qd(i:Nat)(σ:St)(H:Hp)(Q:VK):Prop
 | mk:∀v,(σ[i]?=some (some v))->(Q v H)->qd i σ H Q
def tC(v:V):TE:=λ_ H Q=>Q v H
def Rc{pos:Pos}(hN:X.N[i]?=some x)(hv:qb X.env.scope x)(hd:(x==("__debug__":Str))=false:=by decide)(fU:(x==("__classdict__":Str))=false:=by decide):PE X (.Name x pos) (qd i):=by
 intro aa s σ H Q I h;obtain⟨v,e,h⟩:=h;obtain⟨m,hn,hl⟩:=I.loc;obtain⟨u,r,l⟩:=hl i x v hN e hv;have fin:EP X aa σ Q u s:=⟨v,H,I,r,h⟩;rcases l with⟨hk,hm⟩ | ⟨hk,c,hc,hcell⟩;.show wpAny_Name (wpAny_loadName_local I.ok.kind hk hn hm fin) hd
 .rcases hk with hk | hk;.show wpAny_Name (wpAny_loadName_cell I.ok.kind hk hc hcell fin) hd
  .show wpAny_Name (wpAny_loadName_free I.ok.kind hk hc hcell fin fU) hd
def e_:PE X (.Constant (.int i) j pos) (tC (.int i)):=λ_ _ _ H _ I h=>wpAny_Constant_int ⟨.int i,H,I.tok _,⟨_,μ⟩,h⟩
def eG:PE X (.Constant (.bool b) j pos) (tC (.bl b)):=λ_ _ _ H _ I h=>Constant_bool ⟨.bl b,H,I,μ,h⟩
def cX:PE X (.Constant .none j pos) (tC .ax):=λ_ _ _ H _ I h=>Constant_none ⟨.ax,H,I,μ,h⟩
def eI:PE X (.Constant (.str x) j pos) (tC (.str x)):=λ_ _ _ H _ I h=>Calls.Constant_str ⟨.str x,H,I.tok _,⟨_,μ⟩,h⟩
def Gl(X:Cx)(x:Str):Prop:=X.env.kindOf x=some .globalImplicit
def sJ{σ:St}(I:Inv X aa σ H s)(hg:Gl X x)(hm:X.mg x=some u)(h:Q u s) (hd:(x==("__debug__":Str))=false:=by decide):wpAny (model X.prog X.w) X.A (eval (.Name x pos) X.env) Q E s := Calls.Name_function_global I.ok.kind hg (Calls.loadGlobal_global (by rw[I.ok.glob];show I.mod.glob.keeps I.bk) hm h) hd
def hU{E:Value->Shared->Prop}{σ:St}{pos:Pos}(I:Inv X aa σ H s)(hg:Gl X x)(hm:X.mg x=none)(hv:bootBuiltins x=some u)(h:Q u s) (hn:x≠"__name__":=by decide) (hd:(x==("__debug__":Str))=false:=by decide):wpAny (model X.prog X.w) X.A (eval (.Name x pos) X.env) Q E s:=by
 obtain⟨mb,h1,h2⟩:=I.mod.blt;show Calls.Name_function_global I.ok.kind hg (Calls.loadGlobal_builtin (by rw[I.ok.glob];show I.mod.glob.keeps I.bk) hm (by rw[I.ok.blt];show h1.keeps I.bk) ((h2 x hn).trans hv) h) hd
def Re(hg:Gl X x)(hm:X.mg x=some u)(r:RelV v u)(hd:(x==("__debug__":Str))=false:=by decide):PE X (.Name x pos) (tC v) := λ_ _ _ H _ I h=>sJ I hg hm ⟨v,H,I,r,h⟩ hd
def Rf{pos:Pos}(hg:Gl X x)(hm:X.mg x=none)(hv:bootBuiltins x=some u)(r:RelV v u)(hn:x≠"__name__":=by decide)(hd:(x==("__debug__":Str))=false:=by decide):PE X (.Name x pos) (tC v) := λ_ _ _ H _ I h=>hU I hg hm hv ⟨v,H,I,r,h⟩ hn hd
inductive Hf(k:Int->Int->Hp->Prop)(x:V)(y:V)(H2:Hp):Prop
 | mk:∀i j,(x=.int i)->(y=.int j)->(k i j H2)->Hf k x y H2
def Rg(ta tb:TE)(k:Int->Int->Hp->Prop):St->Hp->Prop:=fun σ H=>ta σ H λx H1=>tb σ H1 (Hf k x)
def PC(X:Cx)(op:CmpOp)(a b:Expr)(t:TE):Prop := ∀(aa:List (Addr×Obj)) (s:Shared) (σ:St) (H:Hp) (Q:VK),Inv X aa σ H s->t σ H Q-> wpAny (model X.prog X.w) X.A (eval a X.env) (λv bv=>wpAny (model X.prog X.w) X.A (eval b X.env) (λu iD=>wpAny (model X.prog X.w) X.A (compareOp op v u) (EP X aa σ Q) X.xe iD) X.xe bv) X.xe s
def qe(p:Int->Int->Bool)(ta tb:TE):TE:=fun σ H Q=>Rg ta tb (λi j H2=>Q (.bl (p i j)) H2) σ H
abbrev tLt:TE->TE->TE:=qe λi j=>decide (i<j)
abbrev tLe:TE->TE->TE:=qe λi j=>decide (i<=j)
abbrev tGt:TE->TE->TE:=qe λi j=>decide (j<i)
abbrev tGe:TE->TE->TE:=qe λi j=>decide (j<=i)
abbrev a1l:TE->TE->TE:=qe λi j=>decide (i=j)
abbrev a1m:TE->TE->TE:=qe λi j=>!decide (i=j)
inductive Hg(Q:Bool->Hp->Prop)(x:V)(H1:Hp):Prop
 | mk:∀c,(x=.bl c)->(Q c H1)->Hg Q x H1
def tB(t:TE):TT:=fun σ H Q=>t σ H (Hg Q)
def Hh(h:PC X op a b t)(h1:behindInMarks op b=false:=by first | show nobehind _ ζ ζ | rfl):PT X (.Compare a [op] [b] pos) (tB t):=by
 show λaa s σ H Q I hw=>wpAny_isTrue_Compare1 (au (h aa s σ H _ I hw) λv s1 h1=>au h1 λu s2 h2=>au h2 λc s3 ⟨x,H1,I1,r1,q1⟩=>?_) h1;obtain⟨d,rfl,q⟩:=q1;cases r1;show wpAny_truthy_bool ⟨H1,I1,q⟩
def V_(h:PE X e t)(he:∀vK,isTrue e X.env vK=(do let v <-vK;standAt e.pos;holding [v] (truthy v)):=by intro _;rfl):PT X e (tB t):=by
 show λaa s σ H Q I hw=>isTrue_plain (au (h aa s σ H _ I hw) λv s1 ⟨x,H1,I1,r1,q1⟩=>?_)<|he _;obtain⟨d,rfl,q⟩:=q1;cases r1;show wpAny_truthy_bool ⟨H1,I1,q⟩
variable{rest:List Expr}
def Rh(t u:TT):TT:=fun σ H Q=>t σ H λc H1=>if c=true then u σ H1 Q else Q false H1
def Ri(t u:TT):TT:=fun σ H Q=>t σ H λc H1=>if c=true then Q true H1 else u σ H1 Q
def Rj(t:TT):TT:=fun σ H Q=>t σ H λc H1=>Q (!c) H1
def vM(ha:PT X a tA):PW X (.BoolOp .And [a] pos) tA:=by
 show λwh aa s σ H Q I h=>isTrue_and<|au (ha aa s σ H Q I h) λc s1 e=>?_
 cases c with
 | true=>show isTrue_and_nil e
 | false=>show e
def kA(ha:PT X a tA):PW X (.BoolOp .Or [a] pos) tA:=by
 show λwh aa s σ H Q I h=>isTrue_or<|au (ha aa s σ H Q I h) λc s1 e=>?_
 cases c with
 | false=>show isTrue_or_nil e
 | true=>show e
def vN(ha:PT X a tA)(hb:PW X (.BoolOp .And (b::rest) pos) vL):PW X (.BoolOp .And (a::b::rest) pos) (Rh tA vL):=by
 show λwh aa s σ H Q I h=>isTrue_and<|au (ha aa s σ H _ I h) λc s1 ⟨H1,I1,q1⟩=>?_
 cases c with
 | true=>show hb wh aa s1 σ H1 Q I1 q1
 | false=>show⟨H1,I1,q1⟩
def iY(ha:PT X a tA)(hb:PW X (.BoolOp .Or (b::rest) pos) vL):PW X (.BoolOp .Or (a::b::rest) pos) (Ri tA vL):=by
 show λwh aa s σ H Q I h=>isTrue_or<|au (ha aa s σ H _ I h) λc s1 ⟨H1,I1,q1⟩=>?_
 cases c with
 | true=>show⟨H1,I1,q1⟩
 | false=>show hb wh aa s1 σ H1 Q I1 q1
def cY(ha:PT X a tA):PT X (.UnaryOp .Not a pos) (Rj tA):=by show λaa s σ H Q I h=>isTrue_not<|ha aa s σ H _ I h
inductive Hi(tb:TE)(σ:St)(Q:VK)(x:V)(H1:Hp):Prop
 | mk:∀c,(x=.bl c)->(if c=true then tb σ H1 Q else Q (.bl false) H1)->Hi tb σ Q x H1
def Rk(ta tb:TE):TE:=fun σ H Q=>ta σ H (Hi tb σ Q)
inductive Hj(Q:VK)(x:V)(H1:Hp):Prop
 | mk:∀c,(x=.bl c)->(Q (.bl (!c)) H1)->Hj Q x H1
def Rl(ta:TE):TE:=fun σ H Q=>ta σ H (Hj Q)
def kE(h:PE X a t):PE X (.BoolOp op [a] pos) t:=λaa s σ H Q I hw=>BoolOp_one<|h aa s σ H Q I hw
def iZ(ha:PE X a ta)(hb:PE X (.BoolOp .And (b::rest) pos) tb):PE X (.BoolOp .And (a::b::rest) pos) (Rk ta tb):=by
 show λaa s σ H Q I h=>BoolOp_and<|au (ha aa s σ H _ I h) λv s1 ⟨x,H1,I1,r1,q1⟩=>?_;obtain⟨c,rfl,q1⟩:=q1;cases r1;show wpAny_truthy_bool ?_
 cases c with
 | true=>show hb aa s1 σ H1 Q I1 q1
 | false=>show⟨.bl _,H1,I1,μ,q1⟩
def AI(ha:PE X a ta):PE X (.UnaryOp .Not a pos) (Rl ta):=by
 show λaa s σ H Q I h=>UnaryOp_<|au (ha aa s σ H _ I h) λv s1 ⟨x,H1,I1,r1,q1⟩=>?_;obtain⟨c,rfl,q1⟩:=q1;cases r1;show not_of<|wpAny_truthy_bool ⟨.bl _,H1,I1,μ,q1⟩
end
def ae(K:PySem.W.Frag)(H:Hp)(a:Addr)(xs:List V):Prop := Rd H a (.lst xs)\/ ∃(o:Obj) (ad:Array Value) (n:Nat),K.lookup a=some o/\o.cls=.type "list"/\o.dict=none/\o.data=.seq ad n/\ad.size<=sizeLine/\aE xs ad.toList
def aB(K:PySem.W.Frag)(H:Hp)(a:Addr)(xs:List V):Prop := Rd H a (.tup xs)\/ ∃(o:Obj) (ad:Array Value) (n:Nat),K.lookup a=some o/\o.cls=.type "tuple"/\o.data=.seq ad n/\ad.size<=sizeLine/\aE xs ad.toList
noncomputable def Rm:Value->Option V
 | .none=>some .ax
 | .bool b=>some (.bl b)
 | .int i _=>some (.int i)
 | .str x _=>some (.str x)
 | .bytes b _=>some (.iA b)
 | .float b _=>some (.nL b)
 | .ref a=>some (.ref a)
 | .type n=>some (.ty n)
 | _=>none
def RelV.abs(r:RelV x u):Rm u=some x:=by
 cases x with
 | ax=>cases r;rfl
 | bl _=>cases r;rfl
 | int _=>obtain⟨t,rfl⟩:=r;rfl
 | str _=>obtain⟨t,rfl⟩:=r;rfl
 | iA _=>obtain⟨t,rfl⟩:=r;rfl
 | nL _=>obtain⟨t,rfl⟩:=r;rfl
 | ref _=>cases r;rfl
 | ty _=>cases r;rfl
def RelV.inj(r:RelV x u)(q:RelV y u):x=y:=a1Q (r.abs.symm.trans q.abs)
theorem aE.inj(a:aE xs us)(b:aE ys us):xs=ys:=by
 induction a generalizing ys with
 | nil=>cases b;rfl
 | cons r t ih =>
  cases b with
  | cons r' t'=>rw[r.inj r',ih t']
section
variable{σ:St}
def ae.of{K:PySem.W.Frag}(h:H a=some (.lst xs)):ae K H a xs:=.inl (.inl h)
def aB.of{K:PySem.W.Frag}(h:H a=some (.tup xs)):aB K H a xs:=.inl (.inl h)
def Inv.list(I:Inv X aa σ H s)(h:ae X.K H a xs):∃ad:List Value,aE xs ad/\PlainL s.heap a ad.toArray/\xs.length<=sizeLine:=by
 rcases h with h | ⟨o,ad,n,hk,hc,hd,hs,hz,r⟩
 .obtain⟨z,ad,n,r,e⟩:=h.ok I.am;show⟨ad,r,⟨_,n,e,μ,μ,μ⟩,z⟩
 .show⟨ad.toList,r,⟨o,n,I.cq a o hk,hc,hd,by simpa using hs⟩,?_⟩;have e:=r.length;simp only[a3K] at e;omega
def Inv.tuple(I:Inv X aa σ H s)(h:aB X.K H a xs):∃ad:List Value,aE xs ad/\IsTup s.heap a ad.toArray/\xs.length<=sizeLine:=by
 rcases h with h | ⟨o,ad,n,hk,hc,hs,hz,r⟩
 .obtain⟨z,ad,r,p⟩:=h.ok I.am;show⟨ad,r,p,z⟩
 .show⟨ad.toList,r,⟨o,I.cq a o hk,hc,n,by simpa using hs⟩,?_⟩;have e:=r.length;simp only[a3K] at e;omega
def Inv.nR(I:Inv X aa σ H s)(h:ae X.K H a xs)(h':ae X.K H a ys):xs=ys:=by
 obtain⟨ad,r,⟨o,n,e,_,_,d⟩,_⟩:=I.list h;obtain⟨its',r',⟨o',n',e',_,_,d'⟩,_⟩:=I.list h';rw[e] at e';cases e';rw[d] at d';have:ad=its':=by simp_all
 subst this;show r.inj r'
def Inv.Rn(I:Inv X aa σ H s)(h:aB X.K H a xs)(h':aB X.K H a ys):xs=ys:=by
 obtain⟨ad,r,⟨o,e,_,n,d⟩,_⟩:=I.tuple h;obtain⟨its',r',⟨o',e',_,n',d'⟩,_⟩:=I.tuple h';rw[e] at e';cases e';rw[d] at d';have:ad=its':=by simp_all
 subst this;show r.inj r'
end
noncomputable abbrev Cx.gb(X:Cx)(E:Value->Shared->Prop):Cx:={X with xe:=E}
noncomputable abbrev Cx.ja(X:Cx):Cx:=X.gb λ_ _=>False
theorem Cx.Ok.gb{X:Cx}(ok:X.Ok)(E:Value->Shared->Prop):(X.gb E).Ok := ⟨ok.mod,ok.kind,ok.glob,ok.blt,ok.above,ok.inj,ok.has,ok.nM,ok.hd,ok.frames,ok.qc,ok.sF,ok.bs,ok.iB,ok.nN,ok.nO,ok.gD,ok.kq⟩
def Cx.Ok.hV{X:Cx}(ok:(X.gb E).Ok):X.Ok := ⟨ok.mod,ok.kind,ok.glob,ok.blt,ok.above,ok.inj,ok.has,ok.nM,ok.hd,ok.frames,ok.qc,ok.sF,ok.bs,ok.iB,ok.nN,ok.nO,ok.gD,ok.kq⟩
section
variable{σ:St}
theorem Inv.gb(I:Inv X aa σ H s)(E:Value->Shared->Prop):Inv (X.gb E) aa σ H s:=⟨I.ok.gb E,I.os,I.bare,I.base,I.loc,I.cell,I.free,I.fH,I.pin,I.am,I.len⟩
theorem Inv.hV(I:Inv (X.gb E) aa σ H s):Inv X aa σ H s:=⟨I.ok.hV,I.os,I.bare,I.base,I.loc,I.cell,I.free,I.fH,I.pin,I.am,I.len⟩
theorem SP.hV(h:SP (X.gb E) aa D f s'):SP X aa D f s':=by
 cases f with
 | next=>obtain⟨aJ,H',I,q⟩:=h;show⟨aJ,H',I.hV,q⟩
 | brk=>obtain⟨aJ,H',I,q⟩:=h;show⟨aJ,H',I.hV,q⟩
 | cont=>obtain⟨aJ,H',I,q⟩:=h;show⟨aJ,H',I.hV,q⟩
 | ret u=>obtain⟨v,aJ,H',I,r,q⟩:=h;show⟨v,aJ,H',I.hV,r,q⟩
theorem dP.ja{st:List Stmt}(h:dP X.ja st t):dP X st t:=λaa s σ H D I hw => wpAny_mono (h aa s σ H D (I.gb _) hw) (λ_ _ q=>q.hV) λ_ _ z=>False.elim z
end
section
variable{st:Stmt}{rest:List Stmt}
def Ro:TS:=λD σ H=>D.nx σ H
def Rp(t u:TS):TS:=λD σ H=>t {D with nx:=u D} σ H
def q_:dP X [] Ro:=λ_ _ σ H _ I h=>wpAny_execs_nil ⟨σ,H,I,h⟩
def b_(h1:PS X st t)(h2:dP X rest u):dP X (st::rest) (Rp t u):=by
 show λaa s σ H D I h=>wpAny_execs_cons<|au (h1 aa s σ H {D with nx:=u D} I h) λf s1 q=>?_
 cases f with
 | next =>
  obtain⟨aJ,H',I',q⟩:=q;show h2 aa s1 aJ H' D I' q
 | ret v=>show q
 | brk=>show q
 | cont=>show q
def g_(h1:PS X st t):dP X [st] t:=by
 show λaa s σ H D I h=>wpAny_execs_cons<|au (h1 aa s σ H D I h) λf s1 q=>?_
 cases f with
 | next=>show wpAny_execs_nil q
 | ret v=>show q
 | brk=>show q
 | cont=>show q
def Inv.quiet{σ:St}(I:Inv X aa σ H s):interactive X.env=false:=by simp[interactive,I.ok.kind]
def Rq(te:TE):TS:=λD σ H=>te σ H λ_ H1=>D.nx σ H1
def G_(he:PE X e te)(hs:swapsWith e none pos.line X.env=pure false:=by rfl):PS X (.Expr e pos) (Rq te):=by show λaa s σ H D I h=>wpAny_Expr_any (au (he aa s σ H _ I h) λv s1 ⟨x,H1,I1,r1,q1⟩=>⟨σ,H1,I1,q1⟩) I.quiet hs
def Rr(te:TE):TS:=λD σ H=>te σ H D.rt
def m_(he:PE X e te):PS X (.Return (some e) pos) (Rr te):=by show λaa s σ H D I h=>wpAny_Return_some<|au (he aa s σ H _ I h) λv s1 ⟨x,H1,I1,r1,q1⟩=>⟨x,σ,H1,I1,r1,q1⟩
def Rs(c:TT)(t u:TS):TS:=λD σ H=>c σ H λb H1=>if b=true then t D σ H1 else u D σ H1
def E_(hc:PT X c tc)(ha:dP X a t)(hb:dP X b u):PS X (.If c a b pos) (Rs tc t u):=by
 show λaa s σ H D I h=>wpAny_If<|au (hc aa s σ H _ I h) λd s1 ⟨H1,I1,q1⟩=>?_
 cases d with
 | true=>show ha aa s1 σ H1 D I1 q1
 | false=>show hb aa s1 σ H1 D I1 q1
def Rt:TS:=λ_ _ _=>False
def jb:dP X Ru Rt:=λ_ _ _ _ _ _ h=>h.elim
end
abbrev TG:=V->St->Hp->(St->Hp->Prop)->Prop
abbrev iE:=List V->St->Hp->(St->Hp->Prop)->Prop
def PG(X:Cx)(Rv:Expr)(t:TG):Prop := ∀(aa:List (Addr×Obj)) (s:Shared) (σ:St) (H:Hp) (v:V) (u:Value) (Q:St->Hp->Prop),Inv X aa σ H s->RelV v u->t v σ H Q-> wpAny (model X.prog X.w) X.A (assign Rv X.env u) (λ_ s'=>∃ aJ H',Inv X aa aJ H' s'/\Q aJ H') X.xe s
def qf(X:Cx)(ts:List Expr)(t:iE):Prop := ∀(aa:List (Addr×Obj)) (s:Shared) (σ:St) (H:Hp) (vs:List V) (us:List Value) (Q:St->Hp->Prop),Inv X aa σ H s->aE vs us->t vs σ H Q-> wpAny (model X.prog X.w) X.A (assignInOrder ((assignEach ts X.env).map (·.2)) us) (λ_ s'=>∃ aJ H',Inv X aa aJ H' s'/\Q aJ H') X.xe s
abbrev AJ:=V->V->V->Hp->(Hp->Prop)->Prop
def Hk(X:Cx)(t:AJ):Prop := ∀(aa:List (Addr×Obj)) (s:Shared) (σ:St) (H:Hp) (o i v:V) (ov iv u:Value) (Q:Hp->Prop),Inv X aa σ H s->RelV o ov->RelV i iv->RelV v u->t o i v H Q-> wpAny (model X.prog X.w) X.A (setItem ov iv u) (λ_ s'=>∃H',Inv X aa σ H' s'/\Q H') X.xe s
abbrev AK:=V->V->Hp->VK->Prop
def Hl(X:Cx)(op:Operator)(t:AK):Prop := ∀(aa:List (Addr×Obj)) (s:Shared) (σ:St) (H:Hp) (x y:V) (v u:Value) (Q:VK),Inv X aa σ H s->RelV x v->RelV y u->t x y H Q-> wpAny (model X.prog X.w) X.A (inplaceOp op v u) (EP X aa σ Q) X.xe s
section
variable{pos:Pos}
def jc(i:Nat):TG:=λv σ H Q=>Q (σ.set i (some v)) H
def k_(i:Nat)(hf:X.fn x=true\/X.env.scope.names.lookup x=some .local:=by first | show .inl μ | show .inr μ | assumption)(hN:X.N.Nodup:=by show nd)(hi:X.N[i]?=some x:=by rfl)(hx:Loc X.env.scope x:=by first|show Or.inl μ|show Or.inr μ):PG X (.Name x pos) (jc i):=by show λaa s σ H v u Q I r h=>wpAny_assign_Name<|nQ I hN hi hx r (λs' I'=>⟨_,H,I',h⟩) hf
def vO:iE:=λvs σ H Q=>vs=[]/\Q σ H
inductive nU(t:TG)(u:iE)(vs:List V)(σ:St)(H:Hp)(Q:St->Hp->Prop):Prop
 | mk:∀v r,(vs=v::r)->(t v σ H λaJ H'=>u r aJ H' Q)->nU t u vs σ H Q
def fj:qf X [] vO:=by
 intro aa s σ H vs us Q I r h;obtain⟨e,h⟩:=h;subst e;cases r;show assignInOrder_nil ⟨σ,H,I,h⟩
def r_(h1:PG X e t)(h2:qf X es u) (hs:(assignEach (e::es) X.env).map (·.2)=assign e X.env::(assignEach es X.env).map (·.2):=by rfl):qf X (e::es) (nU t u):=by
 intro aa s σ H vs us Q I r h;obtain⟨v,vr,e1,h⟩:=h;subst e1
 cases r with
 | cons r rr =>
  rw[hs];show assignInOrder_cons<|au (h1 aa s σ H _ _ _ I r h) λ_ s1 ⟨iF,H1,I1,q1⟩=>(h2 aa s1 iF H1 _ _ Q I1 rr q1)
inductive qg(K:PySem.W.Frag)(n:Nat)(t:iE)(v:V)(σ:St)(H:Hp)(Q:St->Hp->Prop):Prop
 | mk:∀a xs,(v=.ref a)->(aB K H a xs)->(xs.length=n)->(t xs σ H Q)->qg K n t v σ H Q
def kF{k:Nat}(hc:X.calm=true)(h:qf X es t) (hn:(assignEach es X.env).length=n:=by rfl) (dZ:(assignEach es X.env).findIdx? (·.1)=none:=by rfl):PG X (.Tuple es k pos) (qg X.K n t):=by
 intro aa s σ H v u Q I r hw;obtain⟨a,xs,e1,hq,hl,hw⟩:=hw;subst e1;cases r;obtain⟨ad,rv,ht,hz⟩:=I.tuple hq;show assign_Tuple_tuple (I.ok.hd hc) ht (by simp[hn,<-hl,rv.length]) dZ λh' hx=>?_;have I1:Inv X aa σ H {s with heap:=h'}:=I.kept λb o e=>hx b o (a2e<|a1N e) e;show h aa _ σ H xs _ Q I1 (by simpa using rv) hw
def Rw(to ti:TE)(t:AJ):TG:=λv σ H Q=>to σ H λo H1=>ti σ H1 λi H2=>t o i v H2 λH3=>Q σ H3
def nV(ho:PE X o to)(hi:PE X i ti)(hs:Hk X t)
  (ha:∀v,assign (.Subscript o i pos) X.env v=(do
   let ov <-holding [v] (eval o X.env)
   let iv <-holding [v,ov] (eval i X.env)
   standAt pos
   holding [v,ov,iv] (setItem ov iv v)
   release [v,ov,iv] []):=by intro _;rfl):PG X (.Subscript o i pos) (Rw to ti t):=by
 intro aa s σ H v u Q I r h;rw[ha];show wpAny_bind<|wpAny_holding<|au (ho aa s σ H _ I h) λov s1 ⟨x,H1,I1,r1,q1⟩=>(wpAny_bind (wpAny_holding (au (hi aa s1 σ H1 _ I1 q1) λiv s2 ⟨y,H2,I2,r2,q2⟩=>?_)));show wpAny_bind<|wpAny_standAt<|wpAny_bind<|wpAny_holding<|au (hs aa s2 σ H2 x y v ov iv u _ I2 r1 r2 r q2) λ_ s3 ⟨H3,I3,q3⟩=>(wpAny_release ⟨σ,H3,I3,q3⟩)
def vP(te:TE)(g:TG):TS:=λD σ H=>te σ H λx H1=>g x σ H1 D.nx
def eJ(he:PE X e te)(hg:PG X tg g)(hs:swapsWithSole [tg] e pos.line X.env=pure false:=by rfl)(hw:swappedStores [tg] e X.env=pure none:=by rfl) (h1:(assignEach [tg] X.env).map (·.2)=[assign tg X.env]:=by rfl):PS X (.Assign [tg] e pos) (vP te g):=by
 show λaa s σ H D I h=>wpAny_Assign_stores (au (he aa s σ H _ I h) λv s1 ⟨x,H1,I1,r1,q1⟩=>?_) hs hw;rw[h1];show au (hg aa s1 σ H1 x v _ I1 r1 q1) λ_ s2 q=>q
def i_(i:Nat)(he:PE X e te)(hs:swapsWith e (some (.Name x iG)) pos.line X.env=pure false:=by rfl)(hf:X.fn x=true\/X.env.scope.names.lookup x=some .local:=by first | show .inl μ | show .inr μ | assumption)(hN:X.N.Nodup:=by show nd)(hi:X.N[i]?=some x:=by rfl)(hx:Loc X.env.scope x:=by first|show Or.inl μ|show Or.inr μ): PS X (.Assign [.Name x iG] e pos) (vP te (jc i)):=by
 show λaa s σ H D I h=>wpAny_Assign_Name (au (he aa s σ H _ I h) λv s1 ⟨y,H1,I1,r1,q1⟩=>?_) hs;show nQ I1 hN hi hx r1 (λs2 I2=>⟨_,H1,I2,q1⟩) hf
inductive Hm(i:Nat)(te:TE)(ti:AK)(D:Ends)(σ:St)(H:Hp):Prop
 | mk:∀x,(σ[i]?=some (some x))->(te σ H λy H1=>ti x y H1 λz H2=>D.nx (σ.set i (some z)) H2)->Hm i te ti D σ H
def Rx(hN:X.N.Nodup)(hi:X.N[i]?=some x)(hx:Loc X.env.scope x)(he:PE X e te)(ho:Hl X op ti)(hf:X.fn x=true\/X.env.scope.names.lookup x=some .local:=by first | show .inl μ | show .inr μ | assumption) : PS X (.AugAssign (.Name x iG) op e pos) (Hm i te ti):=by
 intro aa s σ H D I h;obtain⟨v,e1,h⟩:=h;obtain⟨m,hn,hl⟩:=I.loc;have Ry:qb X.env.scope x:=by rcases hx with k | k;show .inl k;show .inr<|.inl k
 obtain⟨u,r,l⟩:=hl i x v hi e1 Ry;show wpAny_AugAssign_Name ?_
 have go:wpAny (model X.prog X.w) X.A (eval e X.env) (λw iD=>wpAny (model X.prog X.w) X.A (inplaceOp op u w) (λr vQ=>wpAny (model X.prog X.w) X.A (storeName X.env x r) (λ_=>SP X aa D .next) X.xe vQ) X.xe iD) X.xe s:=by
  show au (he aa s σ H _ I h) λw s1 ⟨y,H1,I1,r1,q1⟩=>(au (ho aa s1 σ H1 v y u w _ I1 r r1 q1) λz s2 ⟨zv,H2,I2,r2,q2⟩=>?_);show nQ I2 hN hi hx r2 (λs3 I3=>⟨_,H2,I3,q2⟩) hf
 rcases l with⟨hk,hm⟩ | ⟨hk,c,hc,hcell⟩;.show wpAny_loadName_local I.ok.kind hk hn hm go
 .rcases hk with hk | hk;.show wpAny_loadName_cell I.ok.kind hk hc hcell go
  .rcases hx with k | k
   .have:X.env.scope.names.lookup x=some .free:=hk;rw[k] at this;cases this
   .have:X.env.scope.names.lookup x=some .free:=hk;rw[k] at this;cases this
inductive Hn(f:Int->Int->Int)(x:V)(y:V)(H:Hp)(Q:VK):Prop
 | mk:∀i j,(x=.int i)->(y=.int j)->(Q (.int (f i j)) H)->Hn f x y H Q
def Rz:Hl X .Add (Hn λi j=>i+j):=by
 intro aa s σ H x y v u Q I r1 r2 h;obtain⟨i,j,e1,e2,q⟩:=h;subst e1;subst e2;obtain⟨t,rfl⟩:=r1;obtain⟨t',rfl⟩:=r2;show iadd_int ⟨.int _,H,I.tok _,⟨_,μ⟩,q⟩
def RA(c:TT)(tb:TS):TS:=λD σ H=>∃W:Nat->St->Hp->Prop,(∃m,W m σ H)/\∀m σ H,W m σ H-> c σ H λb H1=>if b=true then ∃N:St->Hp->Prop,(∀ aJ H',N aJ H'->∃m',m'<m/\W m' aJ H')/\tb {D with nx:=N,ct:=N,bk:=D.nx} σ H1 else D.nx σ H1
def RB(hp:PassesOwn (model X.prog X.w) X.A X.env X.xe)(hc:PT X c tc)(hb:dP X body tb):PS X (.While c body [] pos) (RA tc tb):=by
 intro aa s σ H D I h;obtain⟨W,⟨m0,w0⟩,jd⟩:=h;show wpAny_While<|codeAny_whileLoop (λn s'=>∃ aJ H',Inv X aa aJ H' s'/\W n aJ H') ?_ m0 ⟨σ,H,I,w0⟩;rintro n s1 ⟨iF,H1,I1,w1⟩;show wpAny_passesOwn hp<|au (hc aa s1 iF H1 _ I1<|jd n iF H1 w1) λb s2 ⟨H2,I2,q2⟩=>?_
 cases b with
 | true =>
  obtain⟨N,hN,q2⟩:=q2;show wpAny_passesOwn hp<|au (hb aa s2 iF H2 _ I2 q2) λf s3 q3=>?_
  cases f with
  | next =>
   obtain⟨iH,H3,I3,n3⟩:=q3;obtain⟨m',hm,w3⟩:=hN iH H3 n3;show⟨m',hm,iH,H3,I3,w3⟩
  | cont =>
   obtain⟨iH,H3,I3,n3⟩:=q3;obtain⟨m',hm,w3⟩:=hN iH H3 n3;show⟨m',hm,iH,H3,I3,w3⟩
  | brk=>show q3
  | ret v=>show q3
 | false =>
  show wpAny_execs_nil ⟨iF,H2,I2,q2⟩
end
structure It where
 go:Nat->Hp->Prop
 gc:Nat->Hp->V->Hp->Prop
 stop:Nat->Hp->Prop
def hZ(X:Cx)(aa:List (Addr×Obj))(H:Hp)(b:Addr):Prop := H b=none/\b≠X.env.locals/\b∉X.fs/\(b∈X.ex\/X.cL.heap.objs.size<=b)/\(∀x c,X.env.cells.lookup x=some c->c≠b)/\∀p∈X.pn++aa,p.1≠b
def Inv.nW{σ:St}{b:Addr}(I:Inv X aa σ H s)(hb:s.heap.objs.size<=b)(hn:H' b=none):hZ X aa H' b:=by
 show⟨hn,a2K<|a2c I.lt hb,I.Q9 hb,.inr<|a2o I.sz hb,λx c e z=>?_,λp hp z=>?_⟩
 .obtain⟨v,q⟩:=I.cell x c e;show absurd (a2c q.lt<|by rw[z];show hb)<|a2O _
 .show absurd (a2c (a1N (I.pin p hp).1)<|by rw[z];show hb)<|a2O _
structure jC(P:Program)(w:World)(K:PySem.W.Frag)(tg:Expr)(J:It)(fp:List Addr)(it:Addr)(tn:Nat->Heap->Prop):Prop where
 mem:it∈fp
 obj:∀i h,tn i h->∀b∈fp,∃o,h.get? b=some o/\∀v,o.data≠.cell v
 keep:∀i h h',tn i h->(∀b∈fp,∀o,h.get? b=some o->h'.get? b=some o)->tn i h'
 item:∀(X:Cx),X.prog=P->X.w=w->X.K=K->X.calm=true->∀(i:Nat) (aa:List (Addr×Obj)) (s:Shared) (σ:St) (H:Hp) (E:Value->Shared->Prop),Inv X aa σ H s->(∀b∈fp,hZ X aa H b)->tn i s.heap->J.go i H->
  wpAny (model P w) X.A (pyNext (.ref it)) (λr s1=>∃u,r=some u/\
   wpAny (model P w) X.A (letOwnedTupleGo tg (.ref it) u) (λ_ s2=>∃x H',Inv X aa σ H' s2/\RelV x u/\J.gc i H x H'/\tn (i+1) s2.heap/\∀b∈fp,H' b=none) E s1) E s
 done:∀(X:Cx),X.prog=P->X.w=w->X.K=K->X.calm=true->∀(i:Nat) (aa:List (Addr×Obj)) (s:Shared) (σ:St) (H:Hp) (E:Value->Shared->Prop),Inv X aa σ H s->(∀b∈fp,hZ X aa H b)->tn i s.heap->J.stop i H->
  wpAny (model P w) X.A (pyNext (.ref it)) (λr s1=>r=none/\Inv X aa σ H s1) E s
 self:∀(A:Around) (i:Nat) (s:Shared) (Q:Value->Shared->Prop) (E:Value->Shared->Prop),tn i s.heap->Q (.ref it) s->wpAny (model P w) A (pyIter (.ref it)) Q E s
abbrev TI:=St->Hp->(It->Hp->Prop)->Prop
def Ho(X:Cx)(aa:List (Addr×Obj))(σ:St)(tg:Expr)(R:It->Hp->Prop)(vR:Value)(s2:Shared):Prop := ∃(it:Addr) (fp:List Addr) (tn:Nat->Heap->Prop) (J:It) (H':Hp),vR=.ref it/\Inv X aa σ H' s2/\jC X.prog X.w X.K tg J fp it tn/\tn 0 s2.heap/\(∀b∈fp,hZ X aa H' b)/\R J H'
def PI(X:Cx)(tg iter:Expr)(wi:TI):Prop := ∀(aa:List (Addr×Obj)) (s:Shared) (σ:St) (H:Hp) (R:It->Hp->Prop),Inv X aa σ H s->wi σ H R-> wpAny (model X.prog X.w) X.A (eval iter X.env) (λv s1=>wpAny (model X.prog X.w) X.A (pyIter v) (Ho X aa σ tg R) X.xe s1) X.xe s
def vS(ho:s.heap.get? it=some o)(hc:o.cls=.type n)(hd:o.data=.fields vs) (hn:["enumerate","zip","dict_itemiterator","dict_reverseitemiterator","odict_iterator","itertools.zip_longest","itertools.pairwise"].contains n=false) (hQ:Q () s):wpAny M A (letOwnedTupleGo tg (.ref it) u) Q E s:=by
 cases tg <;> first
  | show wpAny_pure hQ
  | (cases u <;> first
    | show wpAny_pure hQ
    | (show wpAny_bind<|wpAny_load ho ?_;show hc▸hd▸?_;change wpAny M A (if (["enumerate","zip","dict_itemiterator","dict_reverseitemiterator","odict_iterator","itertools.zip_longest","itertools.pairwise"].contains n&&vs[0]?==some _)=true then _ else _) Q E s;rw[if_neg (by intro h;rw[hn,a3p] at h;cases h)];show wpAny_pure hQ))
noncomputable def ma(K:PySem.W.Frag)(a:Addr):It := ⟨λi H=>∃xs x,ae K H a xs/\xs[i]?=some x,λi H x H'=>H'=H/\∀xs,ae K H a xs->xs[i]?=some x,λi H=>∃xs,ae K H a xs/\xs.length<=i⟩
noncomputable def sK(K:PySem.W.Frag)(a:Addr):It := ⟨λi H=>∃xs x,aB K H a xs/\xs[i]?=some x,λi H x H'=>H'=H/\∀xs,aB K H a xs->xs[i]?=some x,λi H=>∃xs,aB K H a xs/\xs.length<=i⟩
noncomputable def jD(lo:Int)(n:Nat):It:=⟨λi _=>i<n,λi H x H'=>H'=H/\x=.int (lo+i),λi _=>n<=i⟩
def RC{K:PySem.W.Frag}(a it:Addr):jC P w K tg (ma K a) [it] it (λi h=>h.IsListIter it a i) where
 mem:=by simp
 obj:=λi h st b hb=>by
  have e:b=it:=by simpa using hb
  subst e;obtain⟨o,e,c,d⟩:=st;show⟨o,e,λv z=>by rw[d] at z;cases z⟩
 keep:=λi h h' st k=>st.at λo e=>k it θ o e
 item:=by
  intro X hP hw hK hc i aa s σ H E I hf st hg;subst hP hw hK;obtain⟨xs,x,hq,hx⟩:=hg;obtain⟨ad,rv,p,hz⟩:=I.list hq;obtain⟨u,hu,ru⟩:=rv.get hx;obtain⟨f0,f1,f2,f3,f4,f5⟩:=hf it θ;show wpAny_pyNext_list_item st p.isList (by simpa using hu) λh' aq sb=>?_;have I1:Inv X aa σ H {s with heap:=h'}:=I.turned (λb o hb e=>(sb.2 b hb).trans e) f0 f1 f3 f4 f5;obtain⟨o,e,c,d⟩:=id aq;show⟨u,μ,vS e c d ζ ⟨x,H,I1,ru,⟨μ,λys hy=>by rw[I.nR hy hq];show hx⟩,aq,λb hb=>(hf b hb).1⟩⟩
 done:=by
  intro X hP hw hK hc i aa s σ H E I hf st hg;subst hP hw hK;obtain⟨xs,hq,hx⟩:=hg;obtain⟨ad,rv,p,hz⟩:=I.list hq;obtain⟨f0,f1,f2,f3,f4,f5⟩:=hf it θ;have hl:=rv.length;show wpAny_pyNext_list_end (I.ok.hd hc) st p.isList (by simp;omega) λh' eb=>⟨μ,I.turned (λb o hb e=>eb b o hb e) f0 f1 f3 f4 f5⟩
 self:=λ_ _ _ _ _ st h=>wpAny_pyIter_listiter st h
def RE{K:PySem.W.Frag}(a it:Addr):jC P w K tg (sK K a) [it] it (λi h=>h.IsTupleIter it a i) where
 mem:=by simp
 obj:=λi h st b hb=>by
  have e:b=it:=by simpa using hb
  subst e;obtain⟨o,e,c,d⟩:=st;show⟨o,e,λv z=>by rw[d] at z;cases z⟩
 keep:=λi h h' st k=>st.at λo e=>k it θ o e
 item:=by
  intro X hP hw hK hc i aa s σ H E I hf st hg;subst hP hw hK;obtain⟨xs,x,hq,hx⟩:=hg;obtain⟨ad,rv,p,hz⟩:=I.tuple hq;obtain⟨u,hu,ru⟩:=rv.get hx;obtain⟨f0,f1,f2,f3,f4,f5⟩:=hf it θ;show wpAny_pyNext_tuple_item st (show s.heap.IsTuple a _ from p) (by simpa using hu) λh' aq sb=>?_;have I1:Inv X aa σ H {s with heap:=h'}:=I.turned (λb o hb e=>(sb.2 b hb).trans e) f0 f1 f3 f4 f5;obtain⟨o,e,c,d⟩:=id aq;show⟨u,μ,vS e c d ζ ⟨x,H,I1,ru,⟨μ,λys hy=>by rw[I.Rn hy hq];show hx⟩,aq,λb hb=>(hf b hb).1⟩⟩
 done:=by
  intro X hP hw hK hc i aa s σ H E I hf st hg;subst hP hw hK;obtain⟨xs,hq,hx⟩:=hg;obtain⟨ad,rv,p,hz⟩:=I.tuple hq;obtain⟨f0,f1,f2,f3,f4,f5⟩:=hf it θ;have hl:=rv.length;show wpAny_pyNext_tuple_end (I.ok.hd hc) st (show s.heap.IsTuple a _ from p) (by simp;omega) λh' eb=>⟨μ,I.turned (λb o hb e=>eb b o hb e) f0 f1 f3 f4 f5⟩
 self:=λ_ _ _ _ _ st h=>wpAny_pyIter_tupleiter st h
def RF{K:PySem.W.Frag}(it:Addr)(lo:Int)(n:Nat):jC P w K tg (jD lo n) [it] it (λi h=>IsRangeIter h it (lo+(i:Nat)*1) ((n:Int)-(i:Nat)) 1) where
 mem:=by simp
 obj:=λi h st b hb=>by
  simp_all
 keep:=λi h h' st k=>k it θ _ st
 item:=by
  intro X hP hw hK hc i aa s σ H E I hf st hg;subst hP hw hK;obtain⟨f0,f1,f2,f3,f4,f5⟩:=hf it θ;have W:=Walks.range (prog:=X.prog) (w:=X.w) (I.ok.hd hc) it lo 1 n;show W.item i s _ _ hg st λv h' tk hv aq kk=>?_;obtain⟨t,rfl⟩:=hv;have I1:Inv X aa σ H {s with heap:=h',toks:=tk}:=I.turned (λb o hb e=>kk b o (by simpa using hb) e) f0 f1 f3 f4 f5;show⟨_,μ,vS aq μ μ ζ ⟨.int _,H,I1,⟨t,?_⟩,⟨μ,μ⟩,aq,λb hb=>(hf b hb).1⟩⟩;rw[a5n]
 done:=by
  intro X hP hw hK hc i aa s σ H E I hf st hg;obtain⟨f0,f1,f2,f3,f4,f5⟩:=hf it θ;show wpAny_pyNext_range_end (I.ok.hd hc) st (by have:n<=i:=hg;omega) λh' eb=>⟨μ,I.turned (λb o hb e=>eb b o hb e) f0 f1 f3 f4 f5⟩
 self:=λ_ _ _ _ _ st h=>wpAny_pyIter_rangeiter st h
section
variable{tg:Expr}
inductive Hq(K:PySem.W.Frag)(R:It->Hp->Prop)(x:V)(H1:Hp):Prop
 | mk:∀a,(x=.ref a)->((∃xs,ae K H1 a xs))->(R (ma K a) H1)->Hq K R x H1
def RG(K:PySem.W.Frag)(tl:TE):TI:=fun σ H R=>tl σ H (Hq K R)
inductive Hr(K:PySem.W.Frag)(R:It->Hp->Prop)(x:V)(H1:Hp):Prop
 | mk:∀a,(x=.ref a)->((∃xs,aB K H1 a xs))->(R (sK K a) H1)->Hr K R x H1
def RH(K:PySem.W.Frag)(tl:TE):TI:=fun σ H R=>tl σ H (Hr K R)
def I_(hl:PE X l tl):PI X tg l (RG X.K tl):=by
 show λaa s σ H R I h=>au (hl aa s σ H _ I h) λv s1 ⟨x,H1,I1,r1,q1⟩=>?_;obtain⟨a,e,⟨xs,hq⟩,q⟩:=q1;subst e;cases r1;obtain⟨ad,rv,p,hz⟩:=I1.list hq;show wpAny_pyIter_list p.isList (⟨s1.heap.objs.size,[s1.heap.objs.size],_,_,H1,μ,I1.kept (t':=s1.toks) λb o e=>a1J _ e,RC a _,⟨_,a1S _ μ,μ,μ⟩,λb hb=>?_,q⟩);have e:b=s1.heap.objs.size:=by simpa using hb
 subst e;show I1.nW (a1M _)<|I1.am.fresh<|a1M _
def RI(hl:PE X l tl):PI X tg l (RH X.K tl):=by
 show λaa s σ H R I h=>au (hl aa s σ H _ I h) λv s1 ⟨x,H1,I1,r1,q1⟩=>?_;obtain⟨a,e,⟨xs,hq⟩,q⟩:=q1;subst e;cases r1;obtain⟨ad,rv,p,hz⟩:=I1.tuple hq;show wpAny_pyIter_tuple (show s1.heap.IsTuple a _ from p) (⟨s1.heap.objs.size,[s1.heap.objs.size],_,_,H1,μ,I1.kept (t':=s1.toks) λb o e=>a1J _ e,RE a _,⟨_,a1S _ μ,μ,μ⟩,λb hb=>?_,q⟩);have e:b=s1.heap.objs.size:=by simpa using hb
 subst e;show I1.nW (a1M _)<|I1.am.fresh<|a1M _
def Hs{σ:St}{lo hi:Int}(I:Inv X aa σ H s)(h1 : -(2 ^ 62)<=lo)(h2:lo<2 ^ 62)(h3 : -(2 ^ 62)<=hi)(h4:hi<2 ^ 62) (q:R (jD lo (hi-lo).toNat) H):wpAny (model X.prog X.w) X.A (pyIter (.ref s.heap.objs.size)) (Ho X aa σ tg R) E {s with heap:=s.heap.push {cls:=.type "range",data:=.fields #[.int lo t,.int hi u,.int 1 v]},toks:=tk}:=by
 show wpAny_pyIter_range (IsRange.new ..) (small_one h1 h2 h3 h4) ?_;have I1:Inv X aa σ H {s with heap:=s.heap.push {cls:=.type "range",data:=.fields #[.int lo t,.int hi u,.int 1 v]},toks:=tk}:=I.kept λb o e=>a1J _ e;show⟨(s.heap.push {cls:=.type "range",data:=.fields #[.int lo t,.int hi u,.int 1 v]}).objs.size,[(s.heap.push {cls:=.type "range",data:=.fields #[.int lo t,.int hi u,.int 1 v]}).objs.size],_,_,H,μ, I1.kept λb o e=>a1J _ e,RF _ lo (hi-lo).toNat,?_,λb hb=>?_,q⟩
 .have e1:lo+ (0:Nat) *1=lo:=by simp
  have e2:(((hi-lo).toNat))- (0:Nat) =Builtin.Range.rangeSize lo hi 1:=by rw[rangeSize_one];split <;> omega
  rw[e1,e2];show a1S _ μ
 .have e:b=(s.heap.push {cls:=.type "range",data:=.fields #[.int lo t,.int hi u,.int 1 v]}).objs.size:=by simpa using hb
  subst e;show I1.nW (a1M _)<|I1.am.fresh<|a1M _
def RJ(ta:TA):TI:=fun σ H R=>ta σ H λvs H1=>∃j:Int,vs=[.int j]/\-(2 ^ 62)<=j/\j<2 ^ 62/\R (jD 0 j.toNat) H1
inductive Ht(R:It->Hp->Prop)(vs:List V)(H1:Hp):Prop
 | mk:∀i j:Int,(vs=[.int i,.int j])->((-(2 ^ 62)<=i/\i<2 ^ 62/\-(2 ^ 62)<=j/\j<2 ^ 62))->(R (jD i (j-i).toNat) H1)->Ht R vs H1
def RK(ta:TA):TI:=fun σ H R=>ta σ H (Ht R)
def z_(hg:Gl X "range")(hm:X.mg "range"=none)(ha:PA X [a] ta)(hs:starEach [a] X.env=[(false,eval a X.env)]:=by rfl):PI X tg (.Call (.Name "range" p) [a] [] pos) (RJ ta):=by
 show λaa s σ H R I h=>Call_<|hU I hg hm boot_range<|PyProof.Rows.callWith_type1 (au (ha pos aa s σ H _ I h) λus s1 ⟨vs,H1,I1,r1,q1⟩=>?_) hs μ;obtain⟨j,e,q1,q2,q⟩:=q1;subst e
 cases r1 with
 | cons r rr =>
  cases rr;obtain⟨t,rfl⟩:=r;show call_range_1<|Hs I1 (by omega) (by omega) q1 q2<|by simpa using q
def RL{p pos:Pos}(hg:Gl X "range")(hm:X.mg "range"=none)(ha:PA X [a,b] ta)(hs:starEach [a,b] X.env=[(false,eval a X.env),(false,eval b X.env)]:=by rfl)(cr:starEach [b] X.env=[(false,eval b X.env)]:=by rfl) : PI X tg (.Call (.Name "range" p) [a,b] [] pos) (RK ta):=by
 show λaa s σ H R I h=>Call_<|hU I hg hm boot_range<|PyProof.Rows.callWith_type1 (au (ha pos aa s σ H _ I h) λus s1 ⟨vs,H1,I1,r1,q1⟩=>?_) (by rw[hs,cr])<|by rw[cr];rfl
 obtain⟨i,j,e,⟨q1,q2,q3,q4⟩,q⟩:=q1;subst e
 cases r1 with
 | cons r rr =>
  cases rr with
  | cons r' rr =>
   cases rr;obtain⟨t,rfl⟩:=r;obtain⟨t',rfl⟩:=r';show call_range_2<|Hs I1 q1 q2 q3 q4 q
def RM(wi:TI)(g:TG)(tb:TS):TS:=λD σ H=>wi σ H λJ H1=>∃W:Nat->Nat->St->Hp->Prop,(∃m,W 0 m σ H1)/\∀i m σ H,W i m σ H-> (J.stop i H/\D.nx σ H)\/(J.go i H/\∃N:St->Hp->Prop,(∀ aJ H',N aJ H'->∃m',m'<m/\W (i+1) m' aJ H')/\∀x H',J.gc i H x H'->g x σ H' λbJ H2=>tb {D with nx:=N,ct:=N,bk:=D.nx} bJ H2)
noncomputable def me(fp:List Addr)(h:Heap):List (Addr×Obj):=fp.filterMap λb=>(h.get? b).map λo=>(b,o)
def vT(hb:b∈fp)(e:h.get? b=some o):(b,o)∈me fp h:=List.mem_filterMap.mpr ⟨b,hb,by rw[e];rfl⟩
def Hu(hp:p∈me fp h):p.1∈fp/\h.get? p.1=some p.2:=by
 obtain⟨b,hb,e⟩:=List.mem_filterMap.mp hp
 cases q:h.get? b with
 | none=>rw[q] at e;cases e
 | some o =>
  rw[q] at e;have e':=a1Q e;subst e';show⟨hb,q⟩
def Inv.pinned{σ:St}(I:Inv X aa σ H s)(hf:∀b∈fp,hZ X aa H b)(ho:∀b∈fp,∃o,s.heap.get? b=some o/\∀v,o.data≠.cell v):Inv X (aa++me fp s.heap) σ H s :=
 I.vI λp hp=>(a2l.mp hp).elim (λz=>I.pin p<|a2g _ z) λz=>by
  obtain⟨hb,e⟩:=Hu z;obtain⟨f0,f1,f2,_⟩:=hf p.1 hb;obtain⟨o,e',d⟩:=ho p.1 hb;rw[e] at e';cases e';show⟨e,f0,f1,f2,d⟩
def Inv.vU{σ:St}(I:Inv X (aa++pl) σ H s):Inv X aa σ H s:=I.vI λp hp=>I.pin p<|a2g _<|a2n _ hp
def B_(hp:PassesOwn (model X.prog X.w) X.A X.env X.xe)(hc:X.calm=true)(hi:PI X tg iter wi)(hg:PG X tg g)(hb:dP X body tb) (hs:∀x,foldedSetIterable iter X.env x=pure x:=by intro _;rfl):PS X (.For tg iter body [] pos) (RM wi g tb):=by
 show λaa s σ H D I h=>wpAny_For (au (hi aa s σ H _ I h) λv s1 h1=>au h1 λvR s2 h2=>?_) hs;obtain⟨it,fp,tn,J,H2,e,I2,T,bn,f2,W,⟨m0,w0⟩,jd⟩:=h2;subst e;have nX:∀ {H':Hp},(∀b∈fp,H' b=none)->∀b∈fp,hZ X aa H' b:=λhn b hb=>⟨hn b hb,(f2 b hb).2⟩;show codeAny_forLoop_any (λn s'=>∃i aJ H',Inv X aa aJ H' s'/\tn i s'.heap/\(∀b∈fp,H' b=none)/\W i n aJ H') ?_ m0 ⟨0,σ,H2,I2,bn,λb hb=>(f2 b hb).1,w0⟩;rintro n s3 ⟨i,iH,H3,I3,bS,Hw,w3⟩;rcases jd i n iH H3 w3 with⟨stop,qn⟩ | ⟨go,N,hN,step⟩
 .show wpAny_passesOwn hp<|au (T.done X μ μ μ hc i aa s3 iH H3 X.xe I3 (nX Hw) bS stop) λr s4 ⟨hr,I4⟩=>?_;subst hr;show wpAny_execs_nil ⟨iH,H3,I4,qn⟩
 .show wpAny_passesOwn hp<|au (T.item X μ μ μ hc i aa s3 iH H3 X.xe I3 (nX Hw) bS go) λr s4 ⟨u,hr,h4⟩=>?_;subst hr;show wpAny_passesOwn hp<|au h4 λ_ s5 ⟨x,H5,I5,r5,y5,nY,AL⟩=>?_;have AM:=I5.pinned (nX AL) (T.obj _ _ nY);show wpAny_passesOwn hp<|au (hg _ s5 iH H5 x u _ AM r5<|step x H5 y5) λ_ s6 ⟨jE,H6,I6,q6⟩=>(wpAny_passesOwn hp (au (hb _ s6 jE H6 _ I6 q6) λf s7 q7=>?_))
  have again:∀ {eL:St} {H7:Hp},Inv X (aa++me fp s5.heap) eL H7 s7->N eL H7->∃m,m<n/\∃i aJ H',Inv X aa aJ H' s7/\tn i s7.heap/\(∀b∈fp,H' b=none)/\W i m aJ H':=λ{eL H7} I7 n7=>by
   obtain⟨m',hm,w7⟩:=hN eL H7 n7;show⟨m',hm,i+1,eL,H7,I7.vU,T.keep _ _ _ nY λb hb o e=>(I7.pin (b,o)<|a2g _<|a2g _<|vT hb e).1,λb hb=>?_,w7⟩;obtain⟨o,e,d⟩:=T.obj _ _ nY b hb;show(I7.pin (b,o)<|a2g _<|a2g _<|vT hb e).2.1
  cases f with
  | next=>obtain⟨eL,H7,I7,n7⟩:=q7;show again I7 n7
  | cont=>obtain⟨eL,H7,I7,n7⟩:=q7;show again I7 n7
  | brk=>obtain⟨eL,H7,I7,q7⟩:=q7;show⟨eL,H7,I7.vU,q7⟩
  | ret v=>obtain⟨x7,eL,H7,I7,r7,q7⟩:=q7;show⟨x7,eL,H7,I7.vU,r7,q7⟩
end
def Y_{K:PySem.W.Frag}{g:TG}{tb:TS}{D:Ends}(Pv:Nat->St->Hp->Prop)(h0:Pv 0 σ H)(hl:∀i σ H,i<=xs.length->Pv i σ H->ae K H a xs) (hs:∀i x σ H,xs[i]?=some x->Pv i σ H->g x σ H λbJ H2=>tb {D with nx:=Pv (i+1),ct:=Pv (i+1),bk:=D.nx} bJ H2) (hd:∀ σ H,Pv xs.length σ H->D.nx σ H) : ∃W:Nat->Nat->St->Hp->Prop,(∃m,W 0 m σ H)/\∀i m σ H,W i m σ H-> ((ma K a).stop i H/\D.nx σ H)\/((ma K a).go i H/\∃N:St->Hp->Prop,(∀ aJ H',N aJ H'->∃m',m'<m/\W (i+1) m' aJ H')/\∀x H',(ma K a).gc i H x H'->g x σ H' λbJ H2=>tb {D with nx:=N,ct:=N,bk:=D.nx} bJ H2):=by
 show⟨λi m σ H=>m=xs.length-i/\i<=xs.length/\Pv i σ H,⟨xs.length,θ,a2u _,h0⟩,?_⟩;rintro i m σ H ⟨rfl,hi,p⟩;have q:=hl i σ H hi p;by_cases aL:i<xs.length
 .show .inr ⟨⟨xs,xs[i],q,by simp[aL]⟩,Pv _,λaJ H' p'=>⟨xs.length-(i+1),by omega,μ,aL,p'⟩,λx H' y=>?_⟩;obtain⟨e,y⟩:=y;subst e;show hs i x σ _ (y xs q) p
 .have e:i=xs.length:=by omega
  subst e;show .inl ⟨⟨xs,q,a1M _⟩,hd σ H p⟩
def H_{lo:Int}{g:TG}{tb:TS}{D:Ends}(Pv:Nat->St->Hp->Prop)(h0:Pv 0 σ H) (hs:∀i σ H,i<n->Pv i σ H->g (.int (lo+i)) σ H λbJ H2=>tb {D with nx:=Pv (i+1),ct:=Pv (i+1),bk:=D.nx} bJ H2) (hd:∀ σ H,Pv n σ H->D.nx σ H) : ∃W:Nat->Nat->St->Hp->Prop,(∃m,W 0 m σ H)/\∀i m σ H,W i m σ H-> ((jD lo n).stop i H/\D.nx σ H)\/((jD lo n).go i H/\∃N:St->Hp->Prop,(∀ aJ H',N aJ H'->∃m',m'<m/\W (i+1) m' aJ H')/\∀x H',(jD lo n).gc i H x H'->g x σ H' λbJ H2=>tb {D with nx:=N,ct:=N,bk:=D.nx} bJ H2):=by
 show⟨λi m σ H=>m=n-i/\i<=n/\Pv i σ H,⟨n,θ,a2u _,h0⟩,?_⟩;rintro i m σ H ⟨rfl,hi,p⟩;by_cases aL:i<n
 .show .inr ⟨aL,Pv _,λaJ H' p'=>⟨n-(i+1),by omega,μ,aL,p'⟩,λx H' y=>?_⟩;obtain⟨e,y⟩:=y;subst e y;show hs i σ _ aL p
 .have e:i=n:=by omega
  subst e;show .inl ⟨a1M _,hd σ H p⟩
abbrev R2:=V->V->Hp->VK->Prop
def cz(X:Cx)(f:Value->Value->Sem Value)(r:R2):Prop := ∀(aa:List (Addr×Obj)) (s:Shared) (σ:St) (H:Hp) (x y:V) (v u:Value) (Q:VK),Inv X aa σ H s->RelV x v->RelV y u->r x y H Q-> wpAny (model X.prog X.w) X.A (f v u) (EP X aa σ Q) X.xe s
def AN(X:Cx)(f:Value->Sem Value)(r:V->Hp->VK->Prop):Prop := ∀(aa:List (Addr×Obj)) (s:Shared) (σ:St) (H:Hp) (x:V) (v:Value) (Q:VK),Inv X aa σ H s->RelV x v->r x H Q-> wpAny (model X.prog X.w) X.A (f v) (EP X aa σ Q) X.xe s
def cZ(X:Cx)(f:Value)(r:List V->Hp->VK->Prop):Prop := ∀(aa:List (Addr×Obj)) (s:Shared) (σ:St) (H:Hp) (xs:List V) (us:List Value) (Q:VK),Inv X aa σ H s->aE xs us->r xs H Q-> wpAny (model X.prog X.w) X.A (call f us) (EP X aa σ Q) X.xe s
def mf(r:R2)(ta tb:TE):TE:=fun σ H Q=>ta σ H λx H1=>tb σ H1 λy H2=>r x y H2 Q
def RN(r:V->Hp->VK->Prop)(ta:TE):TE:=fun σ H Q=>ta σ H λx H1=>r x H1 Q
inductive rI(C:Int->Int->Prop)(g:Int->Int->V)(x:V)(y:V)(H:Hp)(Q:VK):Prop
 | mk:∀i j,(x=.int i)->(y=.int j)->(C i j)->(Q (g i j) H)->rI C g x y H Q
inductive kG(g:Int->Int->V)(x:V)(y:V)(H:Hp)(Q:VK):Prop
 | mk:∀i j,(x=.int i)->(y=.int j)->(Q (g i j) H)->kG g x y H Q
inductive rU(g:Int->V)(x:V)(H:Hp)(Q:VK):Prop
 | mk:∀i,(x=.int i)->(Q (g i) H)->rU g x H Q
def AO(ha:PE X a ta)(hb:PE X b tb){σ:St}{R:V->V->Hp->Prop}(I:Inv X aa σ H s) (h:ta σ H λx H1=>tb σ H1 λy H2=>R x y H2)  {f:Value->Value->Sem Value} (hf:∀v u s2 x y H2,Inv X aa σ H2 s2->RelV x v->RelV y u->R x y H2->wpAny (model X.prog X.w) X.A (f v u) Q X.xe s2) : wpAny (model X.prog X.w) X.A (eval a X.env) (λv bv=>wpAny (model X.prog X.w) X.A (eval b X.env) (λu iD=>wpAny (model X.prog X.w) X.A (f v u) Q X.xe iD) X.xe bv) X.xe s:=by
 show au (ha aa s σ H _ I h) λv s1 ⟨x,H1,I1,r1,q1⟩=>(au (hb aa s1 σ H1 _ I1 q1) λu s2 ⟨y,H2,I2,r2,q2⟩=>?_);show hf v u s2 x y H2 I2 r1 r2 q2
def n_(ho:cz X (binaryOp op) r)(ha:PE X a ta)(hb:PE X b tb):PE X (.BinOp a op b pos) (mf r ta tb):=by show λaa s σ H Q I h=>wpAny_BinOp<|AO ha hb I h λv u s2 x y H2 I2 rx ry q=>ho aa s2 σ H2 x y v u Q I2 rx ry q
def eO(ho:AN X (unaryOp op) r)(ha:PE X a ta):PE X (.UnaryOp op a pos) (RN r ta):=by show λaa s σ H Q I h=>UnaryOp_<|au (ha aa s σ H _ I h) λv s1 ⟨x,H1,I1,r1,q1⟩=>ho aa s1 σ H1 x v Q I1 r1 q1
def vV{g:Int->Int->Int} (rule:∀ i j   t u   s   Q   E ,C i j->Q (.int (g i j) s.toks) {s with toks:=s.toks+1}->wpAny (model X.prog X.w) X.A (f (.int i t) (.int j u)) Q E s) : cz X f (rI C λi j=>.int (g i j)):=by
 intro aa s σ H x y v u Q I rx ry h;obtain⟨i,j,rfl,rfl,hc,q⟩:=h;obtain⟨t,rfl⟩:=rx;obtain⟨t',rfl⟩:=ry;show rule i j t t' s _ _ hc ⟨.int<|g i j,H,I.tok _,⟨_,μ⟩,q⟩
def Hx{g:Int->Int->Int} (rule:∀ i j   t u   s   Q   E ,Q (.int (g i j) s.toks) {s with toks:=s.toks+1}->wpAny (model X.prog X.w) X.A (f (.int i t) (.int j u)) Q E s) : cz X f (kG λi j=>.int (g i j)):=by
 intro aa s σ H x y v u Q I rx ry h;obtain⟨i,j,rfl,rfl,q⟩:=h;obtain⟨t,rfl⟩:=rx;obtain⟨t',rfl⟩:=ry;show rule i j t t' s _ _ ⟨.int<|g i j,H,I.tok _,⟨_,μ⟩,q⟩
def vW{g:Int->Int->Bool} (rule:∀ i j   t u   s   Q   E ,Q (.bool (g i j)) s->wpAny (model X.prog X.w) X.A (f (.int i t) (.int j u)) Q E s) : cz X f (kG λi j=>.bl (g i j)):=by
 intro aa s σ H x y v u Q I rx ry h;obtain⟨i,j,rfl,rfl,q⟩:=h;obtain⟨t,rfl⟩:=rx;obtain⟨t',rfl⟩:=ry;show rule i j t t' s _ _ ⟨.bl<|g i j,H,I,μ,q⟩
def RO(i j:Int):Prop:=0<j/\j<1073741824
def RP(i j:Int):Prop:=0<=j/\j<=1000000/\i.natAbs<2 ^ 64
def qh(i j:Int):Prop:=(-(2 ^ 64)<i/\i<2 ^ 64)\/(-(2 ^ 64)<j/\j<2 ^ 64)
def qh.ok(h:qh i j):IntMulOk i j:=by
 rcases h with⟨h1,h2⟩ | ⟨h1,h2⟩;.show .of_left<|intBits_le_64 h1 h2
 .show .of_right<|intBits_le_64 h1 h2
def u_:cz X (binaryOp .Add) (kG λi j=>.int (i+j)):=Hx λ_ _ _ _ _ _ _ q=>add_int q
def R_:cz X (binaryOp .Sub) (kG λi j=>.int (i-j)):=Hx λ_ _ _ _ _ _ _ q=>sub_int q
def Q_:cz X (binaryOp .Mult) (rI qh λi j=>.int (i*j)):=vV λ_ _ _ _ _ _ _ hc q=>mul_int q hc.ok
def vX:cz X (binaryOp .FloorDiv) (rI RO λi j=>.int (i / j)):=vV λi j _ _ _ _ _ hc q=>by
 have h1:=hc.1;have h2:=hc.2;show floordiv_int (by omega) (by rw[Int.fdiv_eq_ediv_of_nonneg i (by omega)];show q)<|.inl<|PyProof.noPylong_small<|by omega
def jF:cz X (binaryOp .Mod) (rI (λ_ j=>0<j) λi j=>.int (i % j)):=vV λi j _ _ _ _ _ hc q=>by show mod_int' (by omega)<|by rw[Int.fmod_eq_emod_of_nonneg i (by omega)];show q
def nZ:cz X (binaryOp .Pow) (rI RP λi j=>.int (i ^ j.toNat)):=vV λ_ _ _ _ _ _ _ hc q=>pow_int_small hc.1 hc.2.1 hc.2.2 q
def RQ{g:Int->Int} (rule:∀ i   t   s   Q   E ,Q (.int (g i) s.toks) {s with toks:=s.toks+1}->wpAny (model X.prog X.w) X.A (f (.int i t)) Q E s) : AN X f (rU λi=>.int (g i)):=by
 intro aa s σ H x v Q I rx h;obtain⟨i,rfl,q⟩:=h;obtain⟨t,rfl⟩:=rx;show rule i t s _ _ ⟨.int<|g i,H,I.tok _,⟨_,μ⟩,q⟩
def eQ:AN X (unaryOp .USub) (rU λi=>.int (-i)):=RQ λ_ _ _ _ _ q=>neg_int q
noncomputable def Hy:V->V->Bool
 | .ax,.ax=>true | .ax,.int _=>true | .int _,.ax=>true | .ax,.bl _=>true | .bl _,.ax=>true | .ax,.str _=>true | .str _,.ax=>true
 | .int _,.int _=>true | .bl _,.bl _=>true | .str _,.str _=>true | .iA _,.iA _=>true
 | .int _,.str _=>true | .str _,.int _=>true | .bl _,.str _=>true | .str _,.bl _=>true
 | _,_=>false
def RS:R2:=λx y H Q=>Hy x y=true/\Q (.bl (decide (x=y))) H
def RT:R2:=λx y H Q=>Hy x y=true/\Q (.bl (!decide (x=y))) H
def Hz:decide (V.int i=V.int j)=(i==j):=by
 rw[a4K];simp
def HA:decide (V.bl i=V.bl j)=(i==j):=by
 rw[a4K];simp
def HB:decide (V.str i=V.str j)=(i==j):=by
 rw[a4K];simp
def HC:decide (V.iA i=V.iA j)=(i.toList==j.toList):=by
 rw[a4K];cases i;cases j;simp
def P_{σ:St}(I:Inv X aa σ H s)(q:Q (.bl k) H)(e:k=k'):EP X aa σ Q (.bool k') s:=by
 subst e;show⟨.bl k,H,I,μ,q⟩
def dI:cz X (compareOp .Eq) RS:=by
 intro aa s σ H x y v u Q I rx ry h;obtain⟨hs,q⟩:=h
 cases x with
 | ax =>
  cases rx
  cases y with
  | ax=>cases ry;show PySem.EqNone.eq_none_none<|P_ I q<|by simp
  | bl j=>cases ry;show PySem.EqNone.eq_none_bool<|P_ I q<|by simp
  | int j=>obtain⟨t',rfl⟩:=ry;show PySem.EqNone.eq_none_int<|P_ I q<|by simp
  | str j=>obtain⟨t',rfl⟩:=ry;show PySem.EqNone.eq_none_str<|P_ I q<|by simp
  | _=>show absurd (show false=true from hs) a1Y
 | bl i =>
  cases rx
  cases y with
  | ax=>cases ry;show PySem.EqNone.eq_bool_none<|P_ I q<|by simp
  | bl j=>cases ry;show eq_bool<|P_ I q HA
  | str j=>obtain⟨t',rfl⟩:=ry;show PySem.EqMixed.eq_bool_str<|P_ I q<|by simp
  | _=>show absurd (show false=true from hs) a1Y
 | int i =>
  obtain⟨t,rfl⟩:=rx
  cases y with
  | ax=>cases ry;show PySem.EqNone.eq_int_none<|P_ I q<|by simp
  | int j=>obtain⟨t',rfl⟩:=ry;show eq_int<|P_ I q Hz
  | str j=>obtain⟨t',rfl⟩:=ry;show PySem.EqMixed.eq_int_str<|P_ I q<|by simp
  | _=>show absurd (show false=true from hs) a1Y
 | str i =>
  obtain⟨t,rfl⟩:=rx
  cases y with
  | ax=>cases ry;show PySem.EqNone.eq_str_none<|P_ I q<|by simp
  | bl j=>cases ry;show PySem.EqMixed.eq_str_bool<|P_ I q<|by simp
  | int j=>obtain⟨t',rfl⟩:=ry;show PySem.EqMixed.eq_str_int<|P_ I q<|by simp
  | str j=>obtain⟨t',rfl⟩:=ry;show eq_str<|P_ I q HB
  | _=>show absurd (show false=true from hs) a1Y
 | iA i =>
  obtain⟨t,rfl⟩:=rx
  cases y with
  | iA j=>obtain⟨t',rfl⟩:=ry;show PySem.W.eq_bytes<|P_ I q HC
  | _=>show absurd (show false=true from hs) a1Y
 | _=>cases y <;> show absurd (show false=true from hs) a1Y
def vY:cz X (compareOp .NotEq) RT:=by
 intro aa s σ H x y v u Q I rx ry h;obtain⟨hs,q⟩:=h
 cases x with
 | ax =>
  cases rx
  cases y with
  | ax=>cases ry;show PySem.EqNone.ne_none_none (P_ I q θ)
  | bl j=>cases ry;show PySem.EqNone.ne_none_bool (P_ I q θ)
  | int j=>obtain⟨t',rfl⟩:=ry;show PySem.EqNone.ne_none_int (P_ I q θ)
  | str j=>obtain⟨t',rfl⟩:=ry;show PySem.EqNone.ne_none_str (P_ I q θ)
  | _=>show absurd (show false=true from hs) a1Y
 | bl i =>
  cases rx
  cases y with
  | ax=>cases ry;show PySem.EqNone.ne_bool_none (P_ I q θ)
  | bl j=>cases ry;show ne_bool (P_ I q (congrArg not HA))
  | str j=>obtain⟨t',rfl⟩:=ry;show PySem.EqMixed.ne_bool_str (P_ I q θ)
  | _=>show absurd (show false=true from hs) a1Y
 | int i =>
  obtain⟨t,rfl⟩:=rx
  cases y with
  | ax=>cases ry;show PySem.EqNone.ne_int_none (P_ I q θ)
  | int j=>obtain⟨t',rfl⟩:=ry;show ne_int (P_ I q (congrArg not Hz))
  | str j=>obtain⟨t',rfl⟩:=ry;show PySem.EqMixed.ne_int_str (P_ I q θ)
  | _=>show absurd (show false=true from hs) a1Y
 | str i =>
  obtain⟨t,rfl⟩:=rx
  cases y with
  | ax=>cases ry;show PySem.EqNone.ne_str_none (P_ I q θ)
  | bl j=>cases ry;show PySem.EqMixed.ne_str_bool (P_ I q θ)
  | int j=>obtain⟨t',rfl⟩:=ry;show PySem.EqMixed.ne_str_int (P_ I q θ)
  | str j=>obtain⟨t',rfl⟩:=ry;show ne_str (P_ I q (congrArg not HB))
  | _=>show absurd (show false=true from hs) a1Y
 | iA i =>
  obtain⟨t,rfl⟩:=rx
  cases y with
  | iA j=>obtain⟨t',rfl⟩:=ry;show PySem.W.ne_bytes (P_ I q (congrArg not HC))
  | _=>show absurd (show false=true from hs) a1Y
 | _=>cases y <;> show absurd (show false=true from hs) a1Y
def kH:cz X (compareOp .Lt) (kG λi j=>.bl (decide (i<j))):=vW λ_ _ _ _ _ _ _ q=>lt_int q
def jG:cz X (compareOp .LtE) (kG λi j=>.bl (decide (i<=j))):=vW λ_ _ _ _ _ _ _ q=>le_int q
def mh:cz X (compareOp .Gt) (kG λi j=>.bl (decide (j<i))):=vW λ_ _ _ _ _ _ _ q=>gt_int q
def vZ:cz X (compareOp .GtE) (kG λi j=>.bl (decide (j<=i))):=vW λ_ _ _ _ _ _ _ q=>ge_int q
def mi:cz X (compareOp .Is) (λx y H Q=>y=.ax/\Q (.bl (decide (x=.ax))) H):=by
 intro aa s σ H x y v u Q I rx ry h;obtain⟨rfl,q⟩:=h;cases ry;show is_none_gen<|P_ I q ?_;cases x <;> first | (cases rx;rfl) | (obtain⟨t,rfl⟩:=rx;rfl)
def aY(b:Expr)(h:op≠.In:=by decide)(h2:op≠.NotIn:=by decide):behindInMarks op b=false:=by
 have e1:(op==CmpOp.In)=false:=by grind
 have e2:(op==CmpOp.NotIn)=false:=by grind
 cases b <;> simp[behindInMarks,e1,e2]
def ge(ho:cz X (compareOp op) r)(ha:PE X a ta)(hb:PE X b tb)(hm:behindInMarks op b=false):PE X (.Compare a [op] [b] pos) (mf r ta tb):=by show λaa s σ H Q I h=>wpAny_Compare1 (AO ha hb I h λv u s2 x y H2 I2 rx ry q=>ho aa s2 σ H2 x y v u Q I2 rx ry q) hm
inductive HD(Q:Bool->Hp->Prop)(x:V)(H':Hp):Prop
 | mk:∀k,(x=.bl k)->(Q k H')->HD Q x H'
def HE(t:TE):TT:=fun σ H Q=>t σ H (HD Q)
def t_(ho:cz X (compareOp op) r)(ha:PE X a ta)(hb:PE X b tb)(hm:behindInMarks op b=false):PT X (.Compare a [op] [b] pos) (HE (mf r ta tb)):=by
 show λaa s σ H Q I h=>wpAny_isTrue_Compare1 (au (ha aa s σ H _ I h) λv s1 ⟨x,H1,I1,r1,q1⟩=>au (hb aa s1 σ H1 _ I1 q1) λu s2 ⟨y,H2,I2,r2,q2⟩ => au (ho aa s2 σ H2 x y v u _ I2 r1 r2 q2) λc s3 ⟨z,H3,I3,r3,k,e,q3⟩=>?_) hm;subst e;cases r3;show wpAny_truthy_bool ⟨H3,I3,q3⟩
inductive HF(r':R2)(tc:TE)(σ:St)(Q:VK)(y:V)(z:V)(H3:Hp):Prop
 | mk:∀k,(z=.bl k)->((if k=true then tc σ H3 λw' H4=>r' y w' H4 Q else Q (.bl false) H3))->HF r' tc σ Q y z H3
def HG(r r':R2)(ta tb tc:TE):TE:=fun σ H Q=>ta σ H λx H1=>tb σ H1 λy H2=>r x y H2 (HF r' tc σ Q y)
def HH(ho:cz X (compareOp op) r)(iX:cz X (compareOp oa) r')(ha:PE X a ta)(hb:PE X b tb)(hc:PE X c tc) (hm:lastMarks [op,oa] [b,c]=false:=by with_unfolding_all rfl):PE X (.Compare a [op,oa] [b,c] pos) (HG r r' ta tb tc):=by
 show λaa s σ H Q I h=>Compare_chain (au (ha aa s σ H _ I h) λv s1 ⟨x,H1,I1,r1,q1⟩=>chain_link<|au (hb aa s1 σ H1 _ I1 q1) λu s2 ⟨y,H2,I2,r2,q2⟩ => au (ho aa s2 σ H2 x y v u _ I2 r1 r2 q2) λd s3 ⟨z,H3,I3,r3,k,e,q3⟩=>?_) hm;subst e;cases r3;show wpAny_truthy_bool ?_
 cases k with
 | false=>show ite_ff ⟨.bl _,H3,I3,μ,q3⟩
 | true=>show ite_tt<|chain_last<|au (hc aa s3 σ H3 _ I3 q3) λw' s4 ⟨z',H4,I4,r4,q4⟩=>iX aa s4 σ H4 y z' u w' Q I4 r2 r4 q4
def AQ(ho:cz X (compareOp op) r)(iX:cz X (compareOp oa) r')(ha:PE X a ta)(hb:PE X b tb)(hc:PE X c tc) (hm:lastMarks [op,oa] [b,c]=false:=by with_unfolding_all rfl):PT X (.Compare a [op,oa] [b,c] pos) (HE (HG r r' ta tb tc)):=by
 show λaa s σ H Q I h=>isTrue_chain (au (ha aa s σ H _ I h) λv s1 ⟨x,H1,I1,r1,q1⟩=>test_link<|au (hb aa s1 σ H1 _ I1 q1) λu s2 ⟨y,H2,I2,r2,q2⟩ => au (ho aa s2 σ H2 x y v u _ I2 r1 r2 q2) λd s3 ⟨z,H3,I3,r3,k,e,q3⟩=>?_) hm;subst e;cases r3;show wpAny_truthy_bool ?_
 cases k with
 | false =>
  obtain⟨k',e',q'⟩:=q3;cases e';show ite_ff ⟨H3,I3,q'⟩
 | true =>
  show ite_tt<|test_last<|au (hc aa s3 σ H3 _ I3 q3) λw' s4 ⟨z',H4,I4,r4,q4⟩=>au (iX aa s4 σ H4 y z' u w' _ I4 r2 r4 q4) λd' s5 ⟨z2,H5,I5,r5,k2,e2,q5⟩=>?_;subst e2;cases r5;show wpAny_truthy_bool ⟨H5,I5,q5⟩
def wb:(sizeLine:Nat)<2 ^ 63:=by decide
def vals1(r:aE [x] us):∃u,us=[u]/\RelV x u:=by
 cases r with
 | cons r1 r2=>cases r2;show⟨_,μ,r1⟩
def vals2(r:aE [x,y] us):∃u w',us=[u,w']/\RelV x u/\RelV y w':=by
 cases r with
 | cons r1 r2 =>
  cases r2 with
  | cons r3 r4=>cases r4;show⟨_,_,μ,r1,r3⟩
def AR(hc:X.calm=true):cZ X (.builtin "max") (λxs H Q=>∃i j,xs=[.int i,.int j]/\Q (.int (if j>i then j else i)) H):=by
 intro aa s σ H xs us Q I r h;obtain⟨i,j,rfl,q⟩:=h;obtain⟨u,w',rfl,⟨t,rfl⟩,⟨t',rfl⟩⟩:=vals2 r;show max_two_ints (I.ok.hd hc) λh' tk k=>⟨_,H,I.kept k,?_,q⟩;by_cases hj:j>i;.rw[if_pos hj,if_pos hj];show⟨_,μ⟩
 .rw[if_neg hj,if_neg hj];show⟨_,μ⟩
def sL(hc:X.calm=true):cZ X (.builtin "min") (λxs H Q=>∃i j,xs=[.int i,.int j]/\Q (.int (if j<i then j else i)) H):=by
 intro aa s σ H xs us Q I r h;obtain⟨i,j,rfl,q⟩:=h;obtain⟨u,w',rfl,⟨t,rfl⟩,⟨t',rfl⟩⟩:=vals2 r;show min_two_ints (I.ok.hd hc) λh' tk k=>⟨_,H,I.kept k,?_,q⟩;by_cases hj:j<i;.rw[if_pos hj,if_pos hj];show⟨_,μ⟩
 .rw[if_neg hj,if_neg hj];show⟨_,μ⟩
def kI:cZ X (.type "int") (λxs H Q=>(∃i,xs=[.int i]/\Q (.int i) H)\/∃k,xs=[.bl k]/\Q (.int (if k then 1 else 0)) H):=by
 intro aa s σ H xs us Q I r h;rcases h with⟨i,rfl,q⟩ | ⟨k,rfl,q⟩
 .obtain⟨u,rfl,t,rfl⟩:=vals1 r;show call_int_int ⟨.int i,H,I,⟨_,μ⟩,q⟩
 .obtain⟨u,rfl,r1⟩:=vals1 r;cases r1;show call_int_bool ⟨.int _,H,I.tok _,⟨_,μ⟩,q⟩
def HI:cZ X (.type "str") (λxs H Q=>∃i,xs=[.int i]/\i.natAbs.log2<1920/\Q (.str (toString i)) H):=by
 intro aa s σ H xs us Q I r h;obtain⟨i,rfl,hz,q⟩:=h;obtain⟨u,rfl,t,rfl⟩:=vals1 r;show PySem.P.str_of_int hz ⟨.str _,H,I.tok _,⟨_,μ⟩,q⟩
structure og(h:Heap)(x dx C:Addr)(mA:Str->Option Value):Prop where
 obj:h.get? x=some (PySem.W.instObj C dx)
 ns:h.Ns1 dx mA
 ne:dx≠x
def RU{h:Heap}(n:h.Ns1 dx mA):∃od,h.get? dx=some od/\∀name,PySem.W.lookIn name od=some (mA name):=by
 obtain⟨o,es,ep,ho,hd,hk,_,hm⟩:=n;show⟨o,ho,λname=>?_⟩;have e:=hm name;unfold nsFind findBy at e;rw[<-Array.find?_toList] at e;unfold PySem.W.lookIn;rw[hd];try dsimp only
 split;.simp_all
 .rename_i q;rw[q] at e
  have a:es.toList.any (·.refKey)=false:=by
   rw[List.any_eq_false];intro y hy;obtain⟨z,t,iI⟩:=hk y (Array.mem_toList_iff.mp hy);simp[DictEntry.refKey,iI]
  have a':¬ es.toList.any (·.refKey)=true:=by rw[a];show a1Y
  rw[if_neg a'];show congrArg _ e
def og.look(I:og h x dx C mA):∃od,PySem.W.InstAt h x (PySem.W.instObj C dx) C (some od)/\∀name,PySem.W.lookIn name od=some (mA name) :=
 let ⟨od,ho,hl⟩:=RU I.ns
 ⟨od,⟨I.obj,μ,μ,ho⟩,hl⟩
section
variable{s:Shared}{K:PySem.W.Frag}
def RV(X:K.In s.heap)(I:og s.heap x dx C mA)(hg:PySem.W.plainGet K C name=true)(hh:PySem.W.hasDictIn K C=true) (ha:PySem.W.findIn K (.ref C) name=some none) (hv:mA name=some v) (RX:PySem.W.handedIn v=true) (h:Q v {s with toks:=s.toks+1}) : wpAny (model prog w) A (getAttr (.ref x) name RW) Q E s:=by
 obtain⟨od,J,hl⟩:=I.look;show PySem.W.get_value X J (a4L hg).1 (PySem.W.findObj_own hh ha μ<|by rw[hl,hv]) RX h
def RY(X:K.In s.heap)(I:og s.heap x dx C mA)(hg:PySem.W.plainGet K C name=true) (hf:PySem.W.findIn K (.ref C) name=some (some (.ref f))) (ht:PySem.W.isFn K (.ref f)=true) (hv:mA name=none) (h:Q (.ref f,[.ref x]) s) : wpAny (model prog w) A (getMethod (.ref x) name pl) Q E s:=by
 obtain⟨od,J,hl⟩:=I.look;show PySem.W.method_fn X J (a4L hg).1 (a4L hg).2 hf (beq_iff_eq.mp ht) (by change(PySem.W.lookIn _ od).map _=some _;rw[hl,hv];rfl) h
def RZ(X:K.In s.heap)(I:og s.heap x dx C mA) (hs:PySem.W.findIn K (.ref C) "__setattr__"=some (some (.builtin "object.__setattr__"))) (hp:PySem.W.plainOver K C=true) (ht:PySem.W.takerIn K C name=some none) (hh:PySem.W.hasDictIn K C=true) (hw:PySem.Within mA ns) (hsz:ns.length<=sizeLine) (h:∀h',og h' x dx C (λy=>if y=name then some v else mA y)->Heap.SameBut dx s.heap h'->Q () {s with heap:=h',toks:=s.toks+2}) : wpAny (model prog w) A (setAttr (.ref x) name v) Q E s:=by
 obtain⟨od,J,hl⟩:=I.look;show PySem.W.set_plain X J hs<|PySem.W.osa_open X J hp ht λb=>?_;obtain⟨cd,hc,eD⟩:=PySem.W.any_some hh;have hx:=I.obj;show wpAny_bind<|wpAny_pure<|wpAny_bind<|wpAny_bind<|wpAny_loadPart hx<|wpAny_bind<|PySem.W.Looks.here (PySem.W.looks_clsIn X hc) ?_;rw[eD];show wpAny_pure<|wpAny_bind<|wpAny_pure<|wpAny_bind (wpAny_nsSet1 (s:={s with toks:=s.toks+1}) I.ns λh' gh cr=>?_);obtain⟨oD,esD,epD,R0,R1,R4⟩:=gh.count (PySem.Within.cons _ v hw);show wpAny_bind<|wpAny_lookBehind R0 (by rw[R1];show pastItsLine_dict<|a2o R4<|by rw[a2s];omega) (wpAny_pure (h _ ⟨(cr.2 _ (Ne.symm I.ne)).trans I.obj,gh,I.ne⟩ cr))
def R5(X:K.In s.heap)(hm:PySem.W.makesIn K C=true) (hi:PySem.W.findIn K (.ref C) "__init__"=some (some (.ref f))) (hf:PySem.W.typeIn K (.ref f)=some (.type "function")) (h:codeAny (model prog w) (A.under (.builtin "type.__call__" ⟨.ref C::vs,kw⟩)) (.call (.ref f) ⟨.ref (s.heap.objs.size+1)::vs,kw⟩) (PySem.W.InitBack (s.heap.objs.size+1) R) {s with heap:=(s.heap.push PySem.W.emptyDict).push (PySem.W.instObj C s.heap.objs.size)}) : codeAny (model prog w) A (.call (.ref C) ⟨vs,kw⟩) R s:=by
 obtain⟨hh,g,d,t,os⟩:=s;show PySem.W.make_core (PySem.W.makes_of X hm) (PySem.W.looks_findIn X hi) (λself=>PySem.W.bind_fn X _ hf) (.inl μ) h
end
noncomputable def fI(f:Str)(v:V):List (Str×V)->List (Str×V)
 | []=>[(f,v)]
 | (g,x)::r=>if g=f then (g,v)::r else (g,x)::fI f v r
theorem wc(f g:Str)(v:V):∀fs:List (Str×V),(fI f v fs).lookup g=if g=f then some v else fs.lookup g
 | []=>by
  change List.lookup g [(f,v)]=_;by_cases h:g=f;.simp_all
  .simp_all
 | (k,x)::r=>by
  have ih:=wc f g v r;rw[show fI f v _=(if k=f then (k,v)::r else (k,x)::fI f v r) from rfl];by_cases hk:k=f
  .rw[if_pos hk];by_cases h:g=k;.simp_all
   .have hb:=beq_eq_false_iff_ne.mpr h;simp only[List.lookup,hb,if_neg (λe:g=f=>h<|e.trans hk.symm)]
  .rw[if_neg hk];by_cases h:g=k;.simp_all
   .have hb:=beq_eq_false_iff_ne.mpr h;simp only[List.lookup,hb];show ih
theorem AS(f:Str)(v:V):∀fs:List (Str×V),f∈(fI f v fs).map (·.1)/\∀g,g∈fs.map (·.1)->g∈(fI f v fs).map (·.1)
 | []=>⟨by simp[fI],λg h=>by simp at h⟩
 | (k,x)::r=>by
  obtain⟨i1,i2⟩:=AS f v r;rw[show fI f v _=(if k=f then (k,v)::r else (k,x)::fI f v r) from rfl];by_cases hk:k=f;.grind
  .rw[if_neg hk];show⟨?_,λg h=>?_⟩;.show a2m _ i1
   .rcases a1L.mp h with e | e;.show a1L.mpr<|.inl e
    .show a2m _<|i2 g e
theorem HJ(f:Str)(v:V):∀fs:List (Str×V),(fI f v fs).length<=fs.length+1
 | []=>by simp[fI]
 | (k,x)::r=>by
  have ih:=HJ f v r;rw[show fI f v _=(if k=f then (k,v)::r else (k,x)::fI f v r) from rfl];by_cases hk:k=f;.rw[if_pos hk,a2s,a2s];omega
  .rw[if_neg hk,a2s,a2s];omega
def ff.some_of(r:ff (some v) o):∃u,o=some u/\RelV v u:=by
 cases o with
 | none=>show(show False from r).elim
 | some u=>show⟨u,μ,r⟩
def ff.none_of(r:ff none o):o=none:=by
 cases o with
 | none=>rfl
 | some u=>show(show False from r).elim
def R7(r:RelV v u):PySem.W.handedIn u=true:=by
 cases v with
 | ax=>cases (show u=Value.none from r);rfl
 | bl b=>cases (show u=Value.bool b from r);rfl
 | int i=>obtain⟨t,e⟩:=(show ∃t,u=Value.int i t from r);cases e;rfl
 | str x=>obtain⟨t,e⟩:=(show ∃t,u=Value.str x t from r);cases e;rfl
 | iA b=>obtain⟨t,e⟩:=(show ∃t,u=Value.bytes b t from r);cases e;rfl
 | nL b=>obtain⟨t,e⟩:=(show ∃t,u=Value.float b t from r);cases e;rfl
 | ref a=>cases (show u=Value.ref a from r);rfl
 | ty n=>cases (show u=Value.type n from r);rfl
def we(am:bH P w H h)(e:H a=some (.ins C dx fs)):∃mA,og h a dx C mA/\(∀f,ff (fs.lookup f) (mA f))/\PySem.Within mA (fs.map (·.1))/\fs.length<=1000/\H dx=some (.own a):=by
 obtain⟨d,z,ne,ob,mA,n,r,q⟩:=(show ci P w H h a _ from am a _ e);show⟨mA,⟨ob,n,ne⟩,r,q,z,d⟩
structure cA(K:PySem.W.Frag)(C:Addr):Prop where
 pg:PySem.W.plainGet K C Str.empty=true
 hd:PySem.W.hasDictIn K C=true
 po:PySem.W.plainOver K C=true
 sa:PySem.W.findIn K (.ref C) "__setattr__"=some (some (.builtin "object.__setattr__"))
def cA.get{K:PySem.W.Frag}(c:cA K C)(f:Str):PySem.W.plainGet K C f=true:=c.pg
def gE(K:PySem.W.Frag)(C:Addr)(f:Str):Prop:=PySem.W.findIn K (.ref C) f=some none
def gE.R8{K:PySem.W.Frag}(n:gE K C f):PySem.W.takerIn K C f=some none:=by
 unfold PySem.W.takerIn;rw[show PySem.W.findIn K _ f=some _ from n];rfl
structure qi(K:PySem.W.Frag)(C:Addr)(m:Str)(f:Addr):Prop where
 at_:PySem.W.findIn K (.ref C) m=some (some (.ref f))
 fn:PySem.W.isFn K (.ref f)=true
 kp:PySem.W.keepIn K (.ref f)=true
section
variable{σ:St}
def R9(I:Inv X aa σ H s)(e:H a=some (.ins C dx fs))(c:cA X.K C)(n:gE X.K C f)(l:fs.lookup f=some v) (h:∀u s',Inv X aa σ H s'->RelV v u->Q u s'):wpAny (model X.prog X.w) A (getAttr (.ref a) f b) Q E s:=by
 obtain⟨mA,O,r,_,_,_⟩:=we I.am e;obtain⟨u,hu,ru⟩:=ff.some_of (v:=v) (o:=mA f) (by show l▸?_;show r f);show RV I.cq O (c.get f) c.hd n hu (R7 ru)<|h u _ (I.tok _) ru
def sM(I:Inv X aa σ H s)(e:H a=some (.ins C dx fs))(c:cA X.K C)(k:qi X.K C m g)(l:fs.lookup m=none) (h:Q (.ref g,[.ref a]) s):wpAny (model X.prog X.w) A (getMethod (.ref a) m pl) Q E s:=by
 obtain⟨mA,O,r,_,_,_⟩:=we I.am e;have hn:mA m=none:=ff.none_of (by show l▸?_;show r m);show RY I.cq O (c.get m) k.at_ k.fn hn h
def R'(I:Inv X aa σ H s)(e:H a=some (.ins C dx fs))(c:cA X.K C)(n:gE X.K C f)(hl:fs.length<1000)(ry:RelV y u) (h:∀s',Inv X aa σ (upd H a (.ins C dx (fI f y fs))) s'->Q () s'):wpAny (model X.prog X.w) A (setAttr (.ref a) f u) Q E s:=by
 obtain⟨mA,O,r,wi,_,ho⟩:=we I.am e;have hz:(fs.map (·.1)).length<=sizeLine:=by rw[a1H,sizeLine_eq];omega
 show RZ I.cq O c.sa c.po n.R8 c.hd wi hz λh' O' sb=>h _ ?_;have hd:∃o,h'.get? dx=some o:=let ⟨o,_,_,e',_⟩:=O'.ns;⟨o,e'⟩
 show I.write (by rw[e];show True.intro) (.inr ho) (λb q hb z=>(sb.2 b hb).trans z) hd ⟨by rw[j_ O.ne];show ho,?_,O.ne,O'.obj,_,O'.ns,λg=>?_,λg hg=>?_⟩;.have:=HJ f y fs;omega
 .rw[wc];by_cases q:g=f;.rw[if_pos q,if_pos q];show ry
  .simp_all
 .by_cases q:g=f;.rw[q];show(AS f y fs).1
  .show(AS f y fs).2 g<|wi g λz=>hg ?_;change(if g=f then some u else mA g)=none;rw[if_neg q];show z
def Inv.made(I:Inv X aa σ H s):Inv X aa σ (upd (upd H s.heap.objs.size (.own (s.heap.objs.size+1))) (s.heap.objs.size+1) (.ins C s.heap.objs.size [])) {s with heap:=(s.heap.push PySem.W.emptyDict).push (PySem.W.instObj C s.heap.objs.size)}:=by
 have e1:(s.heap.push _).get? _=some PySem.W.emptyDict:=a1S _ μ
 have e2:((s.heap.push PySem.W.emptyDict).push<|PySem.W.instObj C s.heap.objs.size).get? (s.heap.objs.size+1)=some (PySem.W.instObj C s.heap.objs.size):=by
  have:=a1S (s.heap.push PySem.W.emptyDict) (o:=PySem.W.instObj C s.heap.objs.size) μ;rwa [a2w] at this
 have e3:(s.heap.push _).Ns _ _:=⟨PySem.W.emptyDict,#[],_,e1,μ,(λe he=>absurd he<|by simp),λ_=>rfl⟩;have I1:=I.laid (o:=.own (s.heap.objs.size+1)) (t':=s.toks) (λb u q=>a1J _ q) (a1M _) ⟨_,e1⟩;show I1.laid (λb u q=>a1J _ q) (Nat.le_of_eq<|a2w _ _) ?_;have ne:s.heap.objs.size≠s.heap.objs.size+1:=a2e (a2T _);show⟨by rw[j_ ne,c_],a2u _,ne,e2,λ_=>none,(Heap.Ns1.of_empty e3).at λo q=>a1J _ q,λ_=>True.intro,λy hy=>absurd μ hy⟩
def Sa(hb:attributeBase e f env (eval e env)=eval e env) (h:wpAny (model prog w) A (eval e env) (λo bv=>wpAny (model prog w) A (getAttr o f true) Q E bv) E s):wpAny (model prog w) A (eval (.Attribute e f pos) env) Q E s := Attribute_any_ h (by rw[arm_eval_Attribute,hb])
end
inductive HK(K:PySem.W.Frag)(f:Str)(Q:VK)(x:V)(H1:Hp):Prop
 | mk:∀a C dx fs v,(x=.ref a)->(H1 a=some (.ins C dx fs))->(cA K C)->(gE K C f)->(fs.lookup f=some v)->(Q v H1)->HK K f Q x H1
def Sb(K:PySem.W.Frag)(ta:TE)(f:Str):TE:=fun σ H Q=>ta σ H (HK K f Q)
inductive HL(K:PySem.W.Frag)(f:Str)(D:Ends)(σ:St)(y:V)(x:V)(H2:Hp):Prop
 | mk:∀a C dx fs,(x=.ref a)->(H2 a=some (.ins C dx fs))->(cA K C)->(gE K C f)->(fs.length<1000)->(D.nx σ (upd H2 a (.ins C dx (fI f y fs))))->HL K f D σ y x H2
def Sc(K:PySem.W.Frag)(ta tv:TE)(f:Str):TS:=λD σ H=>tv σ H λy H1=>ta σ H1 (HL K f D σ y)
def kK(he:PE X e ta)(hb:attributeBase e f X.env (eval e X.env)=eval e X.env):PE X (.Attribute e f pos) (Sb X.K ta f):=by
 show λaa s σ H Q I h=>Sa hb<|au (he aa s σ H _ I h) λu s1 ⟨x,H1,I1,rx,a,C,dx,fs,v,ex,ea,c,n,l,q⟩=>?_;subst ex;obtain rfl:u=Value.ref a:=rx;show R9 I1 ea c n l λu' s2 I2 ru=>⟨v,H1,I2,ru,q⟩
def Sd(ha:PE X o ta)(hv:PE X value tv)(hs:swapsWith value (some (.Attribute o f iG)) pos.line X.env=pure false):PS X (.Assign [.Attribute o f iG] value pos) (Sc X.K ta tv f):=by
 show λaa s σ H D I h=>plainObj_wpAny_Assign_Attribute (au (hv aa s σ H _ I h) λu s1 ⟨y,H1,I1,ry,q⟩=>au (ha aa s1 σ H1 _ I1 q) λov s2 ⟨x,H2,I2,rx,a,C,dx,fs,ex,ea,c,n,l,q2⟩=>?_) hs;subst ex;obtain rfl:ov=Value.ref a:=rx;show R' I2 ea c n l ry λs3 I3=>⟨σ,_,I3,q2⟩
def a1n{σ:St}(he:PE X e te)(I:Inv X aa σ H s)
  (h:te σ H λx H1=>∃a C dx fs g,x=.ref a/\H1 a=some (.ins C dx fs)/\cA X.K C/\qi X.K C m g/\fs.lookup m=none/\
   ∀s1,Inv X aa σ H1 s1->wpAny (model X.prog X.w) X.A (callWith pos (.ref g) [.ref a] (backTo pos (starEach args X.env)) (backToKw pos (keywordEach [] X.env))) Q X.xe s1)
  (ht:eval (.Call (.Attribute e m bO) args [] pos) X.env=(do
   let ov <-eval e X.env
   standAt bO.atName
   let (f,first) <-holding [ov] (getMethod ov m pl)
   callWith pos f first (backTo pos (starEach args X.env)) (backToKw pos (keywordEach [] X.env)))) :
  wpAny (model X.prog X.w) X.A (eval (.Call (.Attribute e m bO) args [] pos) X.env) Q X.xe s:=by
 show a3z (au (he aa s σ H _ I h) λu s1 h1=>?_) ht;obtain⟨x,H1,I1,rx,a,C,dx,fs,g,ex,ea,c,k,l,q⟩:=h1;subst ex;obtain rfl:u=Value.ref a:=rx;show sM I1 ea c k l<|q s1 I1
section
variable{σ:St}
inductive gF(K:PySem.W.Frag)(H:Hp):V->Value->Prop where
 | ax:gF K H .ax (.type "NoneType")
 | bl (x:Bool):gF K H (.bl x) (.type "bool")
 | int (i:Int):gF K H (.int i) (.type "int")
 | str (x:Str):gF K H (.str x) (.type "str")
 | nL (x:UInt64):gF K H (.nL x) (.type "float")
 | lst {a:Addr} {xs:List V} (e:H a=some (.lst xs)):gF K H (.ref a) (.type "list")
 | bE {a:Addr} {o:Obj} {xs:List V} (e:H a=some (.bE o (.lst xs))):gF K H (.ref a) (.type "list")
 | tup {a:Addr} {xs:List V} (e:H a=some (.tup xs)):gF K H (.ref a) (.type "tuple")
 | dK {a:Addr} {kvs:List (aD×V)} (e:H a=some (.dK kvs)):gF K H (.ref a) (.type "dict")
 | dT {a:Addr} {kvs:List (List aD×V)} (e:H a=some (.dT kvs)):gF K H (.ref a) (.type "dict")
 | ins {a C dx:Addr} {fs:List (Str×V)} (e:H a=some (.ins C dx fs)) (cl:cA K C) (ha:PySem.W.findIn K (.ref C) "__class__"=some (some (.builtin "object.__class__")))
   (hn:PySem.W.specialIn K (.builtin "object.__class__") "__get__"=some (some (.builtin "getset_descriptor.__get__"))) (HM:PySem.W.takesIn K (.builtin "object.__class__")=some true)
   (hm:PySem.W.mroIn K C (.type "object")=some true):gF K H (.ref a) (.ref C)
def Se{x:V}{u t:Value}(I:Inv X aa σ H s)(rx:RelV x u)(ty:gF X.K H x t)(e:PySem.W.kitOne X.K t c=some b)(h:∀tk,Q (.bool b) {s with toks:=tk}) : wpAny (model X.prog X.w) A (call (.builtin "isinstance") [u,c]) Q E s:=by
 cases ty with
 | ax=>cases (show u=Value.none from rx);show a2W PySem.W.kitx_none I.cq True.intro e (λz=>nomatch z) h
 | bl y=>cases (show u=Value.bool y from rx);show a2W PySem.W.kitx_bool I.cq True.intro e (λz=>nomatch z) h
 | int i=>obtain⟨t,q⟩:=(show ∃t,u=Value.int i t from rx);cases q;show a2W PySem.W.kitx_int I.cq True.intro e (λz=>nomatch z) h
 | str y=>obtain⟨t,q⟩:=(show ∃t,u=Value.str y t from rx);cases q;show a2W PySem.W.kitx_str I.cq True.intro e (λz=>nomatch z) h
 | nL y=>obtain⟨t,q⟩:=(show ∃t,u=Value.float y t from rx);cases q;show a2W PySem.W.kitx_float I.cq True.intro e (λz=>nomatch z) h
 | @lst a xs ea =>
  cases (show u=Value.ref a from rx);obtain⟨_,_,n,_,h1⟩:=(show ci _ X.w H _ a _ from I.am a _ ea);show a2W PySem.W.kitx_list I.cq ⟨_,h1,μ⟩ e (λz=>nomatch z) h
 | @bE a ob xs ea =>
  cases (show u=Value.ref a from rx);obtain⟨_,_,_,n,_,h1⟩:=(show ci _ X.w H _ a _ from I.am a _ ea);show a2W PySem.W.kitx_list I.cq ⟨_,h1,μ⟩ e (λz=>nomatch z) h
 | @tup a xs ea =>
  cases (show u=Value.ref a from rx);obtain⟨_,_,_,p⟩:=(show ci _ X.w H _ a _ from I.am a _ ea);obtain⟨o,h1,h2,_⟩:=p;show a2W PySem.W.kitx_tuple I.cq ⟨o,h1,h2⟩ e (λz=>nomatch z) h
 | @dK a kvs ea =>
  cases (show u=Value.ref a from rx);obtain⟨_,_,vs,_,p⟩:=(show ci _ X.w H _ a _ from I.am a _ ea);obtain⟨o,es,ep,h1,h2,_⟩:=p;show a2W PySem.W.kitx_dict I.cq ⟨o,h1,h2.1⟩ e (λz=>nomatch z) h
 | @dT a kvs ea =>
  cases (show u=Value.ref a from rx);obtain⟨_,_,xs,_,o,es,ep,h1,h2,_⟩:=(show ci _ X.w H _ a _ from I.am a _ ea);show a2W PySem.W.kitx_dict I.cq ⟨o,h1,h2.1⟩ e (λz=>nomatch z) h
 | @ins a C dx fs ea cl ha hn HM hm =>
  cases (show u=Value.ref a from rx);obtain⟨mA,O,_⟩:=we I.am ea;obtain⟨od,J,_⟩:=O.look;show a2W (PySem.W.kitx_own (cl.get _) cl.hd ha hn HM hm) I.cq J e (λz=>nomatch z) h
end
structure bM(k:Nat)(A:Around):Prop where
 hd:A.handled=none
 dp:A.depth+3*k+5<recursionLimit
 un:A.units+16*k+200<cLine
 gd:A.guards=some []
def bM.mono(r:bM k A)(h:j<=k):bM j A:=⟨r.hd,by have:=r.dp;omega,by have:=r.un;omega,r.gd⟩
def bM.mo(r:bM k A)(h:j<=k:=by decide):bM j A:=r.mono h
theorem bM.deeper(r:bM (k+1) A)(env:Env):bM k (A.deeper env) := ⟨r.hd,by have:=r.dp;change A.depth+1+3*k+5<_;omega,by have:=r.un;change A.units+3+16*k+200<_;omega,r.gd⟩
def Sf{A:Around}:(A.under (.builtin "type.__call__" ⟨.ref C::us,kw⟩)).depth=A.depth+1:=by first | rfl | grind
def Sg{A:Around}:(A.under (.builtin "type.__call__" ⟨.ref C::us,kw⟩)).units=A.units+1:=by first | rfl | grind
def bM.make(r:bM (k+1) A)(C:Addr)(us:List Value)(kw:List (Str×Value)):bM k (A.under (.builtin "type.__call__" ⟨.ref C::us,kw⟩)) := ⟨r.hd,by have:=r.dp;rw[Sf];omega,by have:=r.un;rw[Sg];omega,by have:=r.gd;first | show this | grind⟩
theorem bM.depth(r:bM k A):A.depth<recursionLimit:=by have:=r.dp;omega
theorem bM.units(r:bM k A):A.units+64<cLine:=by have:=r.un;omega
def kL:TA:=λ_ H Q=>Q [] H
def gG(ta:TE)(tr:TA):TA:=fun σ H Q=>ta σ H λx H1=>tr σ H1 λxs H2=>Q (x::xs) H2
def d_:PA X [] kL:=λ_ _ _ _ H Q I h=>Calls.spliced_nil ⟨[],H,I,.nil,h⟩
def a_(ha:PE X e te)(hr:PA X es t)(hs:starEach (e::es) X.env=(false,eval e X.env)::starEach es X.env:=by rfl):PA X (e::es) (gG te t):=by
 intro pos aa s σ H Q I h;rw[hs];show Calls.spliced_cons<|au (ha aa s σ H _ I h) λu s1 ⟨x,H1,I1,r1,q1⟩=>(au (hr pos aa s1 σ H1 _ I1 q1) λus s2 ⟨xs,H2,I2,r2,q2⟩=>⟨x::xs,H2,I2,.cons r1 r2,q2⟩)
def Sh(t:TA):TE:=fun σ H Q=>t σ H λxs H1=>xs.length<=sizeLine/\∀p,H1 p=none->Q (.ref p) (upd H1 p (.tup xs))
def wf(t:TA):TE:=fun σ H Q=>t σ H λxs H1=>xs.length<=sizeLine/\∀p,H1 p=none->Q (.ref p) (upd H1 p (.lst xs))
def dJ(h:PA X es t):PE X (.Tuple es x1 pos) (Sh t):=by
 show λaa s σ H Q I hq=>wpAny_Tuple_spliced<|au (h pos aa s σ H _ I hq) λus s1 ⟨xs,H1,I1,r,z,q⟩=>⟨by show r.length▸?_;show z,?_⟩;have hf:=I1.am.fresh (a1M _);show⟨.ref _,upd H1 _<|.tup xs,I1.laid (λb u e=>a1J _ e) (a1M _) (⟨z,us,r,⟨_,a1S _ μ,μ,_,μ⟩⟩),μ,q _ hf⟩
def x_(h:PA X es t):PE X (.List es pos) (wf t):=by
 show λaa s σ H Q I hq=>wpAny_List_spliced<|au (h pos aa s σ H _ I hq) λus s1 ⟨xs,H1,I1,r,z,q⟩=>⟨by show r.length▸?_;show z,?_⟩;have hf:=I1.am.fresh (a1M _);show⟨.ref _,upd H1 _<|.lst xs,I1.laid (λb u e=>a1J _ e) (a1M _) ⟨z,us,0,r,a1S _ μ⟩,μ,q _ hf⟩
abbrev Sp:=List V->Hp->VK->XK->Prop
abbrev fV:=List Env->Hp->Shared->XK->Value->Shared->Prop
structure oh(P:Program)(w:World)(K:PySem.W.Frag)(mg:Str->Option Value)(base:Heap)(A:Around)(outer:List Env)(s:Shared)(H:Hp):Prop where
 frames:A.frames=some outer
 mod:Mod K mg base
 bs:∀b o,base.get? b=some o->s.heap.get? b=some o/\H b=none
 iB:base.objs.size<=s.heap.objs.size
 gD:s.heap.FunFrames base outer
 kq:∀b∈bD outer,H b=none
 am:bH P w H s.heap
 bare:AllBare s.gens
def CE(outer:List Env)(P:Program)(w:World)(H:Hp)(s:Shared)(Q:VK)(u:Value)(s':Shared):Prop := ∃v H',s'.os=s.os/\AllBare s'.gens/\Un (bD outer) [] H H' s.heap s'.heap/\bH P w H' s'.heap/\RelV v u/\Q v H'
def CR(CX:fV)(outer:List Env)(P:Program)(w:World)(H:Hp)(s:Shared)(Q:VK)(E:XK)(r:Result)(s':Shared):Prop :=
 match r with
 | .ok (.ret u)=>CE outer P w H s Q u s'
 | .ok _=>False
 | .error e=>CX outer H s E e s'
structure aA(P:Program)(w:World)(K:PySem.W.Frag)(mg:Str->Option Value)(base:Heap)(CX:fV)(k:Nat)(f:Addr)(fd:FuncData)(ps:List Str)(sp:Sp):Prop where
 len:∀vs H Q E,sp vs H Q E->vs.length=ps.length
 run:∀(A:Around) (outer:List Env) (s:Shared) (H:Hp) (args:Args) (us:List Value) (vs:List V) (Q:VK) (E:XK),bM k A->oh P w K mg base A outer s H->BindsTo s fd args (ps.zip us)->aE vs us->sp vs H Q E->
  codeAny (model P w) A (.call (.ref f) args) (CR CX outer P w H s Q E) s
theorem aA.mono{K:PySem.W.Frag}(F:aA P w K mg base CX j f fd ps sp)(h:j<=k) : aA P w K mg base CX k f fd ps sp:=⟨F.len,λA outer s H args us vs Q E hr=>F.run A _ s H _ us vs Q E<|hr.mono h⟩
def aA.imp{K:PySem.W.Frag}(F:aA P w K mg base CX k f fd ps sp) (h:∀vs H Q E,sO vs H Q E->sp vs H Q E):aA P w K mg base CX k f fd ps sO := ⟨λvs H Q E q=>F.len vs H Q E<|h _ _ _ _ q,λA outer s H args us vs Q E hr he hb hv hs=>F.run A _ s H _ us vs Q E hr he hb hv<|h _ _ _ _ hs⟩
def oh.make{K:PySem.W.Frag}(e:oh P w K mg base A outer s H)(C:Addr)(us:List Value)(kw:List (Str×Value)) : oh P w K mg base (A.under (.builtin "type.__call__" ⟨.ref C::us,kw⟩)) outer s H:=⟨by first | show e.frames | grind,e.mod,e.bs,e.iB,e.gD,e.kq,e.am,e.bare⟩
section
variable{σ:St}
def Inv.wj(I:Inv X aa σ H s):oh X.prog X.w X.K X.mg X.base X.A X.stack s H := ⟨I.ok.frames,I.ok.mod,I.bs,a2o I.ok.iB I.sz,I.stack,I.ku,I.am,I.bare⟩
def Inv.after(I:Inv X aa σ H s)(h:CE X.stack X.prog X.w H s Q u s'):EP X aa σ Q u s':=by
 obtain⟨v,H',os,bare,un,am,r,q⟩:=h;obtain⟨hh,g,d,t,AT⟩:=s';obtain rfl:AT=s.os:=os;show⟨v,H',I.call un am bare<|λb z=>absurd z<|by simp,r,q⟩
end
def AU(sp:Sp)(db:List V)(E:XK)(t:TA):TE:=fun σ H Q=>t σ H λvs H1=>sp (vs++db) H1 Q E
inductive HN(C:Addr)(m:Str)(sp:Sp)(db:List V)(E:XK)(t:TA)(σ:St)(Q:VK)(x:V)(H1:Hp):Prop
 | mk:∀a dx fs,(x=.ref a)->(H1 a=some (.ins C dx fs))->(fs.lookup m=none)->(t σ H1 λvs H2=>sp (x::(vs++db)) H2 Q E)->HN C m sp db E t σ Q x H1
def wk(C:Addr)(m:Str)(sp:Sp)(db:List V)(E:XK)(ta:TE)(t:TA):TE:=fun σ H Q=>ta σ H (HN C m sp db E t σ Q)
def HP(C:Addr)(sp:Sp)(db:List V)(E:XK)(t:TA):TE:=fun σ H Q=>t σ H λvs H1=>∀x dx,H1 x=none->H1 dx=none->dx≠x-> sp (.ref x::(vs++db)) (upd (upd H1 dx (.own x)) x (.ins C dx [])) (λv H2=>v=.ax/\Q (.ref x) H2) E
def Binds(K:PySem.W.Frag)(fd:FuncData)(ps:List Str)(ds:List Value):Prop := ∀(s:Shared) (us:List Value),K.In s.heap->(us++ds).length=ps.length->BindsTo s fd ⟨us,[]⟩ (ps.zip (us++ds))
def Binds.all{K:PySem.W.Frag}(h:∀us:List Value,us.length=ps.length->bindArgs fd ⟨us,[]⟩=pure (ps.zip us)):Binds K fd ps []:=λs us _ hl=>by
 rw[a2Y] at hl⊢;show .of_eq<|h us hl
def mj(CX:fV)(X:Cx)(E:XK):Prop:=∀(aa:List (Addr×Obj)) (σ:St) (H:Hp) (s:Shared) (e:Value) (s':Shared),Inv X aa σ H s->CX X.stack H s E e s'->X.xe e s'
section
variable{p pos bO:Pos}
def AV{σ:St}(F:aA X.prog X.w X.K X.mg X.base CX k f fd ps sp)(hr:bM k X.A)(hb:Binds X.K fd ps ds)(hd:aE db ds)(hx:mj CX X E) (I:Inv X aa σ H s) (r:aE vs us) (h:sp (vs++db) H Q E):wpAny (model X.prog X.w) X.A (call (.ref f) us) (EP X aa σ Q) X.xe s:=by
 have r2:=r.append hd;have hl:(us++ds).length=ps.length:=by show r2.length▸?_;show F.len _ _ _ _ h
 show wpAny_call<|codeAny_mono (F.run X.A _ s H ⟨us,[]⟩ _ _ Q E hr I.wj (hb s us I.cq hl) r2 h) λr s' hq=>?_
 cases r with
 | error e=>show hx aa σ H s e s' I hq
 | ok fl =>
  cases fl with
  | ret u=>show I.after hq
  | next=>show False.elim hq
  | brk=>show False.elim hq
  | cont=>show False.elim hq
def HQ(F:aA X.prog X.w X.K X.mg X.base CX k f fd ps sp)(hr:bM k X.A)(hg:Gl X x)(hm:X.mg x=some (.ref f))(hk:PySem.W.keepIn X.K (.ref f)=true)(hb:Binds X.K fd ps ds)(hd:aE db ds)(hx:mj CX X E) (ha:PA X (e::es) t) (gi:(x==("__debug__":Str))=false:=by decide) (he:starEach (e::es) X.env=(false,eval e X.env)::starEach es X.env:=by rfl) (cu:(backTo pos (starEach es X.env)).any (·.1)=false:=by rfl) : PE X (.Call (.Name x p) (e::es) [] pos) (AU sp db E t):=by
 show λaa s σ H Q I h=>wpAny_Call_Name_kw<|sJ I hg hm ?_ gi;show a4l I.ok.mod.qa hk (au (ha pos aa s σ H _ I h) λus s1 ⟨vs,H1,I1,r,q⟩=>⟨I1.cq,(AV F hr hb hd hx I1 r q)⟩) he cu
def Si{pl:Sem Bool}(he:PE X o ta)(c:cA X.K C)(hm:qi X.K C m f)(F:aA X.prog X.w X.K X.mg X.base CX k f fd ps sp)(hr:bM k X.A)(hb:Binds X.K fd ps ds)(hd:aE db ds)(hx:mj CX X E)(ha:PA X (e::es) t)
  (dZ:starEach (e::es) X.env=(false,eval e X.env)::starEach es X.env:=by rfl) (cu:(backTo pos (starEach es X.env)).any (·.1)=false:=by rfl)
  (ht:eval (.Call (.Attribute o m bO) (e::es) [] pos) X.env=(do
   let ov <-eval o X.env
   standAt bO.atName
   let (f,first) <-holding [ov] (getMethod ov m pl)
   callWith pos f first (backTo pos (starEach (e::es) X.env)) (backToKw pos (keywordEach [] X.env))):=by rfl) :
  PE X (.Call (.Attribute o m bO) (e::es) [] pos) (wk C m sp db E ta t):=by
 show λaa s σ H Q I h=>a3z (au (he aa s σ H _ I h) λu s1 ⟨x,H1,I1,rx,a,dx,fs,ex,ea,l,q⟩=>?_) ht;subst ex;obtain rfl:u=Value.ref a:=rx;show sM I1 ea c hm l ?_;show a4l I.ok.mod.qa hm.kp (au (ha pos aa s1 σ H1 _ I1 q) λus s2 ⟨vs,H2,I2,r,q2⟩=>⟨I2.cq,(AV (us:=.ref a::us) (vs:=.ref a::vs) F hr hb hd hx I2 (.cons μ r) q2)⟩) dZ cu
def Sj(he:PE X o ta)(c:cA X.K C)(hm:qi X.K C m f)(F:aA X.prog X.w X.K X.mg X.base CX k f fd ps sp)(hr:bM k X.A)(hb:Binds X.K fd ps ds)(hd:aE db ds)(hx:mj CX X E)
  (ht:eval (.Call (.Attribute o m bO) [] [] pos) X.env=(do
   let ov <-eval o X.env
   standAt bO.atName
   let (f,first) <-holding [ov] (getMethod ov m pl)
   callWith pos f first (backTo pos (starEach [] X.env)) (backToKw pos (keywordEach [] X.env))):=by rfl) :
  PE X (.Call (.Attribute o m bO) [] [] pos) (wk C m sp db E ta kL):=by
 show λaa s σ H Q I h=>a3z (au (he aa s σ H _ I h) λu s1 ⟨x,H1,I1,rx,a,dx,fs,ex,ea,l,q⟩=>?_) ht;subst ex;obtain rfl:u=Value.ref a:=rx;show sM I1 ea c hm l (PySem.W.callWith_K0 (first:=[.ref a]) I1.cq hm.kp (AV (us:=[.ref a]) (vs:=[.ref a]) F hr hb hd hx I1 (.cons μ .nil) q))
structure Mk(K:PySem.W.Frag)(C f:Addr):Prop where
 makes:PySem.W.makesIn K C=true
 init:PySem.W.findIn K (.ref C) "__init__"=some (some (.ref f))
 fn:PySem.W.isFn K (.ref f)=true
 kp:PySem.W.keepIn K (.ref C)=true
def Sk{σ:St}(M:Mk X.K C f)(F:aA X.prog X.w X.K X.mg X.base CX k f fd ps sp)(hr:bM (k+1) X.A)(hb:Binds X.K fd ps ds)(hd:aE db ds) (hx:mj CX X E) (I:Inv X aa σ H s) (r:aE vs us) (h:∀x dx,H x=none->H dx=none->dx≠x->sp (.ref x::(vs++db)) (upd (upd H dx (.own x)) x (.ins C dx [])) (λv H2=>v=.ax/\Q (.ref x) H2) E) : wpAny (model X.prog X.w) X.A (call (.ref C) us) (EP X aa σ Q) X.xe s:=by
 have hq:=h _ _ (I.am.fresh<|a3U _) (I.am.fresh<|a1M _) (a2e<|a2T _);have I2:=Inv.made (C:=C) I;have r2:aE (V.ref (s.heap.objs.size+1)::(vs++db)) _:=.cons μ (r.append hd)
 have hl:(Value.ref (s.heap.objs.size+1)::us++ds).length=ps.length:=by
  have e:=r2.length;rw[F.len _ _ _ _ hq] at e;show e.symm
 show wpAny_call<|R5 I.cq M.makes M.init (beq_iff_eq.mp M.fn)<|codeAny_mono (F.run _ _ _ _ ⟨Value.ref _::us,[]⟩ _ _ _ E (hr.make C us []) (I2.wj.make C us []) (hb _ _ I2.cq hl) r2 hq) λr s' sP=>?_
 cases r with
 | error e=>show hx aa σ _ _ e s' I2 sP
 | ok fl =>
  cases fl with
  | ret u =>
   obtain⟨v,H',I3,rv,ev,q3⟩:=I2.after sP;subst ev;show⟨rv,⟨V.ref _,H',I3,μ,q3⟩⟩
  | next=>show False.elim sP
  | brk=>show False.elim sP
  | cont=>show False.elim sP
def Sl(M:Mk X.K C f)(F:aA X.prog X.w X.K X.mg X.base CX k f fd ps sp)(hr:bM (k+1) X.A)(hg:Gl X x)(hm:X.mg x=some (.ref C))(hb:Binds X.K fd ps ds)(hd:aE db ds)(hx:mj CX X E) (ha:PA X (e::es) t) (gi:(x==("__debug__":Str))=false:=by decide) (he:starEach (e::es) X.env=(false,eval e X.env)::starEach es X.env:=by rfl) (cu:(backTo pos (starEach es X.env)).any (·.1)=false:=by rfl) : PE X (.Call (.Name x p) (e::es) [] pos) (HP C sp db E t):=by
 show λaa s σ H Q I h=>wpAny_Call_Name_kw<|sJ I hg hm ?_ gi;show a4l I.ok.mod.qa M.kp (au (ha pos aa s σ H _ I h) λus s1 ⟨vs,H1,I1,r,q⟩=>⟨I1.cq,(Sk M F hr hb hd hx I1 r q)⟩) he cu
end
structure aS(N P:List Str)(sc:Scope):Prop where
 kind:sc.kind=.function
 co:sc.isCoroutine=false
 gen:sc.isGenerator=false
 nd:N.Nodup
 pre:N.take P.length=P
 par:∀x∈P,sc.names.lookup x=some .local\/sc.names.lookup x=some .cell
 Sm:∀y∈sc.names,y.2≠.free
theorem HR{kindOf:Str->Option NameKind}{x:Str}:∀ {binds:List (Str×Value)} {m:Str->Option Value},(∀v,(x,v)∉binds)->bindL kindOf binds m x=m x
 | [],_,_=>rfl
 | (n,v)::r,m,h=>by
  unfold bindL;rw[HR λw hw=>h w<|a2m _ hw];split
  .have:x≠n:=by rintro rfl;show h v a3w
   simp[this]
  .rfl
theorem HS{kindOf:Str->Option NameKind}{x:Str}:∀ {binds:List (Str×Value)} {m:Str->Option Value},(∀v,(x,v)∉binds)->bindC kindOf binds m x=m x
 | [],_,_=>rfl
 | (n,v)::r,m,h=>by
  unfold bindC;rw[HS λw hw=>h w<|a2m _ hw];split;.rfl
  .have:x≠n:=by rintro rfl;show h v a3w
   simp[this]
theorem HU{kindOf:Str->Option NameKind}{x:Str}{v:Value}:∀ {P:List Str} {vs:List Value} {i:Nat} {m:Str->Option Value},P.Nodup->P[i]?=some x->vs[i]?=some v->kindOf x=some .local-> bindL kindOf (P.zip vs) m x=some v
 | [],_,_,_,_,h,_,_=>by simp at h
 | _::_,[],_,_,_,_,h,_=>by simp at h
 | p::P,w::vs,0,m,nd,h1,h2,hk=>by
  simp at h1 h2;subst h1;subst h2;change bindL _ ((p,w)::P.zip vs) m p=_;unfold bindL;rw[HR λv hv=>(a2j.mp nd).1 (a5j hv).1,if_pos hk];simp
 | p::P,w::vs,i+1,m,nd,h1,h2,hk=>by
  unfold bindL;show HU (a2j.mp nd).2 (by simpa using h1) (by simpa using h2) hk
theorem HV{kindOf:Str->Option NameKind}{x:Str}{v:Value}:∀ {P:List Str} {vs:List Value} {i:Nat} {m:Str->Option Value},P.Nodup->P[i]?=some x->vs[i]?=some v->kindOf x≠some .local-> bindC kindOf (P.zip vs) m x=some v
 | [],_,_,_,_,h,_,_=>by simp at h
 | _::_,[],_,_,_,_,h,_=>by simp at h
 | p::P,w::vs,0,m,nd,h1,h2,hk=>by
  simp at h1 h2;subst h1;subst h2;change bindC _ ((p,w)::P.zip vs) m p=_;unfold bindC;rw[HS λv hv=>(a2j.mp nd).1 (a5j hv).1,if_neg hk];simp
 | p::P,w::vs,i+1,m,nd,h1,h2,hk=>by
  unfold bindC;show HV (a2j.mp nd).2 (by simpa using h1) (by simpa using h2) hk
noncomputable def start(N:List Str)(vs:List V):St:=vs.map some++List.replicate (N.length-vs.length) none
noncomputable def cb(CX:fV)(P:Program)(w:World)(K:PySem.W.Frag)(mg:Str->Option Value)(base:Heap)(N:List Str)(qual:Str)(scope:Scope)(f:Addr)(cd:Value)(A:Around)(outer:List Env)(s:Shared)(H:Hp)(E:XK):Cx where
 prog:=P
 w:=w
 K:=K
 mg:=mg
 base:=base
 A:=A.deeper (envOfC qual scope s.heap.objs.size f cd)
 N:=N
 cL:=s
 fT:=H
 env:=envOfC qual scope s.heap.objs.size f cd
 outer:=outer
 stack:=envOfC qual scope s.heap.objs.size f cd::outer
 ex:=[]
 calm:=true
 fn:=λ_=>true
 pn:=[]
 xe:=λe s'=>wpAny (model P w) (A.deeper (envOfC qual scope s.heap.objs.size f cd)) (leaving (envOfC qual scope s.heap.objs.size f cd) e) (λ_ ia=>CX outer H s E e ia) (λe' ia=>CX outer H s E e' ia) s'
def HW{sc:Scope}(h:sc.names.lookup x=some .cell):∃c,(cellsFrom n sc.names []).lookup x=some c:=by
 have q:=PySem.W.cellsFrom_some _ n [] (.inl h);show Option.isSome_iff_exists.mp q
def Sn{K:PySem.W.Frag} (S:aS N ps scope) (hd:A.handled=none) (e0:oh P w K mg base A outer s H) (hl:vs.length=ps.length) (r:aE vs us) (x:InCallC s s.heap.objs.size (bindL (envOfC qual scope s.heap.objs.size f cd).kindOf (ps.zip us) λ_=>none) (cellsFrom (s.heap.objs.size+1) scope.names []) (bindC (envOfC qual scope s.heap.objs.size f cd).kindOf (ps.zip us) λ_=>none) s1) : Inv (cb CX P w K mg base N qual scope f cd A outer s H E) [] (start N vs) H s1:=by
 have cu:ps.length<=N.length:=by have:=congrArg List.length S.pre;rw[a2d] at this;omega
 obtain⟨h1,tk,rfl,hk⟩:=x.done;have sQ:∀b:Addr,b∉(cb CX P w K mg base N qual scope f cd A outer s H E).ex:=λb z=>absurd (show b∈ []  from z) θ;show⟨⟨e0.mod,S.kind,μ,μ,a1M _,λy z c h1 h2=>?_,λy hy=>?_,λy c _ h=>?_,λ_=>hd,Around.frames_deeper e0.frames,.inr ⟨μ,μ⟩,λb z=>absurd z (sQ b),e0.bs,e0.iB,λb _ _=>sQ b,λb z=>absurd z (sQ b),e0.gD,e0.kq⟩, μ,e0.bare,Un.kept hk,⟨_,x.toInCall.ns,λi y v h1 h2 h3=>?_⟩,λy c h=>⟨_,x.cell y c h⟩,e0.am.fresh (a1M _),λy c h=>?_,λp hp=>absurd (show p∈ []  from hp) θ,e0.am.kept hk,?_⟩;.show name_of_addr x.apart (PySem.mem_of_lookup h1) (PySem.mem_of_lookup h2)
 .rcases hy with hy | hy;.show HW hy
  .show absurd μ (S.Sm _ (PySem.mem_of_lookup hy))
 .show a4Q (x.above y c (PySem.mem_of_lookup h))
 .have hi:i<vs.length:=by
   unfold start at h2;by_cases hi:i<vs.length;.show hi
   .rw[a1V (by simpa using hi)] at h2;rw[a4o] at h2;split at h2 <;> cases h2
  have ha:vs[i]?=some v:=by
   unfold start at h2;rw[a1R (by simpa using hi),a1O] at h2
   cases e:vs[i]? with
   | none=>rw[e] at h2;cases h2
   | some a=>rw[e] at h2;cases h2;rfl
  obtain⟨u,hu,rv⟩:=r.get ha;have hp:ps[i]?=some y:=by rw[<-S.pre,List.getElem?_take_of_lt (by omega)];show h1
  have HX:ps.Nodup:=by rw[<-S.pre];show S.nd.sublist (List.take_sublist _ _)
  show⟨u,rv,?_⟩;rcases S.par y (a1K hp) with k | k;.show .inl ⟨k,HU HX hp hu k⟩
  .obtain⟨c,e⟩:=HW k;show .inr ⟨.inl k,c,e,?_⟩;have q:=x.cell y c e;rw[HV HX hp hu (by change scope.names.lookup y≠_;rw[k];decide)] at q;show q
 .show e0.am.fresh (a4Q (x.above y c (PySem.mem_of_lookup h)))
 .unfold start;change _=N.length;rw[a2p,a1H,a4B];omega
def HY{K:PySem.W.Frag}{dV kV bF pm ao ct oc:Value} (lk:K.lookup f=some ⟨oc,od,.func (PySem.W.fnOf name qual params body scope dV kV bF pm an ao ct),cS⟩) (fU:PySem.W.codeIn K ao qual=true) (S:aS N ps scope) (len:∀vs H Q E,sp vs H Q E->vs.length=ps.length) (sR:∀ A   outer   s   H   vs   Q   E ,bM k (A.deeper (envOfC qual scope s.heap.objs.size f ao))->sp vs H Q E-> ∃t,dP (cb CX P w K mg base N qual scope f ao A outer s H E) body t/\t {nx:=λ_ H'=>Q .ax H',rt:=Q} (start N vs) H) : aA P w K mg base CX (k+1) f (PySem.W.fnOf name qual params body scope dV kV bF pm an ao ct) ps sp:=by
 show⟨len,λA outer s H args us vs Q E hr e0 hb r fW=>?_⟩;have hl:=len _ _ _ _ fW;have KX:=e0.mod.qa.keeps λb o e=>(e0.bs b o e).1;have So:=e0.mod.nolimit.keeps λb o e=>(e0.bs b o e).1
 have Sq:∀y∈ps.zip us,scope.names.lookup y.1=some .local\/(scope.names.lookup y.1=some .cell/\((cellsFrom (s.heap.objs.size+1) _ []).lookup y.1).isSome=true):=λ⟨n,v⟩ hy=>by
  rcases S.par n (a5j hy).1 with q | q;.show .inl q
  .show .inr ⟨q,PySem.W.cellsFrom_some _ _ _<|.inl q⟩
 show codeAny_call_function hr.depth (KX _ _ lk) μ S.co S.gen μ (PySem.W.codeRec_of KX fU)<|hb _ _ _ _ (wpAny_newFunctionEnv_cells S.kind Sq λenv he s1 x=>?_);subst he;show⟨So.keeps x.toInCall.keep,codeAny_func ?_⟩;obtain⟨t,ht,hq⟩:=sR A _ s H vs Q E (hr.deeper _) fW;have I:Inv (cb CX P w K mg _ N qual _ f ao A _ s H E) [] _ H s1:=Sn S hr.hd e0 hl r x;show wpAny_mono (ht [] s1 _ H _ I hq) (λfl s' hs=>?_) λe s' hs=>hs;have fin:∀ {aJ:St} {H':Hp} {v:V} {u:Value},Inv (cb CX P w K mg base N qual scope f ao A _ s H E) [] aJ H' s'->RelV v u->Q v H'->CE outer P w H s Q u s' := λ{aJ H' v u} J rv q=>⟨v,H',J.os,J.bare,J.base,J.am,rv,q⟩
 cases fl with
 | ret u =>
  obtain⟨v,aJ,H',J,rv,q⟩:=hs;show fin J rv q
 | next =>
  obtain⟨aJ,H',J,q⟩:=hs;show fin (v:=V.ax) J μ q
 | brk =>
  obtain⟨_,_,_,q⟩:=hs;show False.elim q
 | cont =>
  obtain⟨_,_,_,q⟩:=hs;show False.elim q
section
variable{p pos:Pos}{id T:String}
def AW(r:List V->Hp->VK->Prop)(t:TA):TE:=fun σ H Q=>t σ H λvs H1=>r vs H1 Q
def p_(hc:cZ X (.builtin id) r)(hg:Gl X x)(hm:X.mg x=none)(hv:bootBuiltins x=some (.builtin id))(ha:PA X (e::es) t)(hn:x≠"__name__":=by decide)(gi:(x==("__debug__":Str))=false:=by decide) (he:starEach (e::es) X.env=(false,eval e X.env)::starEach es X.env:=by rfl) (cu:(backTo pos (starEach es X.env)).any (·.1)=false:=by rfl):PE X (.Call (.Name x p) (e::es) [] pos) (AW r t):=by
 show λaa s σ H Q I h=>wpAny_Call_Name_kw<|hU I hg hm hv ?_ hn gi;show PyProof.Rows.callWith_builtin1 (au (ha pos aa s σ H _ I h) λus s1 ⟨vs,H1,I1,r1,q1⟩=>hc aa s1 σ H1 vs us Q I1 r1 q1) he cu
def J_(hc:cZ X (.type T) r)(hg:Gl X x)(hm:X.mg x=none)(hv:bootBuiltins x=some (.type T))(ha:PA X (e::es) t)(hn:x≠"__name__":=by decide)(gi:(x==("__debug__":Str))=false:=by decide) (he:starEach (e::es) X.env=(false,eval e X.env)::starEach es X.env:=by rfl) (cu:(backTo pos (starEach es X.env)).any (·.1)=false:=by rfl):PE X (.Call (.Name x p) (e::es) [] pos) (AW r t):=by
 show λaa s σ H Q I h=>wpAny_Call_Name_kw<|hU I hg hm hv ?_ hn gi;show PyProof.Rows.callWith_type1 (au (ha pos aa s σ H _ I h) λus s1 ⟨vs,H1,I1,r1,q1⟩=>hc aa s1 σ H1 vs us Q I1 r1 q1) he cu
end
end L2
namespace HT
open PySem PyProof.Rows
section
open PySem.SeqAt
open PySem.AutoSeq1 (wpAny_loadPart')
open PySem.MeetsSeq PySem.MeetsSeq2 PySem.MeetsSeq3
end
noncomputable def eR(n d:Nat):Option Int->Nat
 | none=>d
 | some v=>if v<0 then (v+(n:Int)).toNat else min v.toNat n
def AX(n d:Nat):eR n d none=d:=rfl
def sS(n d k:Nat):eR n d (some (k:Int))=min k n:=by
 change(if  k <0 then ( k +(n:Int)).toNat else min (k:Int).toNat n)=min k n;rw[if_neg (by omega),Int.toNat_natCast]
end HT
namespace L2
open PySem PySem.Spec PyProof.Rows
abbrev TO:=St->Hp->(Option Int->Hp->Prop)->Prop
def PO(X:Cx)(e:Option Expr)(t:TO):Prop := ∀(aa:List (Addr×Obj)) (s:Shared) (σ:St) (H:Hp) (Q:Option Int->Hp->Prop),Inv X aa σ H s->t σ H Q-> wpAny (model X.prog X.w) X.A (evalPart e X.env) (λu s'=>∃o H',Inv X aa σ H' s'/\IsPart u o/\Q o H') X.xe s
def Sr:TO:=λ_ H Q=>Q none H
inductive HZ(Q:Option Int->Hp->Prop)(x:V)(H1:Hp):Prop
 | mk:∀i,(x=.int i)->(Q (some i) H1)->HZ Q x H1
def Ss(t:TE):TO:=fun σ H Q=>t σ H (HZ Q)
section
variable{lo hi:Option Expr}
def qj:PO X none Sr:=by
 intro aa s σ H Q I h;show wpAny_pure ⟨none,H,I,.none,h⟩
def gH(h:PE X e te):PO X (some e) (Ss te):=by
 intro aa s σ H Q I hw;show au (h aa s σ H _ I hw) λu s1 ⟨x,H1,I1,r1,q1⟩=>?_;obtain⟨i,rfl,q⟩:=q1;obtain⟨t,rfl⟩:=r1;show⟨some i,H1,I1,.int i t,q⟩
def AY(X:Cx)(r:V->Option Int->Option Int->Hp->VK->Prop):Prop := ∀(aa:List (Addr×Obj)) (s:Shared) (σ:St) (H:Hp) (x:V) (v vl vu:Value) (lo hi:Option Int) (sl:Addr) (Q:VK),Inv X aa σ H s->RelV x v->s.heap.IsSliceOf sl vl vu .none->IsPart vl lo->IsPart vu hi->r x lo hi H Q-> ∃T id,typeLookup (.type T) "__getitem__"=pure (some (.builtin id))/\s.TypeIs v T/\wpAny (model X.prog X.w) X.A (getItem v (.ref sl)) (EP X aa σ Q) X.xe s
def Su(r:V->Option Int->Option Int->Hp->VK->Prop)(te:TE)(tl th:TO):TE:=fun σ H Q=>te σ H λx H1=>tl σ H1 λl H2=>th σ H2 λu H3=>r x l u H3 Q
def jH(hr:AY X r)(he:PE X e te)(hl:PO X lo tl)(hu:PO X hi th):PE X (.Subscript e (.Slice lo hi none p2) pos) (Su r te tl th):=by
 show λaa s σ H Q I h=>Subscript_<|au (he aa s σ H _ I h) λv s1 ⟨x,H1,I1,r1,q1⟩=>?_;show wpAny_Slice<|au (hl aa s1 σ H1 _ I1 q1) λvl s2 ⟨l,H2,I2,pl,q2⟩=>au (hu aa s2 σ H2 _ I2 q2) λvu s3 ⟨u,H3,I3,pu,q3⟩=>?_;show wpAny_pure ?_;have I4:Inv X aa σ H3 {s3 with heap:=s3.heap.push {cls:=.type "slice",data:=.fields #[vl,vu,.none]}}:=I3.kept λb ob q=>a1J _ q;obtain⟨T,id,hT,ht,hg⟩:=hr aa {s3 with heap:=s3.heap.push {cls:=.type "slice",data:=.fields #[vl,vu,.none]}} σ H3 x v vl vu l u _ Q I4 r1 (Heap.IsSliceOf.new ..) pl pu q3;show tail_any ht hT hg<|by with_unfolding_all rfl
noncomputable def dc(xs:List V)(lo hi:Option Int):List V:=(xs.drop (HT.eR xs.length 0 lo)).take (HT.eR xs.length xs.length hi-HT.eR xs.length 0 lo)
def Sv(xs:List V)(lo hi:Option Int):(dc xs lo hi).length<=xs.length:=by
 unfold dc;rw[a2d,a2k];omega
end
noncomputable def ib(n:Nat)(i:Int):Option Nat:=if 0<=i then (if i<n then some i.toNat else none) else if -(n:Int)<=i then some (i+n).toNat else none
noncomputable def df{α:Type}(xs:List α)(i:Int):Option α:=(ib xs.length i).bind λj=>xs[j]?
def Ia(h:ib n i=some j):seqIndex? i n=some j/\j<n/\-(n:Int)<=i/\i<n:=by
 unfold ib at h;by_cases h0:0<=i
 .rw[if_pos h0] at h;by_cases h1:i<n
  .rw[if_pos h1] at h;have e:=a1Q h;show⟨by rw[seqIndex_of h0 h1,e],by omega,by omega,h1⟩
  .rw[if_neg h1] at h;cases h
 .rw[if_neg h0] at h;by_cases h1 : - n <=i
  .rw[if_pos h1] at h;have e:=a1Q h;show⟨by rw[seqIndex_neg (by omega) h1,e],by omega,h1,by omega⟩
  .rw[if_neg h1] at h;cases h
def Ib{v:α}(h:df xs i=some v):∃j,seqIndex? i xs.length=some j/\xs[j]?=some v/\j<xs.length/\-(xs.length:Int)<=i/\i<xs.length:=by
 unfold df at h
 cases e:ib _ i with
 | none=>rw[e] at h;cases h
 | some j =>
  rw[e] at h;obtain⟨h1,h2,h3,h4⟩:=Ia e;show⟨j,h1,h,h2,h3,h4⟩
def Z_{j:Nat}{v:α}(h:xs[j]?=some v):df xs (j:Int)=some v:=by
 have hj:=(a1I.mp h).1
 have e:ib xs.length  j =some j:=by
  unfold ib;rw[if_pos (by omega),if_pos (by omega)];simp
 unfold df;show e▸?_;show h
def wm(xs:List α)(v:α):df (xs++[v]) (-1)=some v:=by
 have hl:(xs++[v]).length=xs.length+1:=by simp
 have e:ib (xs++[v]).length (-1)=some xs.length:=by
  unfold ib;rw[hl,if_neg ζ,if_pos (by omega)];congr 1;omega
 unfold df;rw[e];simp
def qk(b:Expr):Prop:=∀o i,subscripted b false o i=operate [o,i] (getItem o i)
def AZ(X:Cx)(r:R2):Prop := ∀(value kM:Expr) (aa:List (Addr×Obj)) (s:Shared) (σ:St) (H:Hp) (x y:V) (v u:Value) (Q:VK),Inv X aa σ H s->RelV x v->RelV y u->r x y H Q-> subscripted kM false v u=operate [v,u] (getItem v u)->wpAny (model X.prog X.w) X.A (subscriptTail value kM v u) (EP X aa σ Q) X.xe s
def Id(X:Cx)(id:String)(r:V->List V->Hp->VK->Prop):Prop := ∀(aa:List (Addr×Obj)) (s:Shared) (σ:St) (H:Hp) (x:V) (xs:List V) (v:Value) (us:List Value) (Q:VK),Inv X aa σ H s->RelV x v->aE xs us->r x xs H Q-> wpAny (model X.prog X.w) X.A (call (.builtin id) (v::us)) (EP X aa σ Q) X.xe s
section
def Ie(hr:AZ X r)(ha:PE X a ta)(hb:PE X b tb)(hs:qk b):PE X (.Subscript a b pos) (mf r ta tb):=by show λaa s σ H Q I h=>Subscript_<|AO ha hb I h λv u s2 x y H2 I2 rx ry q=>hr a b aa s2 σ H2 x y v u Q I2 rx ry q<|hs _ _
inductive sU(K:PySem.W.Frag)(x:V)(y:V)(H:Hp)(Q:VK):Prop
 | mk:∀p xs i v,(x=.ref p)->(y=.int i)->(ae K H p xs)->(df xs i=some v)->(Q v H)->sU K x y H Q
inductive sV(K:PySem.W.Frag)(x:V)(y:V)(H:Hp)(Q:VK):Prop
 | mk:∀p xs i v,(x=.ref p)->(y=.int i)->(aB K H p xs)->(df xs i=some v)->(Q v H)->sV K x y H Q
def Sw:AZ X (sU X.K):=by
 intro value kM aa s σ H x y v u Q I rx ry h hs;obtain⟨p,xs,i,z,rfl,rfl,hq,he,q⟩:=h;cases rx;obtain⟨t,rfl⟩:=ry;obtain⟨ad,r,pl,hz⟩:=I.list hq;obtain⟨j,h1,h2,h3,h4,h5⟩:=Ib he;obtain⟨w,ew,fJ⟩:=r.get h2;have hl:=r.length;have hn:=wb;have fin:EP X aa σ Q w s:=⟨z,H,I,fJ,q⟩;by_cases h0:0<=i
 .have hj:i.toNat=j:=by
   rw[seqIndex_of h0 h5] at h1;show a1Q h1
  show item_listR pl.isList h0 (by omega) (by rw[hj];simpa using ew) fin hs
 .have hj:(i+(ad.toArray.size)).toNat=j:=by
   rw[seqIndex_neg (by omega) h4] at h1;rw[a1W,<-hl];show a1Q h1
  show subscriptTail_builtinR pl.isList.typeIs slot_list_getitem.lookup (wpAny_getItem_list_neg pl.isList (by omega) (by rw[a1W] <;> omega) (by omega) (by rw[hj];simpa using ew) ⟨μ,fin⟩) hs
def Sx:AZ X (sV X.K):=by
 intro value kM aa s σ H x y v u Q I rx ry h hs;obtain⟨p,xs,i,z,rfl,rfl,hq,he,q⟩:=h;cases rx;obtain⟨t,rfl⟩:=ry;obtain⟨ad,r,pl,hz⟩:=I.tuple hq;obtain⟨j,h1,h2,h3,h4,h5⟩:=Ib he;obtain⟨w,ew,fJ⟩:=r.get h2;have hl:=r.length;have hn:=wb;have fin:EP X aa σ Q w s:=⟨z,H,I,fJ,q⟩;show subscriptTail_builtinR pl.typeIs slot_tuple_getitem.lookup (getItem_tuple pl (by omega) (by omega) (by rw[a1W,<-hl];show h1) (by simpa using ew) ⟨μ,fin⟩) hs
def Sy(ad:List Value)(n j:Nat)(u:Value):Obj.mapSeq (·.setIfInBounds j u) {cls:=.type "list",data:=.seq ad.toArray n}={cls:=.type "list",data:=.seq (ad.set j u).toArray n}:=by simp[Obj.mapSeq]
theorem Inv.lst{σ:St}(I:Inv X aa σ H s)(h:H p=some (.lst xs)) : ∃ad n,aE xs ad/\s.heap.get? p=some {cls:=.type "list",data:=.seq ad.toArray n}/\xs.length<=sizeLine:=by
 obtain⟨z,ad,n,r,e⟩:=I.am p _ h;show⟨ad,n,r,e,z⟩
def Inv.Sz{σ:St}{ad its':List Value}(I:Inv X aa σ H s)(h:H p=some (.lst xs)) (ho:s.heap.get? p=some {cls:=.type "list",data:=.seq ad.toArray n}) (hf:f {cls:=.type "list",data:=.seq ad.toArray n}={cls:=.type "list",data:=.seq its'.toArray n'}) (r:aE ys its') (hz:ys.length<=sizeLine) (t:Nat) : Inv X aa σ (upd H p (.lst ys)) {s with heap:=s.heap.update p f,toks:=t}:=by
 have e:(s.heap.update p f).get? p=some {cls:=.type "list",data:=.seq its'.toArray n'}:=by rw[a3A f ho (by rw[hf] <;> rfl),hf]
 show I.write (by rw[h];trivial) (.inl μ) (λb u hb q=>(a2C _ _<|Ne.symm hb).trans q) ⟨_,e⟩ ⟨hz,its',n',r,e⟩
inductive Ig(o:V)(i:V)(v:V)(H:Hp)(Q:Hp->Prop):Prop
 | mk:∀p xs k j,(o=.ref p)->(i=.int k)->(H p=some (.lst xs))->(ib xs.length k=some j)->(Q (upd H p (.lst (xs.set j v))))->Ig o i v H Q
def oj:Hk X Ig:=by
 intro aa s σ H o i v ov iv u Q I ro ri rv h;obtain⟨p,xs,k,j,rfl,rfl,hp,hj,q⟩:=h;cases ro;obtain⟨t,rfl⟩:=ri;obtain⟨ad,n,r,ho,hz⟩:=I.lst hp;obtain⟨h1,h2,h3,h4⟩:=Ia hj;have hl:=r.length;have hn:=wb;have I':Inv X aa σ _ {s with heap:=s.heap.update p _} := I.Sz hp ho (Sy ad n j u) (r.set rv j) (by rw[a3E];show hz) _;by_cases h0:0<=k
 .have hk:k.toNat=j:=by
   rw[seqIndex_of h0 h4] at h1;show a1Q h1
  show PySem.W.ki_setAt ho h0 (by omega) (by rw[a1W,<-hl];show h4)<|by rw[hk];show⟨_,I',q⟩
 .have hk:(k+(ad.toArray.size)).toNat=j:=by
   rw[seqIndex_neg (by omega) h3] at h1;rw[a1W,<-hl];show a1Q h1
  show PySem.W.ki_setBack ho (by omega) (by rw[a1W,<-hl];show h3) (by omega)<|by rw[hk];show⟨_,I',q⟩
def SA(lo hi:Option Int)(n:Nat):(sliceBounds lo hi none n).1=((HT.eR n 0 lo:Nat):Int)/\(sliceBounds lo hi none n).2.1=((HT.eR n n hi:Nat):Int)/\(sliceBounds lo hi none n).2.2=1:=by
 show⟨?_,?_,μ⟩
 .cases lo with
  | none=>simp[sliceBounds,HT.eR]
  | some i =>
   simp only[sliceBounds,HT.eR,Option.getD_none,show(1:Int)>0 by decide,if_true];by_cases h:i<0;.simp only[h,if_true] <;> omega
   .simp only[h,if_false] <;> omega
 .cases hi with
  | none=>simp[sliceBounds,HT.eR]
  | some i =>
   simp only[sliceBounds,HT.eR,Option.getD_none,show(1:Int)>0 by decide,if_true];by_cases h:i<0;.simp only[h,if_true] <;> omega
   .simp only[h,if_false] <;> omega
def SB(ad:List Value)(lo hi:Option Int):slicePick ad.toArray lo hi none=((ad.drop (HT.eR ad.length 0 lo)).take (HT.eR ad.length ad.length hi-HT.eR ad.length 0 lo)).toArray:=by
 obtain⟨h1,h2,h3⟩:=SA lo hi _;unfold slicePick;rw[h1,h2,h3];simp only[sliceRange_one,pick_run,a1W] <;> rfl
inductive A6(K:PySem.W.Frag)(x:V)(lo:Option Int)(hi:Option Int)(H:Hp)(Q:VK):Prop
 | mk:∀a xs,(x=.ref a)->(ae K H a xs)->(∀p,H p=none->Q (.ref p) (upd H p (.lst (dc xs lo hi))))->A6 K x lo hi H Q
def kN:AY X (A6 X.K):=by
 intro aa s σ H x v vl vu lo hi sl Q I rx hs pl pu h;obtain⟨a,xs,rfl,hx,q⟩:=h;cases rx;obtain⟨ad,r,ht,hz⟩:=I.list hx;have bZ:=r.length;show⟨"list",_,slot_list_getitem.lookup,ht.isList.typeIs,(wpAny_getItem_list_slice ht.isList hs pl pu .none θ ?_ (by rw[a1W] <;> omega))⟩;rw[SB,<-bZ];show⟨.ref _,_,I.laid (o:=.lst _) (λb ob q=>a1J _ q) (a1M _) ⟨a2o (Sv xs lo hi) hz,_,0,(r.drop (HT.eR xs.length 0 lo)).take (HT.eR xs.length xs.length hi-HT.eR xs.length 0 lo),a1S _ μ⟩,μ,q _<|I.am.fresh<|a1M _⟩
noncomputable def ml:V->Bool
 | .ax=>true
 | .bl _=>true
 | .int _=>true
 | .str _=>true
 | _=>false
noncomputable def mq:V->V->Bool
 | .ax,.ax=>true
 | .bl a,.bl b=>a==b
 | .bl a,.int b=>(if a then 1 else 0)==b
 | .int a,.bl b=>a==(if b then 1 else 0)
 | .int a,.int b=>a==b
 | .str a,.str b=>a==b
 | _,_=>false
def SC(ry:RelV y u)(rx:RelV x v)(fy:ml y=true)(fx:ml x=true):SeqAt.EqAt A s u v (mq y x):=by
 cases y with
 | ax =>
  cases ry
  cases x with
  | ax=>cases rx;show SeqAt.EqAt.same _
  | bl b=>cases rx;show SeqAt.EqAt.none_bool b
  | int b=>obtain⟨t,rfl⟩:=rx;show SeqAt.EqAt.none_int b t
  | str b=>obtain⟨t,rfl⟩:=rx;show SeqAt.EqAt.none_str b t
  | _=>show absurd (show false=true from fx) a1Y
 | bl a =>
  cases ry
  cases x with
  | ax=>cases rx;show SeqAt.EqAt.bool_none a
  | bl b=>cases rx;show SeqAt.EqAt.bool_bool a b
  | int b=>obtain⟨t,rfl⟩:=rx;show SeqAt.EqAt.bool_int a b t
  | str b=>obtain⟨t,rfl⟩:=rx;show SeqAt.EqAt.bool_str a b t
  | _=>show absurd (show false=true from fx) a1Y
 | int a =>
  obtain⟨t',rfl⟩:=ry
  cases x with
  | ax=>cases rx;show SeqAt.EqAt.int_none a t'
  | bl b=>cases rx;show SeqAt.EqAt.int_bool a t' b
  | int b=>obtain⟨t,rfl⟩:=rx;show SeqAt.EqAt.int_int a t' b t
  | str b=>obtain⟨t,rfl⟩:=rx;show SeqAt.EqAt.int_str a t' b t
  | _=>show absurd (show false=true from fx) a1Y
 | str a =>
  obtain⟨t',rfl⟩:=ry
  cases x with
  | ax=>cases rx;show SeqAt.EqAt.str_none a t'
  | bl b=>cases rx;show SeqAt.EqAt.str_bool a t' b
  | int b=>obtain⟨t,rfl⟩:=rx;show SeqAt.EqAt.str_int a t' b t
  | str b=>obtain⟨t,rfl⟩:=rx;show SeqAt.EqAt.str_str a t' b t
  | _=>show absurd (show false=true from fx) a1Y
 | _=>show absurd (show false=true from fy) a1Y
noncomputable def kO(x:V)(u:Value):Bool:=match u with
 | .none=>mq .ax x
 | .bool b=>mq (.bl b) x
 | .int i _=>mq (.int i) x
 | .str z _=>mq (.str z) x
 | _=>false
def Ih(r:RelV y u)(f:ml y=true):kO x u=mq y x:=by
 cases y with
 | ax=>cases r;rfl
 | bl b=>cases r;rfl
 | int i=>obtain⟨t,rfl⟩:=r;rfl
 | str z=>obtain⟨t,rfl⟩:=r;rfl
 | _=>show absurd (show false=true from f) a1Y
theorem A8{x:V}:∀ {xs:List V} {us:List Value},aE xs us->xs.all ml=true->us.any (kO x)=xs.any λy=>mq y x
 | _,_,.nil,_=>rfl
 | y::xs,u::us,.cons r t,f=>by
  rw[a5a,a2v] at f;rw[a4d,a4d,Ih r f.1,A8 t f.2]
theorem A9{A:Around}{s:Shared}{x:V}{v:Value}(rx:RelV x v)(fx:ml x=true):∀ {xs:List V} {us:List Value},aE xs us->xs.all ml=true->∀u∈us,SeqAt.EqAt A s u v (kO x u)
 | _,_,.nil,_=>λu hu=>by cases hu
 | y::xs,u::us,.cons r t,f=>λu' hu=>by
  rw[a5a,a2v] at f;rcases a1L.mp hu with rfl | hu;.rw[Ih r f.1];show SC r rx f.1 fx
  .show A9 rx fx t f.2 u' hu
noncomputable def Ii(x:V)(xs:List V):Bool:=xs.any λy=>mq y x
inductive Ij(K:PySem.W.Frag)(kP:Bool)(x:V)(y:V)(H:Hp)(Q:VK):Prop
 | mk:∀p xs,(y=.ref p)->((ae K H p xs\/aB K H p xs))->(ml x=true)->(xs.all ml=true)->(Q (.bl (if kP then !Ii x xs else Ii x xs)) H)->Ij K kP x y H Q
def SD:cz X (compareOp .In) (Ij X.K false):=by
 intro aa s σ H x y v u Q I rx ry h;obtain⟨p,xs,rfl,hq,fx,fs,q⟩:=h;cases ry;rcases hq with hq | hq
 .obtain⟨ad,r,pl,hz⟩:=I.list hq;show SeqAt.in_listAt _ pl.isList (λw hw=>A9 rx fx r fs w<|by simpa using hw) ⟨.bl _,H,I,μ,?_⟩;rw[show ad.toArray.any _=ad.any (kO x) by simp,A8 r fs];show q
 .obtain⟨ad,r,pl,hz⟩:=I.tuple hq;show SeqAt.in_tupleAt _ pl (λw hw=>A9 rx fx r fs w<|by simpa using hw) ⟨.bl _,H,I,μ,?_⟩;rw[show ad.toArray.any _=ad.any (kO x) by simp,A8 r fs];show q
def SE:cZ X (.builtin "len") (λxs H Q=>∃p ys,xs=[.ref p]/\(ae X.K H p ys\/aB X.K H p ys)/\Q (.int ys.length) H):=by
 intro aa s σ H xs us Q I r h;obtain⟨p,ys,rfl,hq,q⟩:=h;obtain⟨u,rfl,rx⟩:=vals1 r;cases rx;have hn:=wb;rcases hq with hq | hq
 .obtain⟨ad,r',pl,hz⟩:=I.list hq;have bZ:=r'.length;show Calls.call_len_list pl.isList (by simp only[a1W] <;> omega) ⟨.int _,H,I.tok _,⟨s.toks+1,by rw[a1W,bZ]⟩,q⟩
 .obtain⟨ad,r',pl,hz⟩:=I.tuple hq;have bZ:=r'.length;show len_tuple pl (by simp only[a1W] <;> omega) ⟨.int _,H,I.tok _,⟨s.toks+1,by rw[a1W,bZ]⟩,q⟩
def sW:cZ X (.type "list") (λxs H Q=>∃p ys,xs=[.ref p]/\(ae X.K H p ys\/aB X.K H p ys)/\∀l,H l=none->Q (.ref l) (upd H l (.lst ys))):=by
 intro aa s σ H xs us Q I r h;obtain⟨p,ys,rfl,hq,q⟩:=h;obtain⟨u,rfl,rx⟩:=vals1 r;cases rx;have fin:∀ ad ,aE ys ad->ys.length<=sizeLine->∀ h'   c' ,(∀b o',s.heap.get? b=some o'->h'.get? b=some o')-> h'.get? s.heap.objs.size=some {cls:=.type "list",dict:=none,data:=.seq ad.toArray c',slots:=#[]}->EP X aa σ Q _ {s with heap:=h'}:=λad r' hz h' c' kp e => ⟨.ref _,_,I.laid kp (a1M _) (show ci _ X.w _ h' _ (.lst ys) from⟨hz,ad,c',r',e⟩),μ,q _<|I.am.fresh<|a1M _⟩;rcases hq with hq | hq
 .obtain⟨ad,r',pl,hz⟩:=I.list hq;have bZ:=r'.length;obtain⟨o,ho,hc,n,hd⟩:=pl.isList;show call_list_seq p (.inl μ) ho hc hd (λh' c' kp e=>fin ad r' hz h' c' kp e)<|by simp only[a1W] <;> omega
 .obtain⟨ad,r',pl,hz⟩:=I.tuple hq;have bZ:=r'.length;obtain⟨o,ho,hc,n,hd⟩:=pl;show call_list_seq p (.inr μ) ho hc hd (λh' c' kp e=>fin ad r' hz h' c' kp e)<|by simp only[a1W] <;> omega
def Ba(K:PySem.W.Frag)(T:String)(x:V)(H:Hp):Prop:=match x with
 | .str _=>T="str"
 | .int _=>T="int"
 | .ref p=>(T="list"/\∃xs,ae K H p xs)\/(T="tuple"/\∃o,K.lookup p=some o/\o.cls=.type "tuple"/\o.dict=none)\/
   (T="dict"/\((∃kvs,H p=some (.dK kvs))\/∃kvs,H p=some (.dT kvs)))\/(T="set"/\∃S n,H p=some (.set S n))
 | _=>False
def Ik{σ:St}(I:Inv X aa σ H s)(r:RelV x v)(ty:Ba X.K T x H) : s.TypeIs v T/\∀a,v=.ref a->∃ob,s.heap.get? a=some ob/\ob.dict=none:=by
 cases x with
 | str z =>
  obtain⟨t,rfl⟩:=r;cases (show T="str" from ty);show⟨typeIs_str s z t,λ_ e=>nomatch e⟩
 | int i =>
  obtain⟨t,rfl⟩:=r;cases (show T="int" from ty);show⟨typeIs_int s i t,λ_ e=>nomatch e⟩
 | ref p =>
  cases r;rcases ty with⟨rfl,xs,hq⟩ | ⟨rfl,o,hk,hc,hd⟩ | ⟨rfl,hk⟩ | ⟨rfl,S,n,hk⟩
  .obtain⟨ad,_,pl,_⟩:=I.list hq;show⟨pl.isList.typeIs,λa e=>?_⟩;cases e;obtain⟨o,n,e,c,hd,_⟩:=pl;show⟨o,e,hd⟩
  .show⟨⟨o,I.cq p o hk,hc⟩,λa e=>?_⟩;cases e;show⟨o,I.cq _ o hk,hd⟩
  .have z:∃o,s.heap.get? p=some o/\o.ExactDict:=by
    rcases hk with⟨kvs,hk⟩ | ⟨kvs,hk⟩
    .obtain⟨_,_,_,_,o,_,_,e,ex,_⟩:=I.am p _ hk;show⟨o,e,ex⟩
    .obtain⟨_,_,_,_,o,_,_,e,ex,_⟩:=I.am p _ hk;show⟨o,e,ex⟩
   obtain⟨o,e,ex⟩:=z;show⟨⟨o,e,ex.1⟩,λa e2=>?_⟩;cases e2;show⟨o,e,ex.2.1⟩
  .obtain⟨o,_,_,_,e,ex,_⟩:=I.am p _ hk;show⟨⟨o,e,ex.1⟩,λa e2=>?_⟩;cases e2;show⟨o,e,ex.2.1⟩
 | _=>show False.elim ty
def SG(K:PySem.W.Frag)(T:String)(r:V->List V->Hp->VK->Prop)(to:TE):TE:=fun σ H Q=>to σ H λx H1=>Ba K T x H1/\r x [] H1 Q
def SI(K:PySem.W.Frag)(T:String)(r:V->List V->Hp->VK->Prop)(to:TE)(t:TA):TE:=fun σ H Q=>to σ H λx H1=>Ba K T x H1/\t σ H1 λxs H2=>r x xs H2 Q
variable{bO dm:Pos}{T id:String}
def Il(pa:PlainAttrs T)(slot:Slot T name id)(Bb:typeOf (.builtin id)=pure (.type "method_descriptor"))(hm:Id X id r)(ho:PE X o to) (sX:attributeBase o name X.env (eval o X.env)=eval o X.env:=by rfl) (sY:(bO.endLine==dm.line)=true:=by rfl):PE X (.Call (.Attribute o name bO) [] [] dm) (SG X.K T r to):=by
 show λaa s σ H Q I h=>wpAny_Call_method0_late sX sY<|au (ho aa s σ H _ I h) λv s1 ⟨x,H1,I1,r1,ty,q1⟩=>?_;obtain⟨h1,h2⟩:=Ik I1 r1 ty;show⟨T,id,pa,slot,Bb,h1,h2,Calls.callWith_builtin μ<|PySem.evalArgs_none<|hm aa s1 σ H1 x [] v [] Q I1 r1 .nil q1⟩
def fk(pa:PlainAttrs T)(slot:Slot T name id)(Bb:typeOf (.builtin id)=pure (.type "method_descriptor"))(hm:Id X id r)(ho:PE X o to)(ha:PA X (e::es) t) (sX:attributeBase o name X.env (eval o X.env)=eval o X.env:=by rfl) (SJ:((backTo dm (starEach (e::es) X.env)).all (λx=>!x.1)&&(backToKw dm (keywordEach [] X.env)).all (λx=>x.1.isSome) && decide ((e::es).length+([]:List Keyword).length+(if ([]:List Keyword).isEmpty then 0 else 1)<30))=true:=by rfl) (sY:(bO.endLine==dm.line)=true:=by rfl) (hs:starEach (e::es) X.env=(false,eval e X.env)::starEach es X.env:=by rfl) (SK:(backTo dm (starEach es X.env)).any (·.1)=false:=by rfl) : PE X (.Call (.Attribute o name bO) (e::es) [] dm) (SI X.K T r to t):=by
 show λaa s σ H Q I h=>wpAny_Call_method_late sX SJ sY μ<|au (ho aa s σ H _ I h) λv s1 ⟨x,H1,I1,r1,ty,q1⟩=>?_;obtain⟨h1,h2⟩:=Ik I1 r1 ty;show⟨T,id,pa,slot,Bb,h1,h2,?_⟩;have hA:=ha dm aa s1 σ H1 _ I1 q1;rw[hs] at hA⊢;show Calls.callWith_builtin (by change(false || (backTo dm<|starEach es _).any _)=false;rw[SK] <;> rfl)<|Calls.evalArgs_plain (au hA λus s2 ⟨vs,H2,I2,r2,q2⟩=>hm aa s2 σ H2 x vs v us Q I2 r1 r2 q2)
end
def wo(X:Cx)(id:String)(r:V->List V->Hp->VK->Prop):Prop := ∀(aa:List (Addr×Obj)) (s:Shared) (σ:St) (H:Hp) (x:V) (xs:List V) (v:Value) (us:List Value) (Q:VK),Inv X aa σ H s->RelV x v->aE xs us->r x xs H Q-> wpAny (model X.prog X.w) X.A (call (.builtin id) (v::us)) (EP X aa σ Q) X.xe s
def aE.one{x:V}{us:List Value}(h:aE [x] us):∃u,us=[u]/\RelV x u:=by
 cases h with
 | cons r h=>
  cases h;show⟨_,μ,r⟩
def aE.two{x y:V}{us:List Value}(h:aE [x,y] us):∃u v,us=[u,v]/\RelV x u/\RelV y v:=by
 cases h with
 | cons r h=>
  obtain⟨u,rfl,q⟩:=aE.one h;show⟨_,_,μ,r,q⟩
def aE.zero:∀ {us:List Value},aE [] us->us=[]
 | _,.nil=>rfl
theorem aE.dropLast(h:aE xs us):aE xs.dropLast us.dropLast:=by
 induction h with
 | nil=>show .nil
 | cons r t ih =>
  cases t with
  | nil=>show .nil
  | cons q t'=>show .cons r ih
theorem aE.reverse(h:aE xs us):aE xs.reverse us.reverse:=by
 induction h with
 | nil=>show .nil
 | cons r t ih=>rw[a3R,a3R];show aE.append ih<|.cons r .nil
theorem aE.rep{xs:List V}{us:List Value}(h:aE xs us):∀k:Nat,aE (List.replicate k xs).flatten (List.replicate k us).flatten
 | 0=>.nil
 | k+1=>by
  show aE.append h<|aE.rep h k
def SL{α:Type}(l:List α):l.eraseIdx (l.length-1)=l.dropLast:=by simp
theorem Im(ad:List Value):∀(k:Nat) (acc:List Value), List.foldl (λx1 x2=>x1++x2) acc.toArray (List.replicate k ad.toArray)=(acc++(List.replicate k ad).flatten).toArray
 | 0,acc=>by simp
 | k+1,acc=>by
  have e:acc.toArray++ad.toArray=(acc++ad).toArray:=by simp
  have e2:(acc++ad)++(List.replicate k ad).flatten=acc++(List.replicate (k+1) ad).flatten:=by rw[a2L,a3S,a2A]
  rw[<-e2,<-Im ad k _,<-e,a2L,a2h]
section
variable{σ:St}
def Inv.wu{ad its':List Value}(I:Inv X aa σ H s)(hH:H l=some (.lst xs)) (e:s.heap.get? l=some {cls:=.type "list",data:=.seq ad.toArray n}) (hf:f ad.toArray=its'.toArray) (hv:aE ys its') (hz:ys.length<=sizeLine) : Inv X aa σ (upd H l (.lst ys)) {s with heap:=s.heap.update l (Obj.mapSeq f),toks:=t'}:=by
 have q:=PySem.IsL.update e f;rw[hf] at q;show I.write (by rw[hH];show trivial) (.inl μ) (λb' u hb hu=>(a2C _ _<|Ne.symm hb).trans hu) ⟨_,q⟩ ⟨hz,its',_,hv,q⟩
def Inv.Io{ad:List Value}(I:Inv X aa σ H s)(hv:aE ys ad)(hz:ys.length<=sizeLine) : Inv X aa σ (upd H s.heap.objs.size (.lst ys)) {s with heap:=s.heap.push {cls:=.type "list",data:=.seq ad.toArray},toks:=t'} := I.laid (λ_ _ q=>a1J _ q) (a1M _) ⟨hz,ad,0,hv,a1S _ μ⟩
theorem Inv.fresh(I:Inv X aa σ H s):H s.heap.objs.size=none:=I.am.fresh (a1M _)
def Inv.mr(I:Inv X aa σ H s)(hH:H l=some (.lst xs)):xs.length<=sizeLine/\∃ad n,aE xs ad/\xs.length=ad.length/\s.heap.get? l=some {cls:=.type "list",data:=.seq ad.toArray n}:=by
 obtain⟨z,ad,n,r,e⟩:=I.am l _ hH;show⟨z,ad,n,r,r.length,e⟩
def Ip(h:n<=sizeLine):Builtin.List.listTooLong n=false:=by show decide_eq_false<|by omega
end
inductive Iq(x:V)(vs:List V)(H:Hp)(Q:VK):Prop
 | mk:∀l xs y,(x=.ref l)->(vs=[y])->(H l=some (.lst xs))->(xs.length<sizeLine)->(Q .ax (upd H l (.lst (xs++[y]))))->Iq x vs H Q
def K_:wo X "list.append" Iq:=by
 intro aa s σ H x vs v us Q I rx rv h;obtain⟨l,xs,y,rfl,rfl,hH,hz,q⟩:=h;cases rx;obtain⟨u,rfl,ru⟩:=rv.one;obtain⟨z,ad,n,r,hl,e⟩:=I.mr hH;show call_meets F.slot_list_append ⟨_,e,μ⟩ F.entry_list_append (F.args_list_append_2 _ _) (PySem.list_append l _ n u<|by rw[a1W];omega) ⟨e,⟨.ax,_,I.wu (its':=ad++[u]) hH e θ (r.append (.cons ru .nil)) ?_,μ,q⟩⟩;rw[a2p,a2X];omega
inductive Ir(x:V)(vs:List V)(H:Hp)(Q:VK):Prop
 | mk:∀l b xs zs,(x=.ref l)->(vs=[.ref b])->(H l=some (.lst xs))->(H b=some (.lst zs))->(xs.length+zs.length<=sizeLine)->(Q .ax (upd H l (.lst (xs++zs))))->Ir x vs H Q
def a1p:wo X "list.extend" Ir:=by
 intro aa s σ H x vs v us Q I rx rv h;obtain⟨l,b,xs,zs,rfl,rfl,hH,hB,hz,q⟩:=h;cases rx;obtain⟨u,rfl,ru⟩:=rv.one;cases ru;obtain⟨z,ad,n,r,hl,e⟩:=I.mr hH;obtain⟨z2,ms,n2,r2,bz,e2⟩:=I.mr hB;have hsz:ad.toArray.size+ms.toArray.size<=sizeLine:=by rw[a1W,a1W];omega
 have Bc:¬ (!ad.toArray.isEmpty&&Builtin.List.listTooLong (ad.toArray.size+ms.toArray.size))=true:=by
  rw[Ip hsz,a5o];show a1Y
 show call_meets F.slot_list_extend ⟨_,e,μ⟩ F.entry_list_extend (F.args_list_extend_2 _ _) (AutoSeq1.list_extend_list_list_0 l _ n b _ n2 Bc (by rw[a1W];omega)<|by omega) ⟨e,e2,⟨.ax,_,I.wu (its':=ad++ms) hH e θ (r.append r2) ?_,μ,q⟩⟩;rw[a2p];omega
inductive Iu(x:V)(vs:List V)(H:Hp)(Q:VK):Prop
 | mk:∀l xs y,(x=.ref l)->(vs=[])->(H l=some (.lst xs))->(xs[xs.length-1]?=some y)->(Q y (upd H l (.lst xs.dropLast)))->Iu x vs H Q
def SM:wo X "list.pop" Iu:=by
 intro aa s σ H x vs v us Q I rx rv h;obtain⟨l,xs,y,rfl,rfl,hH,hy,q⟩:=h;cases rx;have Bd:=rv.zero;subst Bd;obtain⟨z,ad,n,r,hl,e⟩:=I.mr hH;obtain⟨u,hu,ru⟩:=r.get hy;have dq:ad.toArray[ad.toArray.size-1]?=some u:=by simp_all
 show call_meets F.slot_list_pop ⟨_,e,μ⟩ F.entry_list_pop (F.args_list_pop_1 _) (MeetsSeq.list_pop_last l _ n u dq<|by rw[a1W];omega) ⟨e,⟨y,_,I.wu (its':=ad.dropLast) hH e ?_ r.dropLast ?_,ru,q⟩⟩;.simp_all
 .rw[List.length_dropLast];omega
inductive Iv(x:V)(vs:List V)(H:Hp)(Q:VK):Prop
 | mk:∀l xs,(x=.ref l)->(vs=[])->(H l=some (.lst xs))->(Q .ax (upd H l (.lst xs.reverse)))->Iv x vs H Q
def SN:wo X "list.reverse" Iv:=by
 intro aa s σ H x vs v us Q I rx rv h;obtain⟨l,xs,rfl,rfl,hH,q⟩:=h;cases rx;have Bd:=rv.zero;subst Bd;obtain⟨z,ad,n,r,hl,e⟩:=I.mr hH;show call_meets F.slot_list_reverse ⟨_,e,μ⟩ F.entry_list_reverse (F.args_list_reverse_1 _) (AutoSeq1.list_reverse_list_0 l ad.toArray n (by rw[a1W];omega)) ⟨e,⟨.ax,_,I.wu (its':=ad.reverse) hH e θ r.reverse ?_,μ,q⟩⟩;rw[a2M];omega
inductive Iw(x:V)(y:V)(H:Hp)(Q:VK):Prop
 | mk:∀l b xs zs,(x=.ref l)->(y=.ref b)->(H l=some (.lst xs))->(H b=some (.lst zs))->(xs.length+zs.length<=sizeLine)->(∀p,H p=none->Q (.ref p) (upd H p (.lst (xs++zs))))->Iw x y H Q
def mt:cz X (binaryOp .Add) Iw:=by
 intro aa s σ H x y v u Q I rx ry h;obtain⟨l,b,xs,zs,rfl,rfl,hH,hB,hz,q⟩:=h;cases rx;cases ry;obtain⟨z,ad,n,r,hl,e⟩:=I.mr hH;obtain⟨z2,ms,n2,r2,bz,e2⟩:=I.mr hB;show PySem.P.add_list e e2 ?_<|by rw[a1W,a1W];omega
 have ea:ad.toArray++ms.toArray=(ad++ms).toArray:=by simp
 show ea▸?_;show⟨.ref _,_,I.Io (r.append r2)<|by rw[a2p];omega,μ,q _ I.fresh⟩
inductive Ix(x:V)(y:V)(H:Hp)(Q:VK):Prop
 | mk:∀l k xs,(x=.ref l)->(y=.int k)->(H l=some (.lst xs))->(-(2 ^ 63)<=k)->(k<2 ^ 63)->(xs.length*k.toNat<=sizeLine)->(∀p,H p=none->Q (.ref p) (upd H p (.lst (List.replicate k.toNat xs).flatten)))->Ix x y H Q
def SQ{α:Type}(xs:List α)(k:Nat):(List.replicate k xs).flatten.length=k*xs.length:=by simp
def SR:cz X (binaryOp .Mult) Ix:=by
 intro aa s σ H x y v u Q I rx ry h;obtain⟨l,k,xs,rfl,rfl,hH,h1,h2,hz,q⟩:=h;cases rx;obtain⟨t,rfl⟩:=ry;obtain⟨z,ad,n,r,hl,e⟩:=I.mr hH;have bZ:ad.toArray.size*k.toNat<=sizeLine:=by rw[a1W,<-hl];show hz
 have SS:¬ ad.toArray.size*k.toNat>(2 ^ 63-1) / 8:=by
  have: sizeLine <=(2 ^ 63-1) / 8:=by decide
  omega
 have ST:¬ (!Builtin.List.listFitsIndex k)=true:=by
  rw[fitsIndex_both h1 h2];show a1Y
 have Bc:¬ Builtin.List.listTooLong (ad.toArray.size*k.toNat)=true:=by
  rw[Ip bZ];show a1Y
 have je:List.foldl (λx1 x2=>x1++x2) #[] (List.replicate (if ad.toArray.isEmpty=true then 0 else k.toNat) ad.toArray)=(List.replicate k.toNat ad).flatten.toArray:=by
  have f0:=λm=>by
   have:=Im ad m [];rw[a4g] at this;show this
  rw[f0]
  cases ad with
  | nil=>simp
  | cons a r'=>rw[if_neg (by simp)]
 show wpAny_binaryOp_repeat_ref ζ ⟨_,e,μ⟩ (λs'=>typeIs_int s' k t) noFill_list_mul F.fills_int_mul F.slot_int_rmul repeat_list F.slot_int_index.lookup <|call_meets F.slot_int_rmul (typeIs_int s k t) F.entry_int_rmul (F.args_int_rmul_2 _ _) (int___rmul___int_list k t l _ n) ⟨e,μ,⟨_,e,μ⟩,call_meets F.slot_list_mul ⟨_,e,μ⟩ F.entry_list_mul (F.args_list_mul_2 _ _) (AutoListH.list___mul___list_int_3 l _ n k t ST SS Bc) ⟨e,?_⟩⟩;rw[je];show⟨.ref _,_,I.Io (r.rep _)<|by rw[SQ,a2D];show hz,μ,q _ I.fresh⟩
end L2
namespace Att
open PySem PySem.W PySem.Calls PyProof.Rows
def SU:∀ ns   vs ,WellAll P h vs (ns.map WData.int)->IntsAre vs ns:=by
 intro ns
 induction ns with
 | nil =>
  intro vs w;cases w;show .nil
 | cons n ns ih =>
  intro vs w
  cases w with
  | cons a b =>
   cases a;show .cons _ _<|ih _ b
def SV{l:OpenLaw}(hn:l.most=some n) (ql:l.row.toRowW.claim.pre args=true) (cO:WellAll P h Be args) : ∃a vs ns,Be=[Value.ref a]/\args=[WData.list (ns.map WData.int)]/\h.get? a=some {cls:=.type "list",data:=.seq vs.toArray}/\IntsAre vs ns/\ns.length<=n:=by
 have wx:=(pre_splitW ql).1;have hc:=(pre_splitW ql).2;obtain⟨d,r,rfl,h1,h2⟩:=hasAllW_cons wx;obtain rfl:=hasAllW_nil h2;obtain⟨xs,rfl,h3⟩:=hasW_list h1;obtain⟨ns,rfl⟩:=items_int h3
 have bZ:ns.length<=n:=by
  have h4:(WTm.not<|.lt (.lit<|.int  n )<|.len<|.arg 0).holds [] {args:=[.list (ns.map .int)]}=true:=by
   have h4:=(holds_andW hc).1;rw[hn] at h4;show h4
  have h5:=condW_of h4 (w_not<|w_lt w_lit<|w_len_list<|w_arg μ);rw[a1H] at h5;show Nat.le_of_not_lt λq=>?_;first | grind | (omega)
 cases cO with
 | cons w1 w2 =>
  cases w2
  cases w1 with
  | list ho sZ=>show⟨_,_,ns,μ,μ,ho,SU ns _ sZ,bZ⟩
def SW(l:OpenLaw)(args:List WData):l.row.toRowW.claim.post args (.bool true) args=true := postW_of (show WShape.has [] _ .bool=true by first | rfl | decide | grind) (show(WTm.eq .res<|.lit<|.bool _).value [] {args:=args,res:=some _,after:=args}=some _ from w_eq_bool (w_res μ) w_lit) μ
def SX{l:OpenLaw} (hn:l.most=some n) (tf:d.params.defaults=[]) (call:∀ w   cL bv   mg mb   fa   o   pm cd bF   a   vs   ns , Ground q qo [] XP w cL mg mb bv.heap->YP w bv.heap-> bv.heap.get? fa=some o->o.data=.func (docDef d.name d.params d.body d.scope pm cd bF)->bv.heap.CodeRec cd d.name->mg d.name=some (.ref fa)-> bv.heap.get? a=some {cls:=.type "list",data:=.seq vs.toArray}->IntsAre vs ns->ns.length<=n->bv.gens=#[]-> codeAny (model l.prog w) callerA (.call (.ref fa) ⟨[.ref a],[]⟩) (λr s'=>r=.ok (.ret (.bool true))/\OldK bv.heap s'.heap/\s'.os=bv.os/\AllBare s'.gens) bv) : WalkO q qo XP YP l.row.toRowW d [] (λf vs=>PySem.call f vs):=by
 intro w cL bv mg mb G Y fa o pm cd bF dV kV ho hd fU hD tj hg args Be as ql wy hrd cO kQ;obtain rfl:dV=.none:=Dflts.none hD tf;obtain rfl:kV=.none:=Dflts.noKw hD;obtain⟨a,vs,ns,rfl,rfl,Bf,Bg,bZ⟩:=SV hn ql cO;show enter_call<|codeAny_mono (call w cL bv mg mb fa o pm cd bF a vs ns G Y ho (fd_plain hd) fU tj Bf Bg bZ hg) λr s' hq=>?_;obtain⟨rfl,h2,h3,h4⟩:=hq;show⟨.inl ⟨.bool _,.bool _,[],μ,λ_=>rfl,.bool _,SW l _,λ_=>⟨List.Pairwise.nil,λ_ hm=>(nomatch hm)⟩⟩,h2,h3,h4⟩
noncomputable def a1q(h:Heap)(L d:Addr):List (Addr×Obj):=(List.range h.objs.size).filterMap λa=>if a=L\/a=d then none else (h.get? a).map λo=>(a,o)
end Att
namespace L2
open PySem PySem.Spec PyProof.Rows
def Iy(h:IntsAre vs ns):aE (ns.map V.int) vs:=by
 induction h with
 | nil=>show .nil
 | cons n t _ ih=>show .cons ⟨t,μ⟩ ih
def Bh(H:Hp):Prop:=∀b,H b=none\/∃o xs,H b=some (.bE o (.lst xs))
def SY{K:PySem.W.Frag} (KX:K.In bv.heap) (fK:bv.heap.Ns mainGlobals mg) (hb:bv.heap.Ns builtinsNs mb) (ol:∀x:Str,x≠"__name__"->mb x=bootBuiltins x) (SZ:bv.heap.NoLimit) (hg:bv.gens=#[]) (ha:bv.heap.get? a=some {cls:=.type "list",data:=.seq vs.toArray}) (hi:IntsAre vs ns) (hl:ns.length<=sizeLine) (hr:bM k callerA) (F:∀base:Heap,K.In base->base.Ns mainGlobals mg->aA P w K mg base CX k fa fd [x] sp) (S0:∀ s   u ,BindsTo s fd ⟨[u],[]⟩ [(x,u)]) (fW:∀H:Hp,Bh H->ae K H a (ns.map V.int)->sp [.ref a] H (λv _=>v=.bl true) λ_ _ _=>False) (Bi:∀H e s',CX [] H bv (λ_ _ _=>False) e s'->False) : codeAny (model P w) callerA (.call (.ref fa) ⟨[.ref a],[]⟩) (λr s'=>r=.ok (.ret (.bool true))/\OldK bv.heap s'.heap/\s'.os=bv.os/\AllBare s'.gens) bv:=by
 have rv:=Iy hi;have Ta:=hi.length
 have Iz:∀H:Hp,Bh H->ae K H a (ns.map V.int)->bH P w H bv.heap->(∀b,H b≠none->b=a)->(H a≠none->K.lookup a=none)->
   codeAny (model P w) callerA (.call (.ref fa) ⟨[.ref a],[]⟩) (λr s'=>r=.ok (.ret (.bool true))/\OldK bv.heap s'.heap/\s'.os=bv.os/\AllBare s'.gens) bv:=by
  intro H hO hS am hA hK;have IA:∀ {b:Addr} {o:Obj},bv.heap.get? b=some o->H b=none->(km bv.heap H).get? b=some o:=λe n=>Q5 e n;have sQ:∀ {b:Addr} {o:Obj} {es:Array DictEntry} {ep:Nat},bv.heap.get? b=some o->o.data=.dict es ep->H b=none:=λ{b o es ep} e d=>by grind
  have wA:∀ {b:Addr} {m:Str->Option Value},bv.heap.Ns b m->(km bv.heap H).Ns b m:=λ{b m} ⟨o,es,ep,e,d,r⟩=>⟨o,es,ep,IA e (sQ e d),d,r⟩;have IB:=λb o e=>IA (KX b o e) (by grind);have hM:Mod K mg (km bv.heap H):=⟨IB,wA fK,⟨mb,wA hb,ol⟩,let ⟨mc,h1,h2⟩:=SZ;⟨mc,wA h1,h2⟩⟩;have e0:oh P w K mg (km bv.heap H) callerA [] bv H:=⟨μ,hM,λb o e=>Q6 e,Nat.le_of_eq (Q4 _ _),trivial,λb hb=>absurd (show b∈ []  from hb) θ,am,.of_eq hg⟩;show codeAny_mono ((F _ IB (wA fK)).run callerA [] bv H ⟨[.ref a],[]⟩ [.ref a] [.ref a] _ _ hr e0 (S0 bv (.ref a)) (.cons μ .nil) (fW H hO hS)) λr s' h=>?_
  cases r with
  | error e=>show(Bi H e s' h).elim
  | ok fl =>
   cases fl with
   | next=>show False.elim h
   | brk=>show False.elim h
   | cont=>show False.elim h
   | ret u =>
    obtain⟨v,H',os,bare,un,Tb,r',q⟩:=h;have q':=q;subst q';obtain rfl:u=Value.bool true:=r';show⟨μ,OldK.of_keep λb o e=>?_,os,bare⟩
    cases q:H b with
    | none=>show un.keep b o e q (by show λz=>absurd (show b∈ []  from z) θ) θ
    | some u =>
     rcases hO b with z | ⟨ob,xs,z⟩;.rw[q] at z;cases z
     .have z2:=un.fF b ob _ z;obtain⟨e1,_⟩:=am b _ z;obtain⟨e2,_⟩:=Tb b _ z2;rw[e] at e1;cases e1;show e2
 cases hk:K.lookup a with
 | some o =>
  have e:=KX a o hk;rw[ha] at e;cases e;show Iz (λ_=>none) (λ_=>.inl μ) (.inr ⟨_,vs.toArray,_,hk,μ,μ,μ,by rw[a1W,Ta];show hl,by simpa using rv⟩) (λb u z=>by have z':=z;cases z') (λb z=>absurd μ z) λz=>absurd μ z
 | none =>
  show Iz (λb=>if b=a then some (.bE {cls:=.type "list",data:=.seq vs.toArray} (.lst (ns.map V.int))) else none) (λb=>?_) (.inl (.inr ⟨{cls:=.type "list",data:=.seq vs.toArray},if_pos μ⟩)) (λb u z=>?_) (λb z=>?_) λ_=>hk
  .by_cases hb:b=a;.show .inr ⟨_,_,if_pos hb⟩
   .show .inl (if_neg hb)
  .by_cases hb:b=a
   .have z':=(if_pos hb).symm.trans z;cases z';subst hb;show⟨ha,by rw[a1H];show hl,vs,_,rv,ha⟩
   .have z':=(if_neg hb).symm.trans z;cases z'
  .by_cases hb:b=a;.show hb
   .show absurd (if_neg hb) z
abbrev KOf{K:PySem.W.Frag}{h:Heap}(_:K.In h):PySem.W.Frag:=K
def Tc{l:PySem.W.OpenLaw}{K:Params->PySem.W.Frag}{CX:World->fV}{sp:World->Sp} (hn:l.most=some n) (gh:n<=sizeLine) (tf:d.params.defaults=[]) (hr:bM k callerA) (hY:∀ w   h ,YP w h->(K w.params).In h) (F:∀ w   mg   fa   h ,(K w.params).In h->h.Ns mainGlobals mg->mg d.name=some (.ref fa)-> ∃fd:FuncData,(∀ s   u ,BindsTo s fd ⟨[u],[]⟩ [(x,u)])/\ ∀base:Heap,(K w.params).In base->base.Ns mainGlobals mg->aA l.prog w (K w.params) mg base (CX w) k fa fd [x] (sp w)) (fW:∀ w   H   a  (ns:List Int),ns.length<=n->Bh H->ae (K w.params) H a (ns.map V.int)->sp w [.ref a] H (λv _=>v=.bl true) λ_ _ _=>False) (Bi:∀ w   H   s   e   s' ,CX w [] H s (λ_ _ _=>False) e s'->False) : PySem.W.WalkO q qo XP YP l.row.toRowW d [] (λf vs=>PySem.call f vs):=by
 show Att.SX hn tf λw cL bv mg mb fa o pm cd bF a vs ns G Y ho hd fU tj Bf Bg bZ hg=>?_;have KX:=hY w _ Y;obtain⟨fd,hb,hF⟩:=F w mg fa _ KX G.T.g tj;show SY KX G.T.g G.T.b G.T.builtins G.T.nolimit hg Bf Bg (a2o bZ gh) hr hF hb (λH hO hS=>fW w H a ns bZ hO hS) λH e s'=>Bi w H bv e s'
noncomputable def om(s:Stmt)(j:Nat):Stmt:=match s with
 | .ClassDef _ _ _ body _ _ _ _ _ _ _=>body.getD j (.Pass ⟨0,0,0,0⟩)
 | _=>.Pass ⟨0,0,0,0⟩
noncomputable def gI(s:Stmt):Arguments:=match s with
 | .FunctionDef _ a _ _ _ _ _ _ _ _=>a
 | _=>{posonlyargs:=[],args:=[],vararg:=none,kwonlyargs:=[],kw_defaults:=[],kwarg:=none,defaults:=[]}
noncomputable def A_(s:Stmt):List Stmt:=match s with
 | .FunctionDef _ _ b _ _ _ _ _ _ _=>b
 | _=>[]
noncomputable def h_(s:Stmt):Scope:=match s with
 | .FunctionDef _ _ _ _ _ _ sc _ _ _=>sc
 | _=>{kind:=.function,names:=[],isGenerator:=false,isCoroutine:=false}
abbrev aI:fV:=λ_ _ _ _ _ _=>False
abbrev E0:XK:=λ_ _ _=>False
def wB:mj aI X E0:=λ_ _ _ _ _ _ _ h=>h.elim
structure aM(K:PySem.W.Frag)(x qual:Str)(st:Stmt)(f:Addr)(fd:FuncData):Prop where
 ex:∃(oc:Value) (od:Option Addr) (kV bF pm:Value) (an:Option Addr) (ao ct:Value) (cS:Array (Option Value)),
  fd=PySem.W.fnOf x qual (gI st) (A_ st) (h_ st) .none kV bF pm an ao ct/\K.lookup f=some ⟨oc,od,.func fd,cS⟩/\PySem.W.codeIn K ao qual=true
 kp:PySem.W.keepIn K (.ref f)=true
section
variable{K:PySem.W.Frag}
def aM.ok{st:Stmt}(F:aM K x qual st f fd)(S:aS N ps (h_ st)) (sR:∀ ao   A   outer   s   H   vs   Q   E ,bM k (A.deeper (envOfC qual (h_ st) s.heap.objs.size f ao))->sp vs H Q E-> ∃t,dP (cb aI P w K mg base N qual (h_ st) f ao A outer s H E).ja (A_ st) t/\t {nx:=λ_ H'=>Q .ax H',rt:=Q} (start N vs) H)(len:∀vs H Q E,sp vs H Q E->vs.length=ps.length:=by intro _ _ _ _ h;first|(cases h;subst_vars;rfl)|((repeat obtain⟨_,h⟩:=h);subst_vars;rfl)):aA P w K mg base aI (k+1) f fd ps sp:=by
 obtain⟨oc,od,kV,bF,pm,an,ao,ct,cS,rfl,lk,fU⟩:=F.ex;show HY lk fU S len λA outer s H vs Q E hr fW=>?_;obtain⟨t,h,q⟩:=sR ao A _ s H vs Q E hr fW;show⟨t,h.ja,q⟩
def aM.binds{st:Stmt}(F:aM K x qual st f fd) (h:∀ kV bF pm   an   ao ct   us ,us.length=ps.length->bindArgs (PySem.W.fnOf x qual (gI st) (A_ st) (h_ st) .none kV bF pm an ao ct) ⟨us,[]⟩=pure (ps.zip us)):Binds K fd ps []:=by
 obtain⟨oc,od,kV,bF,pm,an,ao,ct,cS,rfl,lk,fU⟩:=F.ex;show .all<|h kV bF pm an ao ct
def qp{st:Stmt}{kV bF pm ao ct:Value}(l:K.lookup f=some ⟨oc,od,.func (PySem.W.fnOf x qual (gI st) (A_ st) (h_ st) .none kV bF pm an ao ct),cS⟩) (c:PySem.W.codeIn K ao qual=true) (k:PySem.W.keepIn K (.ref f)=true):aM K x qual st f (PySem.W.fnOf x qual (gI st) (A_ st) (h_ st) .none kV bF pm an ao ct):=⟨⟨oc,od,kV,bF,pm,an,ao,ct,cS,μ,l,c⟩,k⟩
end
def ic(hr:bM k A):A.units+1<cLine:=a3x (Nat.add_le_add_left ζ _) hr.units
section
variable{X:Cx}
def pv(i:Nat){pos:Pos}(hN:X.N[i]?=some x:=by rfl)(hv:qb X.env.scope x:=by first | show Or.inl μ | show Or.inr (Or.inl μ) | show Or.inr (Or.inr μ))(hd:(x==("__debug__":Str))=false:=by decide) (fU:(x==("__classdict__":Str))=false:=by decide):PE X (.Name x pos) (qd i):=Rc hN hv hd fU
end
def aG{A B:Prop}(h:B):if false=true then A else B:=by simp_all
def bI{A B:Prop}(h:A):if true=true then A else B:=by simp_all
def dQ{c A B:Prop}[Decidable c](h1:c->A)(h2:¬ c->B):if c then A else B:=by simp_all
def IC{c A B:Prop}[Decidable c](hc:c)(h:B):if (!decide c)=true then A else B:=by simp_all
def af(H H':Hp):Prop:=∀b o,H b=some o->H' b=some o
def af.refl(H:Hp):af H H:=λ_ _ h=>h
def af.trans(a:af H H1)(b:af H1 H2):af H H2:=λc o h=>b c o<|a c o h
def af.free(e:af H H')(h:H' l=Option.none):H l=Option.none:=by
 cases q:H l with
 | none=>rfl
 | some o =>
  rw[e l o q] at h;cases h
def af.seq{K:PySem.W.Frag}(e:af H H')(h:ae K H a xs):ae K H' a xs:=by
 rcases h with(h | ⟨o,h⟩) | h;.show .inl<|.inl<|e _ _ h
 .show .inl<|.inr ⟨o,e _ _ h⟩
 .show .inr h
end L2
set_option maxHeartbeats 4000000
namespace L2
open PySem PySem.Spec PyProof.Rows
theorem ID{al be:Type}{l:List al}{f:al->be->Sem (ForInStep be)}(R:List al->be->Prop):∀(pre rest:List al) (c:be),l=pre++rest->R pre c-> (∀pre x post c,l=pre++x::post->R pre c->∃d,f x c=pure (.yield d)/\R (pre++[x]) d)->∃d,forIn rest c f=pure d/\R l d
 | pre,[],c,e,h0,_=>⟨c,μ,by rw[e,a2Y];show h0⟩
 | pre,x::rest,c,e,h0,h=>by
  obtain⟨d,e1,r1⟩:=h pre x _ c e h0;obtain⟨d',e2,r2⟩:=ID R _ rest d (by rw[e];simp) r1 h;show⟨d',by rw[a5k,e1,pure_bind];show e2,r2⟩
def IE(h:∀y,(y,NameKind.free)∈scope.names->∃c,env.cells.lookup y=some c) : ∃cl,closureFor scope env=pure cl/\(∀y c,cl.lookup y=some c->env.cells.lookup y=some c)/\∀y,(y,NameKind.free)∈scope.names->∃c,cl.lookup y=some c:=by
 have aZ:=ID (l:=scope.names) (f:=λx r=>if (x.2==NameKind.free)=true then do let a <-cellOf env x.1;pure (ForInStep.yield ((x.1,a)::r)) else pure (ForInStep.yield r))
  (λpre cs=>(∀y c,cs.lookup y=some c->env.cells.lookup y=some c)/\∀y,(y,NameKind.free)∈pre->∃c,cs.lookup y=some c) [] scope.names [] θ
  ⟨λy c e=>by simp at e,λy hy=>by simp at hy⟩ (by
   rintro pre ⟨n,k⟩ post cs e ⟨r1,r2⟩;by_cases hk:k=NameKind.free
   .subst hk;obtain⟨c,hc⟩:=h n (by rw[e];simp);show⟨(n,c)::cs,?_,λy d q=>?_,λy hy=>?_⟩
    .have Td:cellOf env n=pure c:=by unfold cellOf;rw[hc]
     simp only[beq_self_eq_true,if_true,Td,pure_bind]
    .by_cases hy:y=n;.simp_all
     .have hb:(y==n)=false:=by simpa using hy
      rw[a3k,hb] at q;show r1 y d q
    .by_cases hn:y=n;.simp_all
     .have hb:(y==n)=false:=by simpa using hn
      rw[a3k,hb];show r2 y ?_;rcases a2l.mp hy with z | z;.show z
      .simp at z;show absurd z hn
   .show⟨cs,?_,r1,λy hy=>r2 y ?_⟩;.simp_all
    .rcases a2l.mp hy with z | z;.show z
     .simp at z;show absurd z.2.symm hk);obtain⟨cl,e,r⟩:=aZ;show⟨cl,?_,r⟩
 have e':closureFor scope env=forIn scope.names  []  (λx r=>if (x.2==NameKind.free)=true then do let a <-cellOf env x.1;pure (ForInStep.yield ((x.1,a)::r)) else pure (ForInStep.yield r)):=by
  simp only[closureFor,bind_pure]
 rw[e',e]
noncomputable def Cx.cmp(X:Cx)(N:List Str)(scope:Scope)(cl:List (Str×Addr))(C:Addr)(s:Shared)(H:Hp)(fp:List Addr):Cx where
 prog:=X.prog
 w:=X.w
 K:=X.K
 mg:=X.mg
 base:=X.base
 A:=X.A
 N:=N
 cL:=s
 fT:=H
 env:=compEnvC scope cl C X.env
 outer:=X.stack
 stack:=X.stack
 ex:=fp
 fn:=λ_=>false
 calm:=X.calm
 pn:=[]
 xe:=λ_ _=>False
def IF{names:List (Str×NameKind)}{q:Str->NameKind->Bool}:(names.map λ(n,k)=>if q n k=true then (n,NameKind.cell) else (n,k)).lookup y=(names.lookup y).map λk=>if q y k=true then NameKind.cell else k:=by
 induction names with
 | nil=>rfl
 | cons p r ih =>
  obtain⟨n,k⟩:=p;rw[a2f];by_cases hy:y=n
  .subst hy;by_cases hq:q y k=true;.simp[a3k,hq]
   .simp[a3k,hq]
  .have hb:(y==n)=false:=by simpa using hy
   by_cases hq:q n k=true;.simp only[hq,if_true,a3k,hb];show ih
   .simp only[hq,a2I,if_false,a3k,hb];show ih
section
variable{σ:St}{C:Addr}
structure qq(X:Cx)(N:List Str)(scope:Scope):Prop where
 kind:scope.kind=.function
 IG:∀y∈scope.names,y.2≠.cell
 loc:∀y∈scope.names,y.2=.local->scope.names.lookup y.1=some .local
 Te:∀y,scope.names.lookup y=some .free->X.env.kindOf y=some .cell
 IH:∀y,(y,NameKind.free)∈scope.names->X.env.kindOf y=some .cell
 nd:N.Nodup
 oo:∀y,scope.names.lookup y=some .free->(y,NameKind.free)∈scope.names
def Tg(S:qq X N scope)(I:Inv X aa σ H s)(hf:∀b∈fp,hZ X aa H b)(ho:∀b∈fp,∃o,s.heap.get? b=some o)(gj:∀y c,cl.lookup y=some c->X.env.cells.lookup y=some c) (jI:∀y,(y,NameKind.free)∈scope.names->∃c,cl.lookup y=some c) (hC:s.heap.objs.size<=C):(X.cmp N scope cl C s H fp).Ok where
 mod:=I.ok.mod
 kind:=S.kind
 glob:=I.ok.glob
 blt:=I.ok.blt
 above:=hC
 inj:=λx y c h1 h2=>I.ok.inj x y c (gj x c h1)<|gj y c h2
 has:=λy hy=>by
  have dq:(relabel _ _).names.lookup y=some .cell\/(relabel _ _).names.lookup y=some .free:=hy;have e:(relabel _ _).names.lookup y=(scope.names.lookup y).map λk=>if (k==.free&&X.env.scope.kind==.function&&X.env.kindOf y==some .cell)=true then NameKind.cell else k := IF (q:=λn k=>k==.free&&X.env.scope.kind==.function&&X.env.kindOf n==some .cell);rw[e] at dq
  cases q:scope.names.lookup y with
  | none=>rw[q] at dq;simp at dq
  | some k =>
   by_cases hk:k=NameKind.free
   .subst hk;show jI y<|S.oo y q
   .exfalso;have hb:(k==NameKind.free)=false:=by simpa using hk
    rw[q] at dq;simp only[a4h,hb,a3p,a2I,if_false,Option.some.injEq] at dq;rcases dq with z | z;.show S.IG _ (PySem.mem_of_lookup q) z
    .show hk z
 nM:=λy c h _=>nomatch h
 hd:=I.ok.hd
 frames:=I.ok.frames
 qc:=.inl μ
 sF:=λb hb=>by
  obtain⟨o,e⟩:=ho b hb;obtain⟨_,_,_,_,f4,_⟩:=hf b hb;show⟨a2e<|a2c (a1N e) hC,λx c q=>f4 x c<|gj x c q⟩
 bs:=I.bs
 iB:=a2o I.ok.iB I.sz
 nN:=λb o e hb=>by
  obtain⟨_,_,_,f3,_,_⟩:=hf b hb;rcases f3 with z | z;.show I.ok.nN b o e z
  .show absurd (a2c (a1N e)<|a2o I.ok.iB z)<|a2O _
 nO:=λb hb z=>by
  obtain⟨_,f1,f2,_⟩:=hf b hb;rcases a1L.mp (I.AC b z) with e | e;.show f1 e
  .show f2 e
 gD:=I.stack
 kq:=I.ku
noncomputable def gJ(k:Nat)(fr:List Nat)(σ:St):St:=List.replicate k none++fr.map λi=>(σ[i]?).join
structure tm(X:Cx)(N:List Str)(scope:Scope)(k:Nat)(fr:List Nat):Prop where
 len:N.length=k+fr.length
 mw:∀(j i:Nat) (y:Str),fr[j]?=some i->N[k+j]?=some y->X.N[i]?=some y/\scope.names.lookup y=some .free
def Ti(S:qq X N scope)(F:tm X N scope k fr)(I:Inv X aa σ H s)(hf:∀b∈fp,hZ X aa H b)(ho:∀b∈fp,∃o,s.heap.get? b=some o) (gj:∀y c,cl.lookup y=some c->X.env.cells.lookup y=some c) (jI:∀y,(y,NameKind.free)∈scope.names->∃c,cl.lookup y=some c) (hC:s.heap.objs.size<=C) {D:Addr}  (Tj:s1.os=s.os) (hg:s1.gens=s.gens) (kp:∀b o,s.heap.get? b=some o->s1.heap.get? b=some o) (hn:s1.heap.Ns C m) (hD:s1.heap.get? D=some oD) (wC:s.heap.objs.size<=D) (jf:D≠C) (Tk:∀v,oD.data≠.cell v) : Inv (X.cmp N scope cl C s H fp) [(D,oD)] (gJ k fr σ) H s1:=by
 have Bj:D∉bD X.stack:=λz=>by
  obtain⟨_,o,q,_⟩:=I.stack.mem z;show absurd (a2c (a1N q) wC) (a2O _)
 show⟨Tg S I hf ho gj jI hC,Tj,by rw[hg];show I.bare,Un.kept kp,⟨m,hn,λi x v e1 e2 e3=>?_⟩,λy c e=>?_,I.am.fresh hC,λy c e=>I.fH y c (gj y c e),λp hp=>?_,I.am.kept kp,?_⟩
 .
  unfold gJ at e2;by_cases hi:i<k
  .rw[a1R (by simpa using hi),a4o] at e2;split at e2 <;> cases e2
  .obtain⟨j,rfl⟩:∃j,i=k+j:=⟨i-k,Z⟩;rw[a1V θ,a4B,a3L,a1O] at e2
   cases q:fr[j]? with
   | none=>rw[q] at e2;cases e2
   | some i' =>
    rw[q] at e2;have wD:(σ[i']?).join=some v:=a1Q e2;obtain⟨a1,a2⟩:=F.mw j i' x q e1;have hk:=S.Te x a2;obtain⟨m0,hn0,wF⟩:=I.loc
    have hv:σ[i']?=some (some v):=by
     cases z:σ[i']? with
     | none=>rw[z] at wD;cases wD
     | some w=>rw[z] at wD;rw[show w=some v from wD]
    obtain⟨u,r,l⟩:=wF i' x v a1 hv (.inr (.inl hk));show⟨u,r,.inr ⟨.inl ?_,?_⟩⟩
    .change(relabel scope X.env).names.lookup x=some .cell;have e:(relabel scope X.env).names.lookup x=(scope.names.lookup x).map λk=>if (k==.free&&X.env.scope.kind==.function&&X.env.kindOf x==some .cell)=true then NameKind.cell else k := IF (q:=λn k=>k==.free&&X.env.scope.kind==.function&&X.env.kindOf n==some .cell);rw[e,a2,hk,I.ok.kind];rfl
    .obtain⟨c,hc⟩:=jI x (S.oo x a2);show⟨c,hc,?_⟩;rcases l with⟨z,_⟩ | ⟨_,c',fi,z⟩;.rw[hk] at z;cases z
     .have ec:=gj x c hc;rw[fi] at ec;cases ec;obtain⟨o,ho,hd⟩:=z;show⟨o,kp _ _ ho,hd⟩
 .obtain⟨v,o,q,d⟩:=I.cell y c (gj y c e);show⟨v,o,kp _ _ q,d⟩
 .have oq:p=(D,oD):=by simpa [Cx.cmp] using hp
  subst oq;show⟨hD,I.am.fresh wC,jf,Bj,Tk⟩
 .unfold gJ;change _=N.length;rw[a2p,a4B,a1H,F.len]
abbrev gk(ad:List Value)(n:Nat):Obj:={cls:=.type "list",data:=.seq ad.toArray n}
def II{aJ:St}{ad:List Value}(I:Inv X aa σ H s)(hf:∀b∈fp,hZ X aa H b)(J:Inv (X.cmp N scope cl C s H fp) [(D,gk ad n)] aJ H' s')(r:aE ys ad) (hz:ys.length<=sizeLine) (wC:s.heap.objs.size<=D):H' D=none/\Inv X aa σ (upd H' D (.lst ys)) s':=by
 obtain⟨e1,hn,_,_,_⟩:=J.pin (D,gk ad n) (by simp[Cx.cmp]);have u:=J.base;have Tl:∀b o,s.heap.get? b=some o->b≠D:=λb o q=>a2e<|a2c (a1N q) wC
 have u':Un _ fp H (upd H' D<|.lst ys) _ _ :=
  ⟨u.keep,u.slot,λb o q z hx=>by rw[j_ (Tl b o q)];show u.free b o q z hx,u.there,λb xs q=>by rw[j_ (l_ (u.fS b xs q) hn)];show u.fS b xs q,
   λb o x q=>by rw[j_ (l_ (u.fF b o x q) hn)];show u.fF b o x q,λb ps q=>by
    obtain⟨more,z⟩:=u.f9 b ps q;show⟨more,by rw[j_ (l_ z hn)];show z⟩⟩
 have am:bH X.prog X.w (upd H' D<|.lst ys) _:=λb o q=>by
  by_cases hb:b=D
  .subst hb;rw[c_] at q;cases q;show⟨hz,ad,n,r,e1⟩
  .rw[j_ hb] at q;show(J.am b o q).bN (λc v _ z=>z) (λc z=>by rw[j_ (l_ z hn)];show z) λc xs z=>by rw[j_ (l_ z hn)];show z
 show⟨hn,?_⟩;have os:=J.os;have bare:=J.bare;obtain⟨hh,g,d,t,AT⟩:=s';obtain rfl:AT=s.os:=os
 show I.call u' am bare λb hb=>by
  obtain⟨_,f1,_,f3,f4,f5⟩:=hf b hb;show⟨f3,f1,f4,f5⟩
end
def PF(X:Cx)(cT:List Expr)(t:TT):Prop :=
 ∀(aa:List (Addr×Obj)) (s:Shared) (σ:St) (H:Hp) (Q:Bool->Hp->Prop),Inv X aa σ H s->t σ H Q->
  wpAny (model X.prog X.w) X.A (forIn cT true λc r=>if r=true then do let ok <-isTrue c X.env (eval c X.env);pure (ForInStep.yield ok) else pure (ForInStep.yield r)) (TP X aa σ Q) X.xe s
def Tm:TT:=λ_ H Q=>Q true H
def fm:PF X [] Tm:=λ_ _ _ H _ I h=>wpAny_tests_nil ⟨H,I,h⟩
def Bk(hc:PT X c tc):PF X [c] tc:=λaa s σ H Q I h=>wpAny_tests_one<|hc aa s σ H Q I h
def qr{Q:al->Shared->Prop}(h:wpAny (model prog w) A t Q (λ_ _=>False) s):wpAny (model prog w) A t Q E s := wpAny_mono h (λ_ _ x=>x) λ_ _ f=>f.elim
def Tn(I:Nat->Shared->Prop)
  (jd:∀n s,I n s->wpAny (model prog w) A (pyNext it) (λr s1=>(r=none/\R (.ok .next) s1)\/∃v,r=some v/\
   wpAny (model prog w) A (letOwnedTupleGo tg it v) (λ_ s2=>wpAny (model prog w) A (assign tg env v) (λ_ s3 =>
    wpAny (model prog w) A (forIn cT true λc r=>if r=true then do let ok <-isTrue c env (eval c env);pure (ForInStep.yield ok) else pure (ForInStep.yield r)) (λok s4 =>
     if ok=true then wpAny (model prog w) A (eval dr env) (λx s5 =>
      wpAny (model prog w) A (call (.builtin "list.append") [acc,x]) (λ_ s6=>∃m,m<n/\I m s6) (λ_ _=>False) s5) (λ_ _=>False) s4
     else ∃m,m<n/\I m s4) (λ_ _=>False) s3) (λ_ _=>False) s2) (λ_ _=>False) s1) (λ_ _=>False) s)
  (n:Nat) (h:I n s):codeAny (model prog w) A (.compLoop (.ListComp dr [⟨tg,iter,cT,0⟩] scope pos) 0 it acc env) R s:=by
 show codeAny_loop μ I (λn s hI=>?_) n h;show wpAny_noted ?_;rw[compTurn_list];show wpAny_bind<|wpAny_standAt<|wpAny_bind<|qr<|au (jd n s hI) λr s1 h1=>?_;rcases h1 with⟨rfl,h1⟩ | ⟨v,rfl,h1⟩;.show wpAny_pure h1
 .show wpAny_bind<|qr<|au h1 λ_ s2 h2=>wpAny_bind<|qr<|au h2 λ_ s3 h3=>wpAny_bind<|qr<|au h3 λok s4 h4=>?_
  cases ok with
  | false=>show wpAny_pure ⟨μ,h4⟩
  | true=>show wpAny_bind<|wpAny_bind<|qr<|au h4 λx s5 h5=>wpAny_bind<|qr<|au h5 λ_ s6 h6=>wpAny_pure<|wpAny_pure ⟨μ,h6⟩
def ot(k:Nat)(g:TG):Prop:=∀v σ H Q,g v σ H Q->g v σ H λbJ H2=>(bJ.length=σ.length/\∀i,k<=i->bJ[i]?=σ[i]?)/\Q bJ H2
def wG(k:Nat)(g:iE):Prop:=∀v σ H Q,g v σ H Q->g v σ H λbJ H2=>(bJ.length=σ.length/\∀i,k<=i->bJ[i]?=σ[i]?)/\Q bJ H2
def wH(h:i<k):ot k (jc i):=λv σ H Q q=>⟨⟨a3E,λj hj=>a3o<|by lia⟩,q⟩
def To:wG k vO:=λv σ H Q q=>⟨q.1,⟨μ,λ_ _=>rfl⟩,q.2⟩
def IJ(h1:ot k g)(h2:wG k u)(mono:∀v σ H Q Q',(∀ bJ H2,Q bJ H2->Q' bJ H2)->g v σ H Q->g v σ H Q')(Tp:∀v σ H Q Q',(∀ bJ H2,Q bJ H2->Q' bJ H2)->u v σ H Q->u v σ H Q'):wG k (nU g u):=λvs σ H Q q=>by
 obtain⟨v,r,e,q⟩:=q;show⟨v,r,e,mono _ _ _ _ _ ?_<|h1 _ _ _ _ q⟩;rintro bJ H2 ⟨⟨l1,l2⟩,q2⟩;show Tp _ _ _ _ _ ?_<|h2 _ _ _ _ q2;rintro iH H3 ⟨⟨m1,m2⟩,q3⟩;show⟨⟨m1.trans l1,λi hi=>(m2 i hi).trans<|l2 i hi⟩,q3⟩
def Tq{K:PySem.W.Frag}(h:wG k u):ot k (qg K n u):=λv σ H Q q=>by
 obtain⟨a,xs,e,h1,h2,q⟩:=q;show⟨a,xs,e,h1,h2,h _ _ _ _ q⟩
def tq(k:Nat)(fr:List Nat)(wi:TI)(g:TG)(tc:TT)(te:TE):TE:=fun σ H Q=>wi σ H λJ H1=>∃W:Nat->Nat->List V->Hp->Prop,(∃m,W 0 m [] H1)/\∀i m ys H,W i m ys H-> (J.stop i H/\∀D,H D=none->Q (.ref D) (upd H D (.lst ys)))\/ (J.go i H/\ys.length<sizeLine/\∃Nx:List V->Hp->Prop,(∀cF H',Nx cF H'->∃m',m'<m/\W (i+1) m' cF H')/\ ∀x H',J.gc i H x H'->g x (gJ k fr σ) H' λbJ H2=>tc bJ H2 λb H3=>if b=true then te bJ H3 λy H4=>Nx (ys++[y]) H4 else Nx ys H3)
section
variable{σ:St}
def IK(S:qq X N scope)(F:tm X N scope k fr)(hc:X.calm=true) (hg:∀cl C s H fp,PG (X.cmp N scope cl C s H fp) tg g) (hk:ot k g) (hi:∀cl C s H fp,PF (X.cmp N scope cl C s H fp) cT tc) (he:∀cl C s H fp,PE (X.cmp N scope cl C s H fp) dr te) (I:Inv X aa σ H2 s2) (T:jC X.prog X.w X.K tg J fp it tn) (st:tn 0 s2.heap) (f2:∀b∈fp,hZ X aa H2 b) {W:Nat->Nat->List V->Hp->Prop}  (w0:W 0 m0 [] H2) {Fin:List V->Hp->Prop} (jd:∀i m ys H,W i m ys H->(J.stop i H/\Fin ys H)\/ (J.go i H/\ys.length<sizeLine/\∃Nx:List V->Hp->Prop,(∀cF H',Nx cF H'->∃m',m'<m/\W (i+1) m' cF H')/\ ∀x H',J.gc i H x H'->g x (gJ k fr σ) H' λbJ H2=>tc bJ H2 λb H3=>if b=true then te bJ H3 λy H4=>Nx (ys++[y]) H4 else Nx ys H3)) (gj:∀y c,cl.lookup y=some c->X.env.cells.lookup y=some c) (jI:∀y,(y,NameKind.free)∈scope.names->∃c,cl.lookup y=some c) {RR:Value->Addr->Result->Shared->Prop} (Tr:∀D C s' ad n ys H' aJ,s2.heap.objs.size<=D->s2.heap.objs.size<=C->D≠C->Inv (X.cmp N scope cl C s2 H2 fp) [(D,gk ad n)] aJ H' s'->aE ys ad->ys.length<=sizeLine->Fin ys H'->RR (.ref D) C (.ok .next) s') : wpAny (model X.prog X.w) X.A (newList []) (λacc s3=>wpAny (model X.prog X.w) X.A (newFunctionEnv scope X.env.globals cl [] X.env.qual none .none (some X.env)) (λIL s4 => codeAny (model X.prog X.w) X.A (.compStart (.ListComp dr [⟨tg,iter,cT,0⟩] scope pos) 0 (.ref it) acc {IL with scope:=relabel scope X.env}) (RR acc IL.locals) s4) E s3) E s2:=by
 show wpAny_newObj_type (wpAny_newFunctionEnv S.IG (by intro y hy;simp at hy) (λh1 fK sb=>?_) S.kind);generalize hG:s2.heap.push {cls:=.type "list",dict:=none,data:=.seq ([]:List Value).toArray}=G at fK sb⊢;have hC:G.objs.size=s2.heap.objs.size+1:=by rw[<-hG,a2w]
 have jf:s2.heap.objs.size≠G.objs.size:=by rw[hC];show a2e (a2T _)
 have cP:∀b o,s2.heap.get? b=some o->h1.get? b=some o:=λb o e => sb.extBut b o (by rw[hC];show a2e (a3d (a1N e))) (a1J _ (hG▸a1J _ e));have du:h1.get? s2.heap.objs.size=some (gk [] 0):=sb.extBut _ _ jf (a1J _ (hG▸a1S _ μ));have IM:∀b∈fp,∃o,s2.heap.get? b=some o:=λb hb=>let ⟨o,e,_⟩:=T.obj 0 _ st b hb;⟨o,e⟩
 have Bl:∀b∈fp,b≠s2.heap.objs.size:=λb hb=>let ⟨o,e⟩:=IM b hb;a2e (a1N e)
 generalize hX:X.cmp N scope cl G.objs.size s2 H2 fp=X'
 have I0:Inv X' [(s2.heap.objs.size,gk [] 0)] (gJ k fr σ) H2 {s2 with heap:=h1,toks:=s2.toks+([]:List (Str×Value)).length}:=by
  rw[<-hX];show Ti S F I f2 IM gj jI (by rw[hC];show a3U _) μ μ cP fK du (a1M _) jf λv z=>by cases z
 have eP:X'.prog=X.prog:=by rw[<-hX];rfl
 have eW:X'.w=X.w:=by rw[<-hX];rfl
 have eK:X'.K=X.K:=by rw[<-hX];rfl
 have eA:X'.A=X.A:=by rw[<-hX];rfl
 have eC:X'.calm=true:=by rw[<-hX];show hc
 have eE:X'.env=compEnvC scope cl G.objs.size X.env:=by rw[<-hX];rfl
 have eX:X'.xe=λ_ _=>False:=by rw[<-hX];rfl
 have eF:X'.ex=fp:=by rw[<-hX];rfl
 have eS:X'.cL=s2:=by rw[<-hX];rfl
 have IN:X'.pn=[]:=by rw[<-hX];rfl
 have T':jC X'.prog X'.w X'.K tg J fp it tn:=by rw[eP,eW,eK];show T
 have qt:PG X' tg g:=by rw[<-hX];show hg _ _ _ _ _
 have dh:PF X' cT tc:=by rw[<-hX];show hi _ _ _ _ _
 have Bm:PE X' dr te:=by rw[<-hX];show he _ _ _ _ _
 have nX:∀ {o:Obj} {H':Hp},(∀b∈fp,H' b=none)->∀b∈fp,hZ X' [(s2.heap.objs.size,o)] H' b:=λ{o H'} hn b hb=>by
  have ok:=I0.ok;obtain⟨z1,z2⟩:=ok.sF b (by rw[eF];show hb);show⟨hn b hb,z1,ok.nO b (by rw[eF];show hb),.inl (by rw[eF];show hb),z2,λp hp=>?_⟩;rw[IN] at hp;have oq:p=(s2.heap.objs.size,o):=by simpa using hp
  rw[oq];show λz=>Bl b hb z.symm
 have IO:∀ {pl:List (Addr×Obj)} {jE:St} {H6:Hp} {s6:Shared},Inv X' pl jE H6 s6->(jE.length=(gJ k fr σ).length/\∀i,k<=i->jE[i]?=(gJ k fr σ)[i]?)->Inv X' pl (gJ k fr σ) H6 s6:=λ{pl jE H6 s6} I6 ⟨l1,l2⟩ =>
  I6.weak l1.symm λi v e=>by
   by_cases Ts:i<k
   .unfold gJ at e;rw[a1R (by simpa using Ts),a4o] at e;split at e <;> cases e
   .rw[l2 i (by lia)];show e
 have loop:codeAny (model X.prog X.w) X.A (.compLoop (.ListComp dr [⟨tg,iter,cT,0⟩] scope pos) 0 (.ref it) (.ref s2.heap.objs.size) (compEnvC scope cl G.objs.size X.env))
   (RR (.ref s2.heap.objs.size) G.objs.size) {s2 with heap:=h1,toks:=s2.toks+([]:List (Str×Value)).length}:=by
  show eP▸eW▸eA▸eE▸?_;show Tn (λn s'=>∃i ys ad nn H',Inv X' [(s2.heap.objs.size,gk ad nn)] (gJ k fr σ) H' s'/\aE ys ad/\ys.length<=sizeLine/\tn i s'.heap/\(∀b∈fp,H' b=none)/\W i n ys H') ?_ m0 ⟨0,[],[],0,H2,I0,.nil,a2u _,T.keep _ _ _ st λb _ o e=>cP b o e,λb hb=>(f2 b hb).1,w0⟩;rintro n s' ⟨i,ys,ad,nn,H',I',rv,hz,aq,IP,w'⟩;rcases jd i n ys H' w' with⟨stop,fin⟩ | ⟨go,aL,Nx,hN,step⟩
  .show au (T'.done X' μ μ μ eC i _ s' _ H' _ I' (nX IP) aq stop) λr s1 ⟨hr,I1⟩=>.inl ⟨hr,?_⟩;rw[<-hX] at I1;show Tr _ _ s1 ad nn ys H' _ (a1M _) (by rw[hC];show a3U _) jf I1 rv hz fin
  .show au (T'.item X' μ μ μ eC i _ s' _ H' _ I' (nX IP) aq go) λr s1 ⟨u,hr,h4⟩=>.inr ⟨u,hr,au h4 λ_ s5 ⟨x,H5,I5,r5,y5,nY,AL⟩=>?_⟩;have AM:=I5.pinned (nX AL) (T.obj _ _ nY);have IQ:=qt _ s5 _ H5 x u _ AM r5 (hk _ _ _ _ (step x H5 y5));rw[eX] at IQ;show au IQ λ_ s6 ⟨jE,H6,I6,l6,q6⟩=>?_;have IR:=dh _ s6 jE H6 _ I6 q6;rw[eX] at IR
   have Tt:∀ {eL:St} {H7:Hp} {s7:Shared},Inv X' ([(s2.heap.objs.size,gk ad nn)]++me fp s5.heap) eL H7 s7->s7.heap.get? s2.heap.objs.size=some (gk ad nn)/\H7 s2.heap.objs.size=none/\s2.heap.objs.size≠X'.env.locals:=λI7=>by
    obtain⟨z1,z2,z3,_⟩:=I7.pin (s2.heap.objs.size,gk ad nn) (a2g _ (a2n _ θ));show⟨z1,z2,z3⟩
   have IS:∀ {eL:St} {H7:Hp} {s7:Shared},Inv X' ([(s2.heap.objs.size,gk ad nn)]++me fp s5.heap) eL H7 s7->tn (i+1) s7.heap/\∀b∈fp,H7 b=none:=λ{eL H7 s7} I7 =>
    ⟨T.keep _ _ _ nY λb hb o e=>(I7.pin (b,o) (a2g _ (a2g _ (vT hb e)))).1,λb hb=>by
     obtain⟨o,e,d⟩:=T.obj _ _ nY b hb;show(I7.pin (b,o) (a2g _ (a2g _ (vT hb e)))).2.1⟩;show au IR λok s7 ⟨H7,I7,q7⟩=>?_
   cases ok with
   | false =>
    obtain⟨m',hm,w7⟩:=hN _ _ (show Nx ys H7 from q7);obtain⟨a1,a2⟩:=IS I7;show⟨m',hm,i+1,ys,ad,nn,H7,IO I7.vU l6,rv,hz,a1,a2,w7⟩
   | true =>
    have wI:=Bm _ s7 jE H7 _ I7 (show te jE H7 _ from q7);rw[eX] at wI;show au wI λv s8 ⟨y,H8,I8,r8,q8⟩=>?_;obtain⟨z1,z2,z3⟩:=Tt I8;obtain⟨a1,a2⟩:=IS I8;obtain⟨m',hm,w8⟩:=hN _ _ q8;have hl:=rv.length;show append_at (hsz:=by change ad.toArray.size<=sizeLine;rw[a1W];lia) z1 λh9 IT Tu=>?_;have Tv:Inv X' (me fp s5.heap) (gJ k fr σ) H8 s8:=(IO I8 l6).vI λp hp=>I8.pin p (a2g _ (a2g _ hp))
    have I9:Inv X' (me fp s5.heap) (gJ k fr σ) H8 {s8 with heap:=h9}:=Tv.turned (λb o hb e=>(IT.2 b hb).trans e) z2 z3 (.inr (by rw[eS];show a1M _))
     (λy c e z=>by
      obtain⟨v',q⟩:=I0.cell y c e;have Ty:cl.lookup y=some c:=by rw[eE] at e;show e
      obtain⟨v2,q2⟩:=I.cell y c (gj y c Ty);rw[z] at q2;show absurd q2.lt (a2O _))
     (λp hp z=>by
      rw[IN] at hp;show Bl p.1 (Hu hp).1 z)
    have Tz:Inv X' [(s2.heap.objs.size,gk (ad++[v]) (nn+1))] (gJ k fr σ) H8 {s8 with heap:=h9}:=I9.vI λp hp=>by
     have oq:p=(s2.heap.objs.size,gk (ad++[v]) (nn+1)):=by simpa using hp
     show oq▸?_;show⟨?_,z2,z3,?_,λv z=>by cases z⟩
     .change h9.get? _=_;rw[Tu];simp[gk]
     .show(I8.pin (s2.heap.objs.size,gk ad nn) (a2g _ (a2n _ θ))).2.2.2.1
    show⟨m',hm,i+1,ys++[y],ad++[v],nn+1,H8,Tz,rv.append (.cons r8 .nil),by rw[a2p];simp;lia,(T.keep _ _ _ a1 λb hb o e=>(IT.2 b (Bl b hb)).trans e),a2,w8⟩
 show codeAny_compStart_list loop (T.self _ 0 _ _ _ (T.keep _ _ _ st λb _ o e=>cP b o e) loop)
def IU{aJ:St}{D C:Addr}{IV:St}(I:Inv X aa σ H2 s2)(hC:s2.heap.objs.size<=C)(jf:D≠C) (J:Inv (X.cmp N scope cl C s2 H2 fp) [(D,o)] aJ H' s')  (I':Inv X aa IV (upd H' D u) s9) (sb:Heap.SameBut C s9.heap h'):Inv X aa IV (upd H' D u) {s9 with heap:=h'}:=by
 show I'.turned (λb o hb e=>(sb.2 b hb).trans e) (by rw[j_ (Ne.symm jf)];show J.free) (a2K<|a2c I.lt hC) (.inr<|a2o I.sz hC) (λy c e z=>?_) λp hp z=>?_
 .obtain⟨v,q⟩:=I.cell y c e;show absurd (a2c q.lt<|by rw[z];show hC)<|a2O _
 .show absurd (a2c (a1N (I.pin p hp).1)<|by rw[z];show hC)<|a2O _
def wJ(S:qq X N scope)(F:tm X N scope k fr)(hc:X.calm=true)(cg:PI X tg iter wi) (hg:∀cl C s H fp,PG (X.cmp N scope cl C s H fp) tg g) (hk:ot k g) (hi:∀cl C s H fp,PF (X.cmp N scope cl C s H fp) cT tc) (he:∀cl C s H fp,PE (X.cmp N scope cl C s H fp) dr te) (hs:∀x,foldedSetIterable iter X.env x=pure x:=by intro _;rfl):PE X (.ListComp dr [⟨tg,iter,cT,0⟩] scope pos) (tq k fr wi g tc te):=by
 intro aa s σ H Q I h;obtain⟨cl,Bn,gj,jI⟩:=IE λy hy=>I.ok.has y<|.inl<|S.IH y hy;show wpAny_comprehension_free μ hs Bn S.kind S.loc<|au (cg aa s σ H _ I h) λv s1 h1=>au h1 λvR s2 h2=>?_;obtain⟨it,fp,tn,J,H2,e,I2,T,bn,f2,W,⟨m0,w0⟩,jd⟩:=h2;subst e;show IK S F hc hg hk hi he I2 T bn f2 w0 jd gj jI ?_;intro D C s' ad n ys H' aJ hD hC jf J' rv hz fin;obtain⟨hn,I'⟩:=II I2 f2 J' rv hz hD;obtain⟨m,hm,_⟩:=J'.loc;show⟨m,hm,λh' sb=>⟨.ref D,_,IU I2 hC jf J' I' sb,μ,fin D hn⟩⟩
def IW{py jJ:Pos}(hN:X.N.Nodup)(dh:X.N[i]?=some y)(hx:Loc X.env.scope y)(S:qq X N scope)(F:tm X N scope k fr)(hc:X.calm=true)(cg:PI X tg iter wi) (hg:∀cl C s H fp,PG (X.cmp N scope cl C s H fp) tg g) (hk:ot k g) (hi:∀cl C s H fp,PF (X.cmp N scope cl C s H fp) cT tc) (he:∀cl C s H fp,PE (X.cmp N scope cl C s H fp) dr te) (Bo:swapsWith (.ListComp dr [⟨tg,iter,cT,0⟩] scope pos) (some (.Name y py)) jJ.line X.env=pure true) (hs:∀x,foldedSetIterable iter X.env x=pure x:=by intro _;rfl) (hf:X.fn y=true\/X.env.scope.names.lookup y=some .local:=by first | show .inl μ | show .inr μ | assumption) : PS X (.Assign [.Name y py] (.ListComp dr [⟨tg,iter,cT,0⟩] scope pos) jJ) (vP (tq k fr wi g tc te) (jc i)):=by
 intro aa s σ H D0 I h;obtain⟨cl,Bn,gj,jI⟩:=IE λy hy=>I.ok.has y<|.inl<|S.IH y hy;rw[exec_Assign_Name_used _ _ _ _ Bo];show wpAny_bind<|wpAny_standAt<|wpAny_bind ?_;show wpAny_bind<|wpAny_mono (wpAny_comprehension_free μ hs Bn S.kind S.loc <|au (cg aa s σ H _ I h) λv s1 h1=>au h1 λvR s2 h2=>?_) (λ_ s' hq=>wpAny_pure<|wpAny_pure hq) λ_ _ e=>e;obtain⟨it,fp,tn,J,H2,e,I2,T,bn,f2,W,⟨m0,w0⟩,jd⟩:=h2;subst e;show IK S F hc hg hk hi he I2 T bn f2 w0 jd gj jI ?_;intro D C s' ad n ys H' aJ hD hC jf J' rv hz fin;obtain⟨hn,I'⟩:=II I2 f2 J' rv hz hD;obtain⟨m,hm,_⟩:=J'.loc;show wpAny_assign_Name<|G9 I' hN dh hx (v:=.ref D) μ (λs9 I9 ⟨a,TB,ha⟩=>?_) hf
 have TD:C≠a:=by
  rcases ha with z | z;.rw[z];show a2K<|a2c I2.lt hC
  .obtain⟨v,q⟩:=I2.cell y a z;show λz=>absurd (a2c q.lt<|by rw[<-z];show hC)<|a2O _
 show⟨m,hm.sameBut TB TD,λh' sb=>⟨_,_,IU I2 hC jf J' I9 sb,fin D hn⟩⟩
end
noncomputable def kR(sc scope:Scope)(NX N:List Str)(k:Nat)(fr:List Nat):Bool := scope.names.all (λp=>p.2 != .cell)&&(scope.names.all (λp=>p.2 != .local || scope.names.lookup p.1==some .local)&&(scope.names.all (λp=>p.2 != .free || sc.names.lookup p.1==some .cell) && (decide N.Nodup&&(N.length==k+fr.length&&(fr.zip (N.drop k)).all λq=>NX[q.1]?==some q.2&&scope.names.lookup q.2==some .free))))
def qu(hX:X.env.scope=sc)(hk:scope.kind=.function)(h:kR sc scope NX N k fr=true):qq X N scope:=by
 unfold kR at h;simp only[a2v,a3Z,decide_eq_true_eq] at h;obtain⟨h1,h2,h3,h4,h5,h6⟩:=h
 have f2:∀y,(y,NameKind.free)∈scope.names->X.env.kindOf y=some .cell:=λy hy=>by
  have:=h3 _ hy;change X.env.scope.names.lookup y=some .cell;rw[hX];simpa using this
 show⟨hk,λy hy=>by simpa using h1 y hy,λy hy e=>?_,λy e=>f2 y<|PySem.mem_of_lookup e,f2,h4,λy e=>PySem.mem_of_lookup e⟩;have:=h2 y hy;rw[e] at this;simpa using this
def qv(hN:X.N=NX)(h:kR sc scope NX N k fr=true):tm X N scope k fr:=by
 unfold kR at h;simp only[a2v,a3Z,decide_eq_true_eq] at h;obtain⟨h1,h2,h3,h4,h5,h6⟩:=h;show⟨by simpa using h5,λj i y e1 e2=>?_⟩
 have hm:(i,y)∈fr.zip (N.drop k):=by
  show a1K (i:=j) ?_;rw[List.getElem?_zip_eq_some];show⟨e1,by rw[a4m];show e2⟩
 have:=h6 _ hm;rw[hN];simpa using this
section
variable{pos px:Pos}
def wK(h:kR sc scope NX N k fr=true):N.Nodup:=by
 unfold kR at h;simp only[a2v,decide_eq_true_eq] at h;show h.2.2.2.1
def jg(sc:Scope)(NX:List Str)(fs:List Str)(fr:List Nat)(hc:X.calm=true)(cg:PI X (.Name x px) iter wi)(hi:∀cl C s H fp,PF (X.cmp (x::fs) scope cl C s H fp) cT tc)(he:∀cl C s H fp,PE (X.cmp (x::fs) scope cl C s H fp) dr te) (ok:kR sc scope NX (x::fs) 1 fr=true) (hX:X.env.scope=sc:=by rfl) (hN:X.N=NX:=by rfl) (hk:scope.kind=.function:=by rfl) (hx:scope.names.lookup x=some .local:=by rfl) (hs:∀x,foldedSetIterable iter X.env x=pure x:=by intro _;rfl):PE X (.ListComp dr [⟨.Name x px,iter,cT,0⟩] scope pos) (tq 1 fr wi (jc 0) tc te) := wJ (qu hX hk ok) (qv hN ok) hc cg (λcl C s H fp=>k_ 0 (.inr<|lookup_relabel_local hx) (hN:=wK ok) (hx:=Or.inl (lookup_relabel_local hx))) (wH<|by decide) hi he hs
def qw(sc:Scope)(NX:List Str)(fs:List Str)(fr:List Nat){py jJ:Pos}(TF:X.N.Nodup)(dh:X.N[i]?=some y)(hy:Loc X.env.scope y)(hc:X.calm=true)(cg:PI X (.Name x px) iter wi) (hi:∀cl C s H fp,PF (X.cmp (x::fs) scope cl C s H fp) cT tc) (he:∀cl C s H fp,PE (X.cmp (x::fs) scope cl C s H fp) dr te) (ok:kR sc scope NX (x::fs) 1 fr=true) (Bo:swapsWith (.ListComp dr [⟨.Name x px,iter,cT,0⟩] scope pos) (some (.Name y py)) jJ.line X.env=pure true) (hX:X.env.scope=sc:=by rfl) (hN:X.N=NX:=by rfl) (hk:scope.kind=.function:=by rfl) (hx:scope.names.lookup x=some .local:=by rfl) (hs:∀x,foldedSetIterable iter X.env x=pure x:=by intro _;rfl) (hf:X.fn y=true\/X.env.scope.names.lookup y=some .local:=by first | show .inl μ | show .inr μ | assumption) : PS X (.Assign [.Name y py] (.ListComp dr [⟨.Name x px,iter,cT,0⟩] scope pos) jJ) (vP (tq 1 fr wi (jc 0) tc te) (jc i)) := IW TF dh hy (qu hX hk ok) (qv hN ok) hc cg (λcl C s H fp=>k_ 0 (.inr<|lookup_relabel_local hx) (hN:=wK ok) (hx:=Or.inl (lookup_relabel_local hx))) (wH<|by decide) hi he Bo hs hf
end
def wL{lo:Int}{G:V->Hp->(List V->Hp->Prop)->List V->Prop}{Fin:List V->Hp->Prop}(Pv:Nat->List V->Hp->Prop)(h0:Pv 0 [] H) (hs:∀i ys H,i<n->Pv i ys H->ys.length<sizeLine/\G (.int (lo+i)) H (Pv (i+1)) ys) (hd:∀ys H,Pv n ys H->Fin ys H) : ∃W:Nat->Nat->List V->Hp->Prop,(∃m,W 0 m [] H)/\∀i m ys H,W i m ys H-> ((jD lo n).stop i H/\Fin ys H)\/((jD lo n).go i H/\ys.length<sizeLine/\∃Nx:List V->Hp->Prop,(∀cF H',Nx cF H'->∃m',m'<m/\W (i+1) m' cF H')/\∀x H',(jD lo n).gc i H x H'->G x H' Nx ys):=by
 show⟨λi m ys H=>m=n-i/\i<=n/\Pv i ys H,⟨n,θ,a2u _,h0⟩,?_⟩;rintro i m ys H ⟨rfl,hi,p⟩;by_cases aL:i<n
 .obtain⟨a1,a2⟩:=hs i ys H aL p;show .inr ⟨aL,a1,Pv _,λcF H' p'=>⟨n-(i+1),Z,μ,aL,p'⟩,λx H' y=>?_⟩;obtain⟨e,y⟩:=y;subst e y;show a2
 .have e:i=n:=by lia
  subst e;show .inl ⟨a1M _,hd ys H p⟩
def S_{K:PySem.W.Frag}{G:V->Hp->(List V->Hp->Prop)->List V->Prop}{Fin:List V->Hp->Prop}(Pv:Nat->List V->Hp->Prop)(h0:Pv 0 [] H)(hl:∀i ys H,i<=xs.length->Pv i ys H->ae K H a xs) (hs:∀i x ys H,xs[i]?=some x->Pv i ys H->ys.length<sizeLine/\G x H (Pv (i+1)) ys) (hd:∀ys H,Pv xs.length ys H->Fin ys H) : ∃W:Nat->Nat->List V->Hp->Prop,(∃m,W 0 m [] H)/\∀i m ys H,W i m ys H-> ((ma K a).stop i H/\Fin ys H)\/((ma K a).go i H/\ys.length<sizeLine/\∃Nx:List V->Hp->Prop,(∀cF H',Nx cF H'->∃m',m'<m/\W (i+1) m' cF H')/\∀x H',(ma K a).gc i H x H'->G x H' Nx ys):=by
 show⟨λi m ys H=>m=xs.length-i/\i<=xs.length/\Pv i ys H,⟨xs.length,θ,a2u _,h0⟩,?_⟩;rintro i m ys H ⟨rfl,hi,p⟩;have q:=hl i ys H hi p;by_cases aL:i<xs.length
 .obtain⟨a1,a2⟩:=hs i xs[i] ys H (by simp[aL]) p;show .inr ⟨⟨xs,xs[i],q,by simp[aL]⟩,a1,Pv _,λcF H' p'=>⟨xs.length-(i+1),Z,μ,aL,p'⟩,λx H' y=>?_⟩;obtain⟨e,y⟩:=y;subst e;have hx:=y xs q;rw[show xs[i]?=some xs[i] by simp[aL]] at hx;cases hx;show a2
 .have e:i=xs.length:=by lia
  subst e;show .inl ⟨⟨xs,q,a1M _⟩,hd ys H p⟩
def T_:cZ X (.builtin "isinstance") (λxs H Q=>∃x t c b,xs=[x,.ty c]/\gF X.K H x t/\PySem.W.kitOne X.K t (.type c)=some b/\Q (.bl b) H):=by
 intro aa s σ H xs us Q I r h;obtain⟨x,t,c,b,rfl,ty,e,q⟩:=h;obtain⟨u,v,rfl,rx,ry⟩:=vals2 r;cases ry;show Se I rx ty e λtk=>⟨.bl b,H,I.tok tk,μ,q⟩
def seen{σ:St}(I:Inv X aa σ H s)(hk:∀b o,b∉[s.heap.objs.size]->(s.heap.push {cls:=.type "list_iterator",data:=.fields #[.ref l,.int 0 0]}).get? b=some o->h'.get? b=some o) : Inv X aa σ H {s with heap:=h',toks:=tk}:=I.kept (old_kept hk)
def TJ{bs:List Bool}:((List.range bs.length).all λi=>(bs[i]?).getD true)=bs.all id:=by
 induction bs with
 | nil=>rfl
 | cons b r ih =>
  rw[a2s,List.range_succ_eq_map,a5a,List.all_map,a5a];congr 1
def TK(hc:X.calm=true):cZ X (.builtin "all") (λxs H Q=>∃(p:Addr) (bs:List Bool),xs=[.ref p]/\ae X.K H p (bs.map V.bl)/\Q (.bl (bs.all id)) H):=by
 intro aa s σ H xs us Q I r h;obtain⟨p,bs,rfl,hq,q⟩:=h;obtain⟨u,rfl,rx⟩:=vals1 r;cases rx;obtain⟨ad,rv,pl,hz⟩:=I.list hq;have hl:=pl.isList;have aL:p<s.heap.objs.size:=by obtain⟨_,e,_⟩:=hl;show a1N e
 have hn:ad.toArray.size=bs.length:=by rw[a1W,<-rv.length,a1H]
 show call_all_walk<|wpAny_pyIter_list hl (⟨_,_,_,_,_,_,λi=>(bs[i]?).getD true,μ,Walks.list (A:=X.A.in1) (I.ok.hd hc) s.heap.objs.size p (a2e aL) ad.toArray,⟨⟨_,a1S _ μ,μ,μ⟩,hl.push _⟩,?_,λh' tk hk=>?_⟩)
 .intro i v s' Q' E' hP hQ;have hv:ad[i]?=some v:=by simpa using hP
  cases eb:bs[i]? with
  | none =>
   simp_all
  | some b =>
   obtain⟨u,hu,ru⟩:=rv.get (by rw[a1O,eb];rfl);rw[hu] at hv;cases hv;cases ru;show wpAny_truthy_bool ?_;have e:(bs[i]?).getD true=b:=by rw[eb];rfl
   rw[<-e];show hQ
 .rw[hn,TJ];show⟨.bl _,H,(show Inv X aa σ H {s with heap:=h',toks:=tk} from seen I hk),μ,q⟩
theorem tz(ns:List Int):∀k,k<=ns.length->preSum (λi=>(ns[i]?).getD 0) k=(ns.take k).sum
 | 0,_=>by simp[preSum]
 | k+1,h=>by
  have e:ns[k]?=some (ns[k]'(by lia)):=by simp
  rw[preSum,tz ns k Z,a1P,e,a2q];simp
theorem IX{B:Int}:∀(ns:List Int),(∀n∈ns,-B<=n/\n<=B)->-(ns.length*B)<=ns.sum/\ns.sum<=ns.length*B
 | [],_=>by simp
 | n::r,h=>by
  have h1:=h n θ;have h2:=IX r λm hm=>h m<|a2m _ hm;rw[a2b,a2s];lia
def TL(hc:X.calm=true):cZ X (.builtin "sum") (λxs H Q=>∃(p:Addr) (ns:List Int),xs=[.ref p]/\ae X.K H p (ns.map V.int)/\(ns.length<=1000/\∀n∈ns,-1000000000<=n/\n<=1000000000)/\Q (.int ns.sum) H):=by
 intro aa s σ H xs us Q I r h;obtain⟨p,ns,rfl,hq,⟨qx,hb⟩,q⟩:=h;obtain⟨u,rfl,rx⟩:=vals1 r;cases rx;obtain⟨ad,rv,pl,hz⟩:=I.list hq;have hl:=pl.isList;have aL:p<s.heap.objs.size:=by obtain⟨_,e,_⟩:=hl;show a1N e
 have hn:ad.toArray.size=ns.length:=by rw[a1W,<-rv.length,a1H]
 show call_sum_walk (wpAny_pyIter_list hl (⟨_,_,_,_,_,_,λi=>(ns[i]?).getD 0,μ,Walks.list (A:=X.A.in1) (I.ok.hd hc) s.heap.objs.size p (a2e aL) ad.toArray,⟨⟨_,a1S _ μ,μ,μ⟩,hl.push _⟩,λb cj=>?_,λi v hP=>?_,λj hj=>?_,λh' tk t' hk=>?_⟩))
 .rw[a2w];rcases a1L.mp cj with rfl | cj;.show a2T _
  .have e:b=p:=by simpa using cj
   rw[e];show a3d aL
 .have hv:ad[i]?=some v:=by simpa using hP
  cases eb:ns[i]? with
  | none =>
   simp_all
  | some b =>
   obtain⟨u,hu,ru⟩:=rv.get (by rw[a1O,eb];rfl);rw[hu] at hv;cases hv;obtain⟨t,rfl⟩:=ru;show⟨t,by simp[eb]⟩
 .rw[hn] at hj;have e:ns[j]?=some ns[j]:=by simp[hj]
  have b1:=hb ns[j] (a5d hj);have b2:=IX (ns.take (j+1)) λm hm=>hb m (a3G hm);rw[tz ns (j+1) (by lia)];have e3:(ns.take (j+1)).length=j+1:=by rw[a2d];lia
  rw[e3] at b2;show⟨⟨?_,?_⟩,?_,?_⟩
  .change _<=(ns[j]?).getD 0;rw[e];change _<=ns[j];lia
  .change(ns[j]?).getD 0<_;rw[e];change ns[j]<_;lia
  .lia
  .lia
 .rw[hn,tz ns ns.length (a1M _),a1T];show⟨.int _,H,(show Inv X aa σ H {s with heap:=h',toks:=tk} from seen I hk),⟨_,μ⟩,q⟩
def gm(P:Program)(w:World)(H:Hp)(x:V)(d:PyData):Prop:=∀(h:Heap) (v:Value),bH P w H h->RelV x v->∃as,Reads h v d as
def iJ(i:Int):gm P w H (.int i) (.int i):=λh v _ r=>by obtain⟨t,rfl⟩:=r;show⟨_,.int i t⟩
def wM(x:Str):gm P w H (.str x) (.str x):=λh v _ r=>by obtain⟨t,rfl⟩:=r;show⟨_,.str x t⟩
def IY(ok:bH P w H h){ad:List Value}(a:aE xs ad)(b:Paired (gm P w H) xs ds):∃as,ReadsAll h ad ds as:=by
 induction a generalizing ds with
 | nil=>cases b;show⟨_,.nil⟩
 | cons r t ih =>
  cases b with
  | cons q u =>
   obtain⟨as,h1⟩:=q _ _ ok r;obtain⟨bs,h2⟩:=ih u;show⟨_,.cons h1 h2⟩
def gK(e:H a=some (.lst xs))(r:Paired (gm P w H) xs ds):gm P w H (.ref a) (.list ds):=λh v ok rv=>by
 cases rv;obtain⟨_,ad,n,rs,e1⟩:=ok a _ e;obtain⟨as,h1⟩:=IY ok rs r;show⟨_,.list e1 μ μ<|by simpa using h1⟩
def qy(e:H a=some (.tup xs))(r:Paired (gm P w H) xs ds):gm P w H (.ref a) (.tuple ds):=λh v ok rv=>by
 cases rv;obtain⟨_,ad,rs,o,e1,c,n,d⟩:=ok a _ e;obtain⟨as,h1⟩:=IY ok rs r;show⟨_,.tuple e1 c d<|by simpa using h1⟩
theorem tD:∀ns:List Int,Paired (gm P w H) (ns.map V.int) (ns.map PyData.int)
 | []=>.nil
 | n::r=>.cons (iJ n) (tD r)
theorem Bp:∀ns:List Int,PyData.canLayAll0 (ns.map PyData.int)=true
 | []=>rfl
 | n::r=>by
  rw[a2f,PyData.canLayAll0,Bp r];rfl
theorem Bq:∀ns:List Int,PyData.depthAll (ns.map PyData.int)=0
 | []=>rfl
 | n::r=>by
  rw[a2f,PyData.depthAll,Bq r];rfl
inductive qz(P:Program)(w:World)(kP:Bool)(x:V)(y:V)(H:Hp)(Q:VK):Prop
 | mk:∀dx dy,(gm P w H x dx)->(gm P w H y dy)->((dx.canLay0=true/\dy.canLay0=true/\dx.depth<=60))->(Q (.bl (if kP=true then !PyData.eqv dx dy else PyData.eqv dx dy)) H)->qz P w kP x y H Q
def IZ(hu:X.A.units+64<cLine):cz X (compareOp .Eq) (qz X.prog X.w false):=by
 intro aa s σ H x y v u Q I rx ry h;obtain⟨dx,dy,h1,h2,⟨c1,c2,c3⟩,q⟩:=h;obtain⟨as,r1⟩:=h1 _ _ I.am rx;obtain⟨bs,r2⟩:=h2 _ _ I.am ry;show SeqAt.compareEq_reads r1 r2 c1 c2 ?_ ⟨.bl _,H,I,μ,q⟩;have:min _ dy.depth<=dx.depth:=Nat.min_le_left _ _;lia
def TM(hu:X.A.units+64<cLine):cz X (compareOp .NotEq) (qz X.prog X.w true):=by
 intro aa s σ H x y v u Q I rx ry h;obtain⟨dx,dy,h1,h2,⟨c1,c2,c3⟩,q⟩:=h;obtain⟨as,r1⟩:=h1 _ _ I.am rx;obtain⟨bs,r2⟩:=h2 _ _ I.am ry;show SeqAt.compareNe_reads r1 r2 c1 c2 ?_ ⟨.bl _,H,I,μ,q⟩;have:min _ dy.depth<=dx.depth:=Nat.min_le_left _ _;lia
def jh(h1:gm P w H x d)(h2:gm P w H y d)(c1:d.canLay0=true)(c2:d.depth<=60)(q:Q (.bl (!kP)) H):qz P w kP x y H Q:=by
 show⟨d,d,h1,h2,⟨c1,c1,c2⟩,?_⟩;rw[SeqAt.eqv_refl d c1];cases kP <;> show q
def TN:typeLookup (.type "list_reverseiterator") "__len__"=pure none:=by kernel_rfl
def TQ:typeLookup (.type "list_reverseiterator") "__length_hint__"=pure (some (.builtin "list_reverseiterator.__length_hint__")):=by kernel_rfl
def TR:isSubtype (.type "list_reverseiterator") (.type "list_reverseiterator")=pure true:=by kernel_rfl
def TU(cg:s.heap.IsRevIter J l i)(h:Q false s):wpAny (model prog w) A (Builtin.List.listLengthHint (.ref J)) Q E s:=by
 unfold Builtin.List.listLengthHint;show wpAny_bind (wpAny_specialOf cg.typeIs TN ?_);change wpAny _ A (specialOf (Value.ref J) (Str.ofString "__length_hint__")>>=_) _ _ _;show wpAny_bind (wpAny_specialOf cg.typeIs TQ ?_);generalize Ja:("list_reverseiterator.__length_hint__":String)=TV;wp_delta;rw[show splitId TV=some ("list_reverseiterator","__length_hint__") from by subst Ja;decide +kernel];subst Ja;show wpAny_bind (wpAny_isInstance (T:="list_reverseiterator") (b:=true) cg.typeIs TR ?_);show wpAny_ite_split (λji=>absurd ji ζ) (λ_=>?_);show wpAny_ite_split (λ_=>?_) (λji=>absurd ξ ji);show wpAny_ite_split (λji=>absurd ji ξ) (λ_=>?_);show wpAny_pure h
def TW(hh:A.handled=none)(ba:l≠J)(cg:s.heap.IsRevIter J l ((items.size:Int)-1))(hl:s.heap.IsList l items)(hz:items.size<=sizeLine)(S:Addr)(res:Value)(c0:Nat)
  (hS:s.heap.get? S=some {cls:=.type "list",data:=.seq #[] c0}) (tE:S≠J) (wN:S≠l)
  (hR:∀h' tk acc c',(∀b o,b≠S->b≠J->s.heap.get? b=some o->h'.get? b=some o)->h'.get? S=some {cls:=.type "list",dict:=none,data:=.seq acc c',slots:=#[]}->
   ItemsOf (λi v=>items[items.size-1-i]?=some v) acc items.size->R (.ok (.ret res)) {s with heap:=h',toks:=tk}) :
  wpAny (model prog w) A.in1 (Builtin.List.listExtendWith (.ref S) (.ref J) res)
   (λfin s'=>match fin with | .done f=>R (.ok f) s' | .again c'=>c'.quiet=true/\codeAny (model prog w) A c' R s') (λe s'=>R (.error e) s') s:=by
 have W:=(Walks.listRev (prog:=prog) (w:=w) (A:=A.in1) hh J l ba items).toS;have qA:S∉[J,l]:=λhm=>by simp_all
 show wpAny_bind<|wpAny_typeOf cg.typeIs ?_;have h1:Builtin.List.listSameRef (.ref S) (.ref J)=false:=by simp[Builtin.List.listSameRef,tE]
 have h2:(Value.type "list_reverseiterator"==Value.type "list")=false:=by decide
 have h3:(Value.type "list_reverseiterator"==Value.type "tuple")=false:=by decide
 simp only[h1,h2,h3,Bool.or_false,a2I,if_false];show wpAny_bind<|wpAny_pyIter_revIter cg (wpAny_bind (wpAny_holding (TU cg ?_)));show wpAny_ite_split (λji=>absurd ji<|by decide)<|λ_=>(wpAny_pure ⟨plainId_quiet F.plain_extend_loop _,?_⟩);show codeAny_extend_loopS W hz S qA res _ 0 s #[] c0 μ (a2u _) ⟨a2u _,by simpa using cg,hl⟩ hS (ItemsOf.nil _) λs' tF c' hm ou du=>?_;rw[Moved.eq_with hm];show hR _ _ tF c' (λb o hb ow e=>hm.heap b o (λz=>?_) e) ou du;rcases a1L.mp z with z | z;.show hb z
 .show ow<|by simpa using z
def TY(hh:A.handled=none)(ba:l≠J)(cg:s.heap.IsRevIter J l ((items.size:Int)-1))(hl:s.heap.IsList l items)(hz:items.size<=sizeLine)(S:Addr)
  (hS:s.heap.get? S=some {cls:=.type "list",data:=.seq #[]}) (tE:S≠J) (wN:S≠l)
  (hR:∀h' tk acc c',(∀b o,b≠S->b≠J->s.heap.get? b=some o->h'.get? b=some o)->h'.get? S=some {cls:=.type "list",dict:=none,data:=.seq acc c',slots:=#[]}->
   ItemsOf (λi v=>items[items.size-1-i]?=some v) acc items.size->R (.ok (.ret .none)) {s with heap:=h',toks:=tk}) :
  wpAny (model prog w) A.in1 (Builtin.«list.__init__» ⟨[.ref S,.ref J],[]⟩)
   (λfin s'=>match fin with | .done f=>R (.ok f) s' | .again c'=>c'.quiet=true/\codeAny (model prog w) A c' R s') (λe s'=>R (.error e) s') s:=by
 show wpAny_bind ?_;show wpAny_bind<|wpAny_seqItems hS μ<|wpAny_pure ?_;show wpAny_bind<|wpAny_updateSeq hS μ ?_;have g2:=a3A (Obj.mapSeq<|λ_=> #[] ) hS μ;have gn:∀b o,b≠S->s.heap.get? b=some o->(s.heap.update S<|Obj.mapSeq<|λ_=> #[] ).get? b=some o := λb o hb e=>(a2C _ _<|Ne.symm hb).trans e;show wpAny_bind<|wpAny_letGo (TW hh ba (cg.at λo e=>gn J o (Ne.symm tE) e) (hl.at λo e=>gn l o (Ne.symm wN) e) hz S .none _ g2 tE wN λh' tk tF c' hk ou du=>?_);show hR h' tk tF c' (λb o hb ow e=>hk b o hb ow<|gn b o hb e) ou du
def TZ(hh:A.handled=none)(ba:l≠J)(cg:s.heap.IsRevIter J l ((items.size:Int)-1))(hl:s.heap.IsList l items)(hz:items.size<=sizeLine) (hQ:∀h' tk acc c',(∀b o,b≠J->s.heap.get? b=some o->h'.get? b=some o)->h'.get? s.heap.objs.size=some {cls:=.type "list",dict:=none,data:=.seq acc c',slots:=#[]}-> ItemsOf (λi v=>items[items.size-1-i]?=some v) acc items.size->Q (.ref s.heap.objs.size) {s with heap:=h',toks:=tk}) : wpAny (model prog w) A (call (.type "list") [.ref J]) Q E s:=by
 have T4:J<s.heap.objs.size:=by obtain⟨o,e,_⟩:=cg;show a1N e
 have Br:l<s.heap.objs.size:=by obtain⟨o,e,_⟩:=hl;show a1N e
 show callType_codes (Q₁:=λobj s1=>obj=.ref _/\s1={s with heap:=s.heap.push {cls:=.type "list",data:=.seq #[]}}) F.called_list (F.typeCall_list_1 _) F.entry_list_init (code_list_new _ ⟨μ,μ⟩) λobj s1 h1=>?_;obtain⟨rfl,rfl⟩:=h1;have hS:(s.heap.push {cls:=.type "list",data:=.seq #[]}).get? _=some {cls:=.type "list",data:=.seq #[]}:=a1S _ μ;show⟨⟨_,hS,μ⟩,F.args_list_init_2 _ _,TY (A:=A.in1) hh ba (cg.at λo e=>a1J _ e) (hl.at λo e=>a1J _ e) hz _ hS (a2K T4) (a2K Br) λh' tk tF c' hk ou du=>⟨μ,hQ h' tk tF c' (λb o hb e=>hk b o (a2e (a1N e)) hb (a1J _ e)) ou du⟩⟩
inductive Jb(K:PySem.W.Frag)(Q:VK)(x:V)(H1:Hp):Prop
 | mk:∀a xs,(x=.ref a)->(ae K H1 a xs)->(∀p,H1 p=none->Q (.ref p) (upd H1 p (.lst xs.reverse)))->Jb K Q x H1
def T9(K:PySem.W.Frag)(te:TE):TE:=fun σ H Q=>te σ H (Jb K Q)
def Ua{ad:List Value}(h:ItemsOf (λi v=>ad.toArray[ad.toArray.size-1-i]?=some v) acc ad.toArray.size):acc.toList=ad.reverse:=by
 obtain⟨h0,h2⟩:=h;have h1:acc.size=ad.length:=by rw[h0];simp
 apply a4t;intro i;by_cases hi:i<acc.size
 .have e:=h2 i acc[i] (by simp[hi]);have e':ad[ad.length-1-i]?=some acc[i]:=by simpa using e
  rw[a4C Z,e'];simp[hi]
 .simp_all
def Ub(hc:X.calm=true)(jK:X.mg "list"=none)(gL:X.mg "reversed"=none)(oy:Gl X "list")(oz:Gl X "reversed")(he:PE X e te)(h1:starEach [e] X.env=[(false,eval e X.env)]:=by rfl) : PE X (.Call (.Name "list" p1) [.Call (.Name "reversed" p2) [e] [] q2] [] q1) (T9 X.K te):=by
 show λaa s σ H Q I h=>wpAny_Call_Name_kw<|hU I oy jK boot_list ?_;show PyProof.Rows.callWith_type1 ?_ μ μ;show Calls.spliced_cons (wpAny_Call_Name_kw (hU I oz gL boot_reversed ?_));show PyProof.Rows.callWith_type1 ?_ h1 μ;show h1▸?_;show Calls.spliced_cons<|au (he aa s σ H _ I h) λu s1 ⟨x,H1,I1,r1,q1⟩=>?_;obtain⟨a,xs,rfl,hq,q⟩:=q1;cases r1;obtain⟨ad,rv,pl,hz⟩:=I1.list hq;have hl:=pl.isList;have bZ:=rv.length;have Br:a<s1.heap.objs.size:=by obtain⟨o,e,_⟩:=hl;show a1N e
 show Calls.spliced_nil (call_reversed_list hl ?_);show Calls.spliced_nil (TZ (items:=ad.toArray) (I1.ok.hd hc) (a2e Br) ⟨_,a1S _ μ,μ,μ⟩ (hl.at λo e=>a1J _ e) (by rw[a1W];lia) λh' tk acc c' hk hS du=>?_);have eS:(s1.heap.push<|revObj a ((ad.toArray.size)-1)).objs.size=s1.heap.objs.size+1:=a2w ..;have je:s1.heap.objs.size<=(s1.heap.push<|revObj a ((ad.toArray.size)-1)).objs.size:=by rw[eS];show a3U _
 have ea:=Ua du;show⟨.ref _,_,I1.laid (o:=.lst _) (λb o e=>hk b o (a2e<|a1N e)<|a1J _ e) je ⟨by rw[a2M];show hz,ad.reverse,c',rv.reverse,?_⟩,μ,q _<|I1.am.fresh je⟩;rw[hS,<-ea]
section
variable{σ:St}
def Inv.Bs{ch:List Addr}{T:Addr}(I:Inv X aa σ H s)(k:∀b u,b∉ch->s.heap.get? b=some u->h'.get? b=some u)(hf:∀b∈ch,hZ X aa H b)(hT:s.heap.objs.size<=T) (new:ci X.prog X.w (upd H T o) h' T o):Inv X aa σ (upd H T o) {s with heap:=h',toks:=t'}:=by
 have hn:=I.am.fresh hT;have lt:∀b u,s.heap.get? b=some u->b≠T:=λb u e=>a2e<|a2c (a1N e) hT
 have tr:∀b u,H b=some u->b∉ch:=λb u e hb=>by
  obtain⟨f0,_⟩:=hf b hb;rw[e] at f0;cases f0
 show I.step (λb hb=>?_) (λb u _ _ hc e _=>k b u hc e) (λb u _ _ hc e _=>⟨u.slots,k b u hc e⟩) (λb u _ e n=>by rw[j_ (lt b u e)];show n) (λb u hc e=>⟨u,k b u hc e⟩) (λb xs e=>by rw[j_ (l_ e hn)];show e) (λb u x e=>by rw[j_ (l_ e hn)];show e) (λb ps e=>⟨#[],by show (j_ (l_ e hn))▸e▸?_;simp⟩) (λm hm=>?_) (λb u e=>?_) I.bare
 .obtain⟨_,f1,_,f3,f4,f5⟩:=hf b hb;show⟨f3,f1,f4,f5⟩
 .obtain⟨u,es,ep,hu,r⟩:=hm;show⟨u,es,ep,k _ u (λz=>(hf _ z).2.1 μ) hu,r⟩
 .by_cases hb:b=T
  .subst hb;rw[c_] at e;cases e;show new
  .rw[j_ hb] at e;show(I.am b u e).bN (λc v hc q=>k c v ?_ q) (λc q=>by rw[j_ (l_ q hn)];show q) λc xs q=>by rw[j_ (l_ q hn)];show q
   rcases hc with rfl | hc;.show tr _ _ e
   .show tr _ _ hc
def Inv.Bt{ch:List Addr}(I:Inv X aa σ H s)(k:∀b u,b∉ch->s.heap.get? b=some u->h'.get? b=some u)(hf:∀b∈ch,hZ X aa H b):Inv X aa σ H {s with heap:=h',toks:=t'}:=by
 have tr:∀b u,H b=some u->b∉ch:=λb u e hb=>by
  obtain⟨f0,_⟩:=hf b hb;rw[e] at f0;cases f0
 show I.step (λb hb=>?_) (λb u _ _ hc e _=>k b u hc e) (λb u _ _ hc e _=>⟨u.slots,k b u hc e⟩) (λ_ _ _ _ n=>n) (λb u hc e=>⟨u,k b u hc e⟩) (λ_ _ e=>e) (λ_ _ _ e=>e) (λb ps e=>⟨#[],by show e▸?_;simp⟩) (λm hm=>?_) (λb u e=>?_) I.bare
 .obtain⟨_,f1,_,f3,f4,f5⟩:=hf b hb;show⟨f3,f1,f4,f5⟩
 .obtain⟨u,es,ep,hu,r⟩:=hm;show⟨u,es,ep,k _ u (λz=>(hf _ z).2.1 μ) hu,r⟩
 .show(I.am b u e).bN (λc v hc q=>k c v ?_ q) (λ_ q=>q) λ_ _ q=>q;rcases hc with rfl | hc;.show tr _ _ e
  .show tr _ _ hc
end
noncomputable def tG(K:PySem.W.Frag)(a:Addr):It := ⟨λi H=>∃xs x,ae K H a xs/\xs[i]?=some x,λi H v H'=>∃t x,v=.ref t/\H t=none/\(∀xs,ae K H a xs->xs[i]?=some x)/\H'=upd H t (.tup [.int i,x]),λi H=>∃xs,ae K H a xs/\xs.length<=i⟩
def Uc{K:PySem.W.Frag}(a e it:Addr)(ba:e≠it):jC P w K (.Tuple elts x1 pos) (tG K a) [e,it] e (λi h=>(∃cP,IsEnum h e it i cP)/\h.IsListIter it a i) where
 mem:=by simp
 obj:=λi h st b hb=>by
  obtain⟨⟨cP,h1⟩,o,h2,_,d⟩:=st;rcases a1L.mp hb with rfl | hb;.simp_all
  .simp_all
 keep:=λi h h' st k=>by
  obtain⟨⟨cP,h1⟩,h2⟩:=st;show⟨⟨cP,k e θ _ h1⟩,h2.at λo q=>k it θ o q⟩
 item:=by
  intro X hP hw hK hc i aa s σ H E I hf st hg;subst hP hw hK;obtain⟨⟨cP,h1⟩,h2⟩:=st;obtain⟨xs,x,hq,hx⟩:=hg;obtain⟨ad,rv,p,hz⟩:=I.list hq;obtain⟨u,hu,ru⟩:=rv.get hx;have e1:=a1N h1;show wpAny_pyNext_enum_item h1 h2 p.isList (by simpa using hu) ba λh' g1 g2 g3 g4 g5=>⟨_,μ,(wpAny_letOwnedTupleGo_enum g1 λkS g6 g7=>?_)⟩;have kk:∀b o,b∉[e,it]->s.heap.get? b=some o->kS.get? b=some o:=λb o hb q=>g7.extBut b o (λz=>hb (by simp[z])) (g5 b o (λz=>hb (by simp[z])) (λz=>hb (by simp[z])) q);have tT:=g7.extBut _ _ (a2K e1) g3;have I1:=I.Bs (t':=s.toks+1) (o:=.tup [.int i,x]) kk hf (a1M _) ⟨by change 2<=sizeLine;decide,[.int i s.toks,u],.cons ⟨_,μ⟩ (.cons ru .nil),⟨_,tT,μ,_,μ⟩⟩;have hn:=I.am.fresh (a1M _);show⟨.ref s.heap.objs.size,_,I1,μ,⟨_,x,μ,hn,λys hy=>by rw[I.nR hy hq];show hx,μ⟩,⟨⟨u,?_⟩,?_⟩,λb hb=>?_⟩
  .have z: (i+1:Nat) = i +1:=by lia
   rw[z];show g6
  .show g2.extBut g7.extBut (Ne.symm ba)
  .obtain⟨f0,_⟩:=hf b hb
   obtain⟨o,q⟩:∃o,s.heap.get? b=some o:=by
    rcases a1L.mp hb with rfl | hb;.show⟨_,h1⟩
    .have z:b=it:=by simpa using hb
     obtain⟨o,q,_⟩:=h2;show⟨o,by rw[z];show q⟩
   rw[j_ (a2e (a1N q))];show f0
 done:=by
  intro X hP hw hK hc i aa s σ H E I hf st hg;subst hP hw hK;obtain⟨⟨cP,h1⟩,h2⟩:=st;obtain⟨xs,hq,hx⟩:=hg;obtain⟨ad,rv,p,hz⟩:=I.list hq;have hl:=rv.length;show wpAny_pyNext_enum_end (I.ok.hd hc) h1 h2 p.isList (by simp;lia) λh' eb=>⟨μ,I.Bt (λb o hb q=>eb b o (λz=>hb (by simp[z])) q) hf⟩
 self:=λ_ _ _ _ _ st h=>by
  obtain⟨⟨cP,h1⟩,h2⟩:=st;have hT:Shared.TypeIs _ (.ref e) "enumerate":=⟨_,h1,μ⟩;show wpAny_pyIter_slot hT F.slot_enumerate_iter (wpAny_call_entry F.slot_enumerate_iter hT F.entry_enumerate_iter ?_ (F.args_enumerate_iter_1 _));show wpAny_pure ⟨_,μ,"enumerate",_,hT,F.slot_enumerate_next.lookup,h⟩
noncomputable def my(K:PySem.W.Frag)(a b:Addr):It := ⟨λi H=>∃xs ys x y,ae K H a xs/\ae K H b ys/\xs[i]?=some x/\ys[i]?=some y, λi H v H'=>∃t x y,v=.ref t/\H t=none/\(∀xs,ae K H a xs->xs[i]?=some x)/\(∀ys,ae K H b ys->ys[i]?=some y)/\H'=upd H t (.tup [x,y]), λi H=>∃xs ys,ae K H a xs/\ae K H b ys/\(xs.length<=i\/ys.length<=i)⟩
def Ud{K:PySem.W.Frag}(a b z TI TO i1 i2:Addr)(D:ZipApart z TI TO i1 i2 a b):jC P w K (.Tuple elts x1 pos) (my K a b) [z,TI,TO,i1,i2] z (λi h=>IsZip h z TI TO .none/\IsPair h TI (.ref i1) (.ref i2)/\(∃u v,IsPair h TO u v)/\h.IsListIter i1 a i/\h.IsListIter i2 b i) where
 mem:=by simp
 obj:=λi h st c hb=>by
  obtain⟨h1,h2,⟨u,v,h3⟩,⟨o4,h4,_,d4⟩,⟨o5,h5,_,d5⟩⟩:=st;simp only[a1L,a1Z,or_false] at hb;rcases hb with rfl | rfl | rfl | rfl | rfl;.simp_all
  .simp_all
  .simp_all
  .simp_all
  .simp_all
 keep:=λi h h' st k=>by
  obtain⟨h1,h2,⟨u,v,h3⟩,h4,h5⟩:=st;show⟨k z θ _ h1,k TI θ _ h2,⟨u,v,k TO θ _ h3⟩,h4.at λo q=>k i1 θ o q,h5.at λo q=>k i2 θ o q⟩
 item:=by
  intro X hP hw hK hc i aa s σ H E I hf st hg;subst hP hw hK;obtain⟨h1,h2,⟨u0,v0,h3⟩,h4,h5⟩:=st;obtain⟨xs,ys,x,y,ig,jj,hx,hy⟩:=hg;obtain⟨ad,rv,p,hz⟩:=I.list ig;obtain⟨wO,fJ,p',cU⟩:=I.list jj;obtain⟨u,hu,ru⟩:=rv.get hx;obtain⟨v,hv,tH⟩:=fJ.get hy;have e1:=a1N h1
  have Bu:∀c∈[z,TI,TO,i1,i2],∃o,s.heap.get? c=some o:=λc hb=>by
   obtain⟨o4,q4,_⟩:=h4;obtain⟨o5,q5,_⟩:=h5;simp only[a1L,a1Z,or_false] at hb;rcases hb with rfl | rfl | rfl | rfl | rfl;.show⟨_,h1⟩
   .show⟨_,h2⟩
   .show⟨_,h3⟩
   .show⟨_,q4⟩
   .show⟨_,q5⟩
  show wpAny_pyNext_zip_item D h1 h2 h3 h4 h5 p.isList p'.isList (by simpa using hu) (by simpa using hv) λh' g1 g2 g3 g4 g5 g6 g7=>⟨_,μ,(wpAny_letOwnedTupleGo_zip g1 λkS g8 g9=>?_)⟩;have kk:∀c o,c∉[z,TI,TO,i1,i2]->s.heap.get? c=some o->kS.get? c=some o:=λc o hb q => g9.extBut c o (λq=>hb (by simp[q])) (g7 c o (λq=>hb (by simp[q])) (λq=>hb (by simp[q])) (λq=>hb (by simp[q])) (λq=>hb (by simp[q])) q);have tT:=g9.extBut _ _ (a2K e1) g5;have I1:=I.Bs (t':=s.toks) (o:=.tup [x,y]) kk hf (a1M _) ⟨by change 2<=sizeLine;decide,[u,v],.cons ru (.cons tH .nil),⟨_,tT,μ,_,μ⟩⟩;have hn:=I.am.fresh (a1M _);show⟨.ref s.heap.objs.size,_,I1,μ,⟨_,x,y,μ,hn,λzs dq=>by rw[I.nR dq ig];show hx,λzs dq=>by rw[I.nR dq jj];show hy,μ⟩,⟨g8,?_,⟨u,v,?_⟩,?_,?_⟩,λc hb=>?_⟩;.show g9.extBut _ _ D.TIz (g7 _ _ D.TIz D.TITO D.TIi1 D.TIi2 h2)
  .show g9.extBut _ _ D.TOz g2
  .show g3.extBut g9.extBut D.i1z
  .show g4.extBut g9.extBut D.i2z
  .obtain⟨f0,_⟩:=hf c hb;obtain⟨o,q⟩:=Bu c hb;rw[j_ (a2e (a1N q))];show f0
 done:=by
  intro X hP hw hK hc i aa s σ H E I hf st hg;subst hP hw hK;obtain⟨h1,h2,⟨u0,v0,h3⟩,h4,h5⟩:=st;obtain⟨xs,ys,ig,jj,hx⟩:=hg;obtain⟨ad,rv,p,hz⟩:=I.list ig;obtain⟨wO,fJ,p',cU⟩:=I.list jj;have hl:=rv.length;have cE:=fJ.length;show wpAny_pyNext_zip_end (I.ok.hd hc) D h1 h2 h3 h4 h5 p.isList p'.isList ?_ λh' eb=>⟨μ,I.Bt (λc o hb q=>eb c o (λq=>hb (by simp[q])) (λq=>hb (by simp[q])) (λq=>hb (by simp[q])) (λq=>hb (by simp[q])) q) hf⟩;rcases hx with hx | hx;.show .inl (by simp;lia)
  .show .inr (by simp;lia)
 self:=λ_ _ _ _ _ st h=>wpAny_pyIter_zip st.1 h
section
variable{elts:List Expr}{p pos kJ:Pos}
inductive Jc(K:PySem.W.Frag)(R:It->Hp->Prop)(x:V)(H1:Hp):Prop
 | mk:∀a,(x=.ref a)->((∃xs,ae K H1 a xs))->(R (tG K a) H1)->Jc K R x H1
def Ue(K:PySem.W.Frag)(tl:TE):TI:=fun σ H R=>tl σ H (Jc K R)
def Uf(hg:Gl X "enumerate")(hm:X.mg "enumerate"=none)(hl:PE X l tl)(hs:starEach [l] X.env=[(false,eval l X.env)]:=by rfl):PI X (.Tuple elts x1 kJ) (.Call (.Name "enumerate" p) [l] [] pos) (Ue X.K tl):=by
 show λaa s σ H R I h=>Call_<|hU I hg hm boot_enumerate<|PyProof.Rows.callWith_type1 ?_ hs μ;show hs▸?_;show Calls.spliced_cons<|au (hl aa s σ H _ I h) λu s1 ⟨x,H1,I1,r1,q1⟩=>Calls.spliced_nil ?_;obtain⟨a,rfl,⟨xs,hq⟩,q⟩:=q1;cases r1;obtain⟨ad,rv,pl,hz⟩:=I1.list hq;show call_enumerate_list pl.isList λh' g1 g2 g3 g4=>?_;have T:=Uc (P:=X.prog) (w:=X.w) (K:=X.K) (elts:=elts) (x1:=x1) (pos:=kJ) a _ s1.heap.objs.size (a2K<|a2T _);show T.self _ 0 _ _ _ ⟨⟨_,g1⟩,g2⟩ (⟨s1.heap.objs.size+1,_,_,_,H1,μ,I1.kept (t':=s1.toks) g4,T,⟨⟨_,g1⟩,g2⟩,λb hb=>?_,q⟩)
 have cj:s1.heap.objs.size<=b:=by
  rcases a1L.mp hb with rfl | hb;.show a3U _
  .simp_all
 show I1.nW cj<|I1.am.fresh cj
inductive Jd(K:PySem.W.Frag)(R:It->Hp->Prop)(x:V)(y:V)(H2:Hp):Prop
 | mk:∀a b,(x=.ref a)->(y=.ref b)->((∃xs,ae K H2 a xs))->((∃ys,ae K H2 b ys))->(R (my K a b) H2)->Jd K R x y H2
def Ug(K:PySem.W.Frag)(tl jL:TE):TI:=fun σ H R=>tl σ H λx H1=>jL σ H1 (Jd K R x)
def Je{x1}(hg:Gl X "zip")(hm:X.mg "zip"=none)(hl:PE X l tl)(bz:PE X l2 jL)(hs:starEach [l,l2] X.env=[(false,eval l X.env),(false,eval l2 X.env)]:=by rfl)(cr:starEach [l2] X.env=[(false,eval l2 X.env)]:=by rfl) : PI X (.Tuple elts x1 kJ) (.Call (.Name "zip" p) [l,l2] [] pos) (Ug X.K tl jL):=by
 show λaa s σ H R I h=>Call_<|hU I hg hm boot_zip<|PyProof.Rows.callWith_type1 ?_ (by rw[hs,cr])<|by rw[cr];rfl
 show hs▸?_;show Calls.spliced_cons<|au (hl aa s σ H _ I h) λu s1 ⟨x,H1,I1,r1,q1⟩=>Calls.spliced_cons<|au (bz aa s1 σ H1 _ I1 q1) λu2 s2 ⟨y,H2,I2,r2,q2⟩=>Calls.spliced_nil ?_;obtain⟨a,b,rfl,rfl,⟨xs,ig⟩,⟨ys,jj⟩,q⟩:=q2;cases r1;cases r2;obtain⟨ad,rv,pl,hz⟩:=I2.list ig;obtain⟨wO,tH,oA,cU⟩:=I2.list jj;have la:a<s2.heap.objs.size:=by obtain⟨_,e,_⟩:=pl.isList;show a1N e
 have lb:b<s2.heap.objs.size:=by obtain⟨_,e,_⟩:=oA.isList;show a1N e
 show call_zip_2 pl.isList oA.isList λh' g1 g2 g3 g4 g5 g6 g7=>?_;have D:=zipApart_new la lb;have T:=Ud (P:=X.prog) (w:=X.w) (K:=X.K) (elts:=elts) (x1:=x1) (pos:=kJ) a b _ _ _ _ _ D;show T.self _ 0 _ _ _ ⟨g1,g2,⟨_,_,g3⟩,g4,g5⟩ (⟨s2.heap.objs.size+4,_,_,_,H2,μ,I2.kept (t':=s2.toks) g7,T,⟨g1,g2,⟨_,_,g3⟩,g4,g5⟩,λc hb=>?_,q⟩)
 have cj:s2.heap.objs.size<=c:=by
  simp only[a1L,a1Z,or_false] at hb;rcases hb with rfl | rfl | rfl | rfl | rfl;.show a3b _ _
  .show a3b _ _
  .show a3b _ _
  .show a1M _
  .show a3b _ _
 show I2.nW cj<|I2.am.fresh cj
end
def Uh{K:PySem.W.Frag}{G:V->Hp->(List V->Hp->Prop)->List V->Prop}{Fin:List V->Hp->Prop}(Pv:Nat->List V->Hp->Prop)(bZ:xs.length=ys.length)(h0:Pv 0 [] H) (hl:∀i zs H,i<=xs.length->Pv i zs H->ae K H a xs/\ae K H b ys) (hz:∀i zs H,i<xs.length->Pv i zs H->zs.length<sizeLine) (hs:∀i x y zs H t,xs[i]?=some x->ys[i]?=some y->Pv i zs H->H t=none->G (.ref t) (upd H t (.tup [x,y])) (Pv (i+1)) zs) (hd:∀zs H,Pv xs.length zs H->Fin zs H) : ∃W:Nat->Nat->List V->Hp->Prop,(∃m,W 0 m [] H)/\∀i m zs H,W i m zs H-> ((my K a b).stop i H/\Fin zs H)\/((my K a b).go i H/\zs.length<sizeLine/\∃Nx:List V->Hp->Prop,(∀cF H',Nx cF H'->∃m',m'<m/\W (i+1) m' cF H')/\∀x H',(my K a b).gc i H x H'->G x H' Nx zs):=by
 show⟨λi m zs H=>m=xs.length-i/\i<=xs.length/\Pv i zs H,⟨xs.length,θ,a2u _,h0⟩,?_⟩;rintro i m zs H ⟨rfl,hi,p⟩;obtain⟨q1,q2⟩:=hl i zs H hi p;by_cases aL:i<xs.length
 .have e1:xs[i]?=some xs[i]:=by simp[aL]
  have e2:ys[i]?=some (ys[i]'(by lia)):=by simp
  show .inr ⟨⟨xs,ys,_,_,q1,q2,e1,e2⟩,hz i zs H aL p,Pv _,λcF H' p'=>⟨xs.length-(i+1),Z,μ,aL,p'⟩,λv H' y=>?_⟩;obtain⟨t,x,y,rfl,ht,y1,y2,rfl⟩:=y;show hs i x y zs H t (y1 xs q1) (y2 ys q2) p ht
 .have e:i=xs.length:=by lia
  subst e;show .inl ⟨⟨xs,ys,q1,q2,.inl<|a1M _⟩,hd zs H p⟩
def Ui{K:PySem.W.Frag}{g:TG}{tb:TS}{D:Ends}(Pv:Nat->St->Hp->Prop)(h0:Pv 0 σ H)(hl:∀i σ H,i<=xs.length->Pv i σ H->ae K H a xs) (hs:∀i x σ H t,xs[i]?=some x->Pv i σ H->H t=none->g (.ref t) σ (upd H t (.tup [.int i,x])) λbJ H2=>tb {D with nx:=Pv (i+1),ct:=Pv (i+1),bk:=D.nx} bJ H2) (hd:∀ σ H,Pv xs.length σ H->D.nx σ H) : ∃W:Nat->Nat->St->Hp->Prop,(∃m,W 0 m σ H)/\∀i m σ H,W i m σ H-> ((tG K a).stop i H/\D.nx σ H)\/((tG K a).go i H/\∃N:St->Hp->Prop,(∀ aJ H',N aJ H'->∃m',m'<m/\W (i+1) m' aJ H')/\∀x H',(tG K a).gc i H x H'->g x σ H' λbJ H2=>tb {D with nx:=N,ct:=N,bk:=D.nx} bJ H2):=by
 show⟨λi m σ H=>m=xs.length-i/\i<=xs.length/\Pv i σ H,⟨xs.length,θ,a2u _,h0⟩,?_⟩;rintro i m σ H ⟨rfl,hi,p⟩;have q:=hl i σ H hi p;by_cases aL:i<xs.length
 .show .inr ⟨⟨xs,xs[i],q,by simp[aL]⟩,Pv _,λaJ H' p'=>⟨xs.length-(i+1),Z,μ,aL,p'⟩,λv H' y=>?_⟩;obtain⟨t,x,rfl,ht,y1,rfl⟩:=y;show hs i x σ H t (y1 xs q) p ht
 .have e:i=xs.length:=by lia
  subst e;show .inl ⟨⟨xs,q,a1M _⟩,hd σ H p⟩
end L2
namespace Ma
noncomputable def ups(b n L:Nat):List Nat:=(List.range L).map λj=>n / b ^ j % b
noncomputable def aO(b n L i:Nat):List Nat:=(List.range i).map λj=>n / b ^ (L-1-j) % b
def Uj(b n i:Nat):ups b n (i+1)=ups b n i++[n / b ^ i % b]:=by unfold ups;rw[a3P,a2i];rfl
def Bv(b n L i:Nat):aO b n L (i+1)=aO b n L i++[n / b ^ (L-1-i) % b]:=by unfold aO;rw[a3P,a2i];rfl
def Uk(b n L:Nat):(ups b n L).length=L:=by simp[ups]
def fL(b n L i:Nat):(aO b n L i).length=i:=by simp[aO]
def Ul(b n L:Nat):(ups b n L).reverse=aO b n L L:=by
 apply List.ext_getElem;.simp[ups,aO]
 .intro i h1 h2;simp[ups,aO]
def Um(b n i:Nat):n / b ^ i / b=n / b ^ (i+1):=by rw[a2E,a2S]
theorem Bw:∀(ps:List Nat),(∀p∈ps,1<=p/\p<=6)->ps.length<=ps.sum/\ps.sum<=6*ps.length
 | [],_=>by simp
 | p::r,h=>by
  have h1:=h p θ;have h2:=Bw r λq hq=>h q<|a2m _ hq;simp only[a2b,a2s];lia
theorem Bx:∀(ps:List Nat),(ps.map λ(p:Nat)=>(p:Int)).sum=((ps.sum:Nat):Int)
 | []=>rfl
 | p::r=>by simp[Bx r]
end Ma
namespace Ma
noncomputable def ar:List Nat->List Int->List (List Int)
 | [],_=>[]
 | p::ps,xs=>xs.take p::ar ps (xs.drop p)
noncomputable def jk(ps:List Nat)(xs:List Int):List Int:=(ar ps xs).map List.sum
noncomputable def Uo:Nat->List Nat->List Nat
 | _,[]=>[]
 | o,p::ps=>(o+p)::Uo (o+p) ps
def wP(ps:List Nat)(xs:List Int):(jk ps xs).length=ps.length:=by
 unfold jk
 induction ps generalizing xs with
 | nil=>rfl
 | cons p ps ih=>simp[ar,ih]
end Ma
namespace Ma
noncomputable def dR(b n L:Nat)(ws:List Int):List Int:=List.zipWith (λ(d:Nat) (x:Int)=>(d:Int)*x) (aO b n L L) ws
def Jf(b n L:Nat)(ws:List Int)(h:ws.length=L):(dR b n L ws).length=L:=by unfold dR;rw[List.length_zipWith,fL,h,Nat.min_self]
def Jg(hb:0<b)(h:d∈aO b n L L):d<b:=by
 obtain⟨j,_,rfl⟩:=a1U.mp h;show a3N _ hb
def D_(ps:List Nat):∀xs:List Int,(ar ps xs).length=ps.length:=by
 induction ps with
 | nil=>intro xs;rfl
 | cons p ps ih=>intro xs;simp[ar,ih]
def oB(ps:List Nat):∀ xs   i p ,ps[i]?=some p->(ar ps xs)[i]?=some ((xs.drop (ps.take i).sum).take p):=by
 induction ps with
 | nil=>intro xs i p h;simp at h
 | cons q ps ih =>
  intro xs i p h
  cases i with
  | zero=>simp at h;subst h;simp[ar]
  | succ i =>
   have h':ps[i]?=some p:=by simpa using h
   have:=ih (xs.drop q) i p h';simp only[ar,a3q,this,a4M,a2b,a3M]
def iK:∀ {xs row:List Int},row∈ar ps xs->∀x∈row,x∈xs:=by
 induction ps with
 | nil=>intro xs row h;simp[ar] at h
 | cons p ps ih =>
  intro xs row h x hx;rcases a1L.mp h with rfl | h;.show a3G hx
  .show a3H<|ih h x hx
def O_(hp:∀p∈ps,p<=6):∀ {xs row:List Int},row∈ar ps xs->row.length<=6:=by
 induction ps with
 | nil=>intro xs row h;simp[ar] at h
 | cons p ps ih =>
  intro xs row h;rcases a1L.mp h with rfl | h;.have:=hp p θ;rw[a2d];lia
  .show ih (λq hq=>hp q<|a2m _ hq) h
end Ma
namespace Ma
noncomputable def aP:List Int->Int
 | []=>0
 | [x]=>x
 | x::r=>max x (aP r)
noncomputable def aK:List Int->Int
 | []=>0
 | [x]=>x
 | x::r=>min x (aK r)
theorem w_:∀ns:List Int,0<ns.length->aP ns∈ns/\∀n∈ns,n<=aP ns
 | [],h=>by simp at h
 | [x],_=>by simp[aP]
 | x::y::r,_=>by
  have ih:=w_ (y::r) θ;have e:aP (x::y::r)=max x _:=rfl;rw[e];show⟨?_,λn hn=>?_⟩
  .rcases Int.le_total x _ with h | h;.rw[Int.max_eq_right h];show a2m _ ih.1
   .rw[Int.max_eq_left h];simp
  .rcases a1L.mp hn with rfl | hn;.show Int.le_max_left _ _
   .show a3e (ih.2 n hn)<|Int.le_max_right _ _
theorem v_:∀ns:List Int,0<ns.length->aK ns∈ns/\∀n∈ns,aK ns<=n
 | [],h=>by simp at h
 | [x],_=>by simp[aK]
 | x::y::r,_=>by
  have ih:=v_ (y::r) θ;have e:aK (x::y::r)=min x _:=rfl;rw[e];show⟨?_,λn hn=>?_⟩
  .rcases Int.le_total x _ with h | h;.rw[Int.min_eq_left h];simp
   .rw[Int.min_eq_right h];show a2m _ ih.1
  .rcases a1L.mp hn with rfl | hn;.show Int.min_le_left _ _
   .show a3e (Int.min_le_right _ _)<|ih.2 n hn
def wQ(h1:m∈ns)(h2:∀n∈ns,n<=m):m=aP ns:=by
 have h:=w_ ns (a3f h1);show Int.le_antisymm (h.2 m h1)<|h2 _ h.1
def wR(h1:m∈ns)(h2:∀n∈ns,m<=n):m=aK ns:=by
 have h:=v_ ns (a3f h1);show Int.le_antisymm (h2 _ h.1)<|h.2 m h1
end Ma
namespace L2
open PySem PySem.Spec PyProof.Rows
structure ak(P:Program)(w:World)(K:PySem.W.Frag)(mg:Str->Option Value)(base:Heap)(k:Nat)(x:Str)(ps:List Str)(sp:Sp):Prop where
 ex:∃f fd,aA P w K mg base aI k f fd ps sp/\mg x=some (.ref f)/\PySem.W.keepIn K (.ref f)=true/\Binds K fd ps []
section
variable{p pos:Pos}
def o_(D:ak X.prog X.w X.K X.mg X.base k x ps sp)(hr:bM k X.A)(hg:Gl X x)(ha:PA X (e::es) t)(gi:(x==("__debug__":Str))=false:=by decide) (he:starEach (e::es) X.env=(false,eval e X.env)::starEach es X.env:=by rfl) (cu:(backTo pos (starEach es X.env)).any (·.1)=false:=by rfl):PE X (.Call (.Name x p) (e::es) [] pos) (AU sp [] E0 t):=by
 obtain⟨f,fd,G,h1,h2,h3⟩:=D.ex;show HQ G hr hg h1 h2 h3 .nil wB ha gi he cu
def bf(ha:PE X a ta)(hb:PE X b tb)(hs:qk b:=by intro _ _;rfl):PE X (.Subscript a b pos) (mf (sU X.K) ta tb):=Ie Sw ha hb hs
def aW(ha:PE X a ta)(hb:PE X b tb)(hs:qk b:=by intro _ _;rfl):PE X (.Subscript a b pos) (mf (sV X.K) ta tb):=Ie Sx ha hb hs
def dw(hm:X.mg "len"=none)(hg:Gl X "len")(ha:PE X a ta)(hs:starEach [a] X.env=[(false,eval a X.env)]:=by rfl) : PE X (.Call (.Name "len" p) [a] [] pos) (AW (λxs H Q=>∃p ys,xs=[.ref p]/\(ae X.K H p ys\/aB X.K H p ys)/\Q (.int ys.length) H) (gG ta kL)):=p_ SE hg hm PySem.boot_len (a_ ha d_ hs) (he:=hs)
def Uq(K:PySem.W.Frag)(hK:X.K=K):cZ X (.builtin "isinstance") (λxs H Q=>∃x t c b,xs=[x,.ty c]/\gF K H x t/\PySem.W.kitOne K t (.type c)=some b/\Q (.bl b) H):=by
 subst hK;show T_
def Jh(K:PySem.W.Frag)(hK:X.K=K)(ha:PE X a ta)(hb:PE X b tb)(hs:qk b:=by intro _ _;rfl):PE X (.Subscript a b pos) (mf (sU K) ta tb):=by
 subst hK;show bf ha hb hs
def wS(K:PySem.W.Frag)(hK:X.K=K)(ha:PE X a ta)(hb:PE X b tb)(hs:qk b:=by intro _ _;rfl):PE X (.Subscript a b pos) (mf (sV K) ta tb):=by
 subst hK;show aW ha hb hs
def Ji(K:PySem.W.Frag)(hK:X.K=K):AY X (A6 K):=by
 subst hK;show kN
def wT(K:PySem.W.Frag)(hK:X.K=K){k n:Nat}(hc:X.calm=true)(h:qf X es u)(hn:(assignEach es X.env).length=n:=by rfl)(dZ:(assignEach es X.env).findIdx? (·.1)=none:=by rfl):PG X (.Tuple es k pos) (qg K n u):=by
 subst hK;show kF hc h hn dZ
def wU(P:Program)(w:World)(hP:X.prog=P)(hw:X.w=w)(hu:X.A.units+64<cLine):cz X (compareOp .NotEq) (qz P w true):=by
 subst hP hw;show TM hu
def By{K:PySem.W.Frag}:ot 2 (qg K 2 (nU (jc 0) (nU (jc 1) vO))):=λv σ H Q q=>by
 obtain⟨a,xs,e,h1,h2,v0,r0,e0,v1,r1,e1,e2,q⟩:=q;show⟨a,xs,e,h1,h2,v0,r0,e0,v1,r1,e1,e2,⟨θ,λi hi=>by rw[a3o Z,a3o (by lia)]⟩,q⟩
def fu(hm:X.mg y=none)(hv:bootBuiltins y=some (.type T))(hg:Gl X y:=by rfl)(hn:y≠"__name__":=by decide)(hd:(y==("__debug__":Str))=false:=by decide):PE X (.Name y pos) (tC (.ty T)) := Rf hg hm hv μ hn hd
def bU{K:PySem.W.Frag}(h:H q=some (.lst xs))(e:df xs i=some v)(k:Q v H):sU K (.ref q) (.int i) H Q:=⟨q,xs,i,v,μ,μ,ae.of h,e,k⟩
def Jj{K:PySem.W.Frag}(h:H q=some (.tup xs))(e:df xs i=some v)(k:Q v H):sV K (.ref q) (.int i) H Q:=⟨q,xs,i,v,μ,μ,aB.of h,e,k⟩
def Jk{Pr:V->Prop}(h0:0<=i)(h1:i<xs.length)(h:∀x∈xs,Pr x):∃v,df xs i=some v/\Pr v:=by
 obtain⟨j,rfl⟩:∃j:Nat,i=j:=⟨i.toNat,Z⟩;have hj:j<xs.length:=by lia
 show⟨xs[j],Z_<|by simp[hj],h _<|a5d hj⟩
end
end L2
namespace Hv
open PySem L2
def sz(h:n<=1000000):n<=sizeLine:=a2o h ζ
def bK(h:n<=1000000):n<sizeLine:=a3x h ζ
def Kp(fp:List Addr)(H H':Hp):Prop:=∀b o,H b=some o->b∉fp->H' b=some o
def Kp.refl:Kp fp H H:=λ_ _ h _=>h
def Kp.trans(a:Kp fp H H1)(b:Kp fp H1 H2):Kp fp H H2:=λc o h n=>b c o (a c o h n) n
def Kp.of(a:af H H'):Kp fp H H':=λc o h _=>a c o h
def Kp.same(a:Kp fp H H1)(b:af H1 H2):Kp fp H H2:=λc o h n=>b c o<|a c o h n
def f_(h:H a=none):af H (upd H a o):=λb u e=>by rw[j_ (l_ e h)];show e
def N_(s:af H H')(h:H a=none):af H (upd H' a o):=λb u e=>by rw[j_ (l_ e h)];show s b u e
def dL(s:Kp fp H H')(h:a∈fp\/H a=none):Kp fp H (upd H' a o):=λb u e n=>by
 have:b≠a:=by
  rcases h with h | h;.show λz=>n (z▸h)
  .show l_ e h
 rw[j_ this];show s b u e n
structure fX(b:Nat)(ps:List Nat)(ws:List Int):Prop where
 b2:2<=b
 b8:b<=16
 l2:2<=ps.length
 l4:ps.length<=4
 pr:∀p∈ps,1<=p/\p<=6
 wl:ws.length=ps.sum
 wr:∀x∈ws,-9<=x/\x<=9
abbrev az(ps:List Nat):List V:=ps.map λ(p:Nat)=>V.int (p:Int)
def Bz(ps:List Nat):az ps=(ps.map λ(p:Nat)=>(p:Int)).map V.int:=by simp[az]
structure aU(H:Hp)(f a c:Addr)(b:Nat)(ps:List Nat)(ws:List Int):Prop where
 tp:H f=some (.tup [.int b,.ref a,.ref c])
 hp:H a=some (.lst (az ps))
 hw:H c=some (.lst (ws.map V.int))
 ok:fX b ps ws
def aU.keep(F:aU H f a c b ps ws)(s:af H H'):aU H' f a c b ps ws:=⟨s _ _ F.tp,s _ _ F.hp,s _ _ F.hw,F.ok⟩
def aU.kp(F:aU H f a c b ps ws)(s:Kp fp H H')(h1:f∉fp)(h2:a∉fp)(h3:c∉fp):aU H' f a c b ps ws := ⟨s _ _ F.tp h1,s _ _ F.hp h2,s _ _ F.hw h3,F.ok⟩
theorem fX.sum(F:fX b ps ws):2<=ps.sum/\ps.sum<=24:=by
 have h:=Ma.Bw ps F.pr;have h1:=F.l2;have h2:=F.l4;lia
def Kp.free(s:Kp fp H H')(h:H' l=none)(n:l∉fp):H l=none:=by
 cases q:H l with
 | none=>rfl
 | some o =>
  rw[s l o q n] at h;cases h
theorem boot_isinstance:bootBuiltins "isinstance"=some (.builtin "isinstance"):=PyProof.Rows.boot_isinstance
theorem boot_int:bootBuiltins "int"=some (.type "int"):=PyProof.Rows.boot_int
theorem boot_bool:bootBuiltins "bool"=some (.type "bool"):=PyProof.Rows.boot_bool
theorem boot_list:bootBuiltins "list"=some (.type "list"):=PyProof.Rows.boot_list
theorem boot_tuple:bootBuiltins "tuple"=some (.type "tuple"):=PyProof.Rows.boot_tuple
theorem boot_all:bootBuiltins "all"=some (.builtin "all"):=PyProof.Rows.boot_all
theorem boot_sum:bootBuiltins "sum"=some (.builtin "sum"):=PyProof.Rows.boot_sum
theorem boot_max:bootBuiltins "max"=some (.builtin "max"):=PyProof.Rows.boot_max
theorem boot_min:bootBuiltins "min"=some (.builtin "min"):=PyProof.Rows.boot_min
structure Txt(mg:Str->Option Value):Prop where
 cC:mg "isinstance"=none
 int:mg "int"=none
 bool:mg "bool"=none
 list:mg "list"=none
 tuple:mg "tuple"=none
 all:mg "all"=none
 len:mg "len"=none
 sum:mg "sum"=none
 range:mg "range"=none
 max:mg "max"=none
 min:mg "min"=none
 rev:mg "reversed"=none
 zip:mg "zip"=none
 enum:mg "enumerate"=none
def tI:PySem.W.kitOne K (.type "int") (.type "int")=some true:=by kernel_rfl
def mz:PySem.W.kitOne K (.type "int") (.type "bool")=some false:=by kernel_rfl
def Jl:PySem.W.kitOne K (.type "bool") (.type "int")=some true:=by kernel_rfl
def Jm:PySem.W.kitOne K (.type "bool") (.type "bool")=some true:=by kernel_rfl
def Jn:PySem.W.kitOne K (.type "NoneType") (.type "int")=some false:=by kernel_rfl
def Jo:PySem.W.kitOne K (.type "str") (.type "int")=some false:=by kernel_rfl
def Jp:PySem.W.kitOne K (.type "list") (.type "int")=some false:=by kernel_rfl
def Jq:PySem.W.kitOne K (.type "tuple") (.type "int")=some false:=by kernel_rfl
def Jr:PySem.W.kitOne K (.type "dict") (.type "int")=some false:=by kernel_rfl
def BB:PySem.W.kitOne K (.type "list") (.type "list")=some true:=by kernel_rfl
def wV:PySem.W.kitOne K (.type "tuple") (.type "tuple")=some true:=by kernel_rfl
inductive d3(H:Hp):V->Prop where
 | ax:d3 H .ax
 | bl (b:Bool):d3 H (.bl b)
 | int (i:Int):d3 H (.int i)
 | str (x:Str):d3 H (.str x)
 | lst {a:Addr} {xs:List V} (e:H a=some (.lst xs)):d3 H (.ref a)
 | tup {a:Addr} {xs:List V} (e:H a=some (.tup xs)):d3 H (.ref a)
 | dK {a:Addr} {kvs:List (aD×V)} (e:H a=some (.dK kvs)):d3 H (.ref a)
def d3.keep(t:d3 H v)(s:af H H'):d3 H' v:=by
 cases t with
 | ax=>show .ax
 | bl b=>show .bl b
 | int i=>show .int i
 | str x=>show .str x
 | lst e=>show .lst<|s _ _ e
 | tup e=>show .tup<|s _ _ e
 | dK e=>show .dK<|s _ _ e
noncomputable def Ur:V->Bool
 | .int _=>true
 | _=>false
noncomputable def bL(v:V)(lo hi:Int):Bool:=match v with
 | .int i=>decide (lo<=i)&&decide (i<=hi)
 | _=>false
inductive qB(vs:List V)(H:Hp)(Q:VK)(aw:XK):Prop
 | mk:∀v,(vs=[v])->(d3 H v)->(Q (.bl (Ur v)) H)->qB vs H Q aw
inductive jm(vs:List V)(H:Hp)(Q:VK)(aw:XK):Prop
 | mk:∀v lo hi,(vs=[v,.int lo,.int hi])->(d3 H v)->(Q (.bl (bL v lo hi)) H)->jm vs H Q aw
inductive wW(vs:List V)(H:Hp)(Q:VK)(aw:XK):Prop
 | mk:∀a xs lo hi,(vs=[.ref a,.int lo,.int hi])->(H a=some (.lst xs))->(xs.length<=1000)->((∀x∈xs,d3 H x))->(∀H',af H H'->Q (.bl (xs.all λx=>bL x lo hi)) H')->wW vs H Q aw
inductive wX(vs:List V)(H:Hp)(Q:VK)(aw:XK):Prop
 | mk:∀f a c b ps ws,(vs=[.ref f])->(aU H f a c b ps ws)->(∀H',af H H'->Q (.bl true) H')->wX vs H Q aw
inductive kT(vs:List V)(H:Hp)(Q:VK)(aw:XK):Prop
 | mk:∀f a c b ps ws,(vs=[.ref f])->(aU H f a c b ps ws)->(∀H',af H H'->Q .ax H')->kT vs H Q aw
inductive kX(vs:List V)(H:Hp)(Q:VK)(aw:XK):Prop
 | mk:∀f a c b ps ws,(vs=[.ref f])->(aU H f a c b ps ws)->(∀H',af H H'->Q (.int ((b ^ ps.sum:Nat):Int)) H')->kX vs H Q aw
inductive wY(vs:List V)(H:Hp)(Q:VK)(aw:XK):Prop
 | mk:∀f a c b ps ws,∀n:Nat,(vs=[.ref f,.int n])->(aU H f a c b ps ws)->(n<b ^ ps.sum)->(∀H',af H H'->Q .ax H')->wY vs H Q aw
inductive wZ(vs:List V)(H:Hp)(Q:VK)(aw:XK):Prop
 | mk:∀f a c b ps ws,∀n:Nat,(vs=[.ref f,.int n])->(aU H f a c b ps ws)->(n<b ^ ps.sum)->(∀r H',H r=none->af H H'->H' r=some (.lst (az (Ma.aO b n ps.sum ps.sum)))->Q (.ref r) H')->wZ vs H Q aw
def Us{lo hi:Nat}(h:∀p∈ps,lo<=p/\p<=hi):((az ps).all λx=>bL x lo hi)=true:=by
 rw[a3Z];intro x hx;obtain⟨p,hp,rfl⟩:=a1U.mp hx;have:=h p hp;simp only[bL,a2v,decide_eq_true_eq];omega
def Ut{ws:List Int}(h:∀p∈ws,lo<=p/\p<=hi):((ws.map V.int).all λx=>bL x lo hi)=true:=by
 rw[a3Z];intro x hx;obtain⟨p,hp,rfl⟩:=a1U.mp hx;have:=h p hp;simp only[bL,a2v,decide_eq_true_eq];omega
def Uu(ws:List Int):∀x∈ws.map V.int,d3 H x:=λx hx=>by
 obtain⟨p,_,rfl⟩:=a1U.mp hx;show .int p
def Uv(ps:List Nat):∀x∈az ps,d3 H x:=λx hx=>by
 obtain⟨p,_,rfl⟩:=a1U.mp hx;show .int p
noncomputable def top (i : Nat) : Stmt := PySem.Challenge.pw_likehalves_k33_a_keeper_by_drawn_deeds.main.body.getD i (.Pass ⟨0, 0, 0, 0⟩)
abbrev BC:Stmt:=top 13
abbrev BD:Stmt:=top 14
abbrev w4:Stmt:=top 15
abbrev BE:Stmt:=top 16
abbrev BF:Stmt:=top 17
abbrev BG:Stmt:=top 18
abbrev BH:Stmt:=top 19
abbrev BI:Stmt:=top 20
abbrev BJ:Stmt:=top 21
abbrev BK:Stmt:=top 23
abbrev w5:Stmt:=top 24
abbrev w6:Stmt:=top 25
abbrev BL:Stmt:=top 26
abbrev BM:Stmt:=top 27
abbrev BN:Stmt:=top 28
abbrev BO:Stmt:=top 29
abbrev BP:Stmt:=top 30
abbrev BQ:Stmt:=top 31
abbrev qC:Stmt:=top 32
abbrev BR:Stmt:=top 33
abbrev xa:Stmt:=top 35
abbrev xg:Stmt:=top 36
abbrev tJ:Stmt:=top 37
abbrev BS:Stmt:=top 38
abbrev BT:Stmt:=top 40
abbrev xh:Stmt:=top 41
abbrev xi:Stmt:=top 42
abbrev BU:Stmt:=top 43
abbrev BV:Stmt:=top 44
abbrev tL:Stmt:=top 45
abbrev BW:Stmt:=top 46
abbrev BY:Stmt:=top 47
abbrev BZ:Stmt:=top 48
abbrev B0:Stmt:=top 49
abbrev B7:Stmt:=top 51
abbrev xj:Stmt:=top 52
abbrev B8:Stmt:=top 55
abbrev B9:Stmt:=top 56
abbrev B':Stmt:=top 57
abbrev xk:Stmt:=top 58
abbrev Ca:Stmt:=top 59
abbrev Cb:Stmt:=top 60
abbrev oC:Stmt:=top 61
abbrev xm:Stmt:=top 62
abbrev xo:Stmt:=top 63
abbrev Cc:Stmt:=top 64
abbrev Cd:Stmt:=top 65
abbrev Ce:Stmt:=top 66
abbrev Cf:Stmt:=top 67
abbrev Cg:Stmt:=top 68
abbrev xq:Stmt:=top 69
abbrev qD:Stmt:=top 70
abbrev mC:Stmt:=top 71
abbrev ii:Stmt:=top 72
abbrev Ch:Stmt:=top 73
abbrev Ci:Stmt:=top 74
abbrev tM:Stmt:=top 75
abbrev Cj:Stmt:=top 76
abbrev Ck:Stmt:=top 77
abbrev xr:Stmt:=top 78
abbrev Cl:Stmt:=top 79
abbrev xu:Stmt:=top 80
abbrev oE:Stmt:=top 81
abbrev Cm:Stmt:=om (top 53) 0
abbrev xv:Stmt:=om (top 53) 1
abbrev xz:Stmt:=om (top 53) 2
abbrev Cn:Stmt:=om (top 53) 3
abbrev Co:Stmt:=om (top 53) 4
abbrev Cq:Stmt:=om (top 53) 5
abbrev Cr:Stmt:=om (top 53) 6
end Hv
namespace L2
open PySem PySem.Spec PyProof.Rows
section
variable{κ:Type}[DecidableEq κ]
noncomputable def cc(kvs:List (κ×V))(k:κ):Option V:=(kvs.find? λkv=>decide (kv.1=k)).map (·.2)
noncomputable def cM(kvs:List (κ×V))(k:κ)(v:V):List (κ×V) := if (kvs.any λkv=>decide (kv.1=k))=true then kvs.map (λkv=>if kv.1=k then (kv.1,v) else kv) else kvs++[(k,v)]
def iL{k:κ}(e:p.1=k):cc (p::r) k=some p.2:=by simp[cc,a2Z,e]
def iM{k:κ}(e:¬ p.1=k):cc (p::r) k=cc r k:=by simp[cc,a2Z,e]
theorem oF(k:κ):∀kvs:List (κ×V),(kvs.any λkv=>decide (kv.1=k))=(cc kvs k).isSome
 | []=>rfl
 | p::r=>by
  rw[a4d];by_cases e:p.1=k;.simp only[iL e,decide_eq_true e,Bool.true_or,Option.isSome_some]
  .rw[iM e,decide_eq_false e,Bool.false_or];show oF k r
theorem Js(k j:κ)(y:V):∀kvs:List (κ×V),cc (kvs.map λkv=>if kv.1=k then (kv.1,y) else kv) j=(cc kvs j).map λx=>if j=k then y else x
 | []=>rfl
 | p::r=>by
  have ih:=Js k j y r;rw[a2f];by_cases h:p.1=k
  .rw[if_pos h];by_cases e:p.1=j;.rw[iL (p:=(p.1,y)) e,iL e,a4h,if_pos (e.symm.trans h)]
   .rw[iM (p:=(p.1,y)) e,iM e,ih]
  .rw[if_neg h];by_cases e:p.1=j;.rw[iL e,iL e,a4h,if_neg (λz=>h<|e.trans z)]
   .rw[iM e,iM e,ih]
theorem Jt(k j:κ)(y:V):∀kvs:List (κ×V),cc kvs k=none->cc (kvs++[(k,y)]) j=if j=k then some y else cc kvs j
 | [],_=>by
  by_cases e:k=j;.rw[if_pos e.symm];show iL e
  .rw[if_neg (λz=>e z.symm)];show iM e
 | p::r,hn=>by
  show a4a▸?_;have hk:¬ p.1=k:=λz=>by rw[iL z] at hn;cases hn
  rw[iM hk] at hn;have ih:=Jt k j y r hn;by_cases e:p.1=j;.rw[iL e,iL e,if_neg (λz=>hk<|e.trans z)]
  .rw[iM e,iM e,ih]
def Uw(kvs:List (κ×V))(k j:κ)(y:V):cc (cM kvs k y) j=if j=k then some y else cc kvs j:=by
 unfold cM;by_cases a:(kvs.any λkv=>decide (kv.1=k))=true
 .rw[if_pos a,Js];rw[oF] at a;by_cases e:j=k
  .obtain⟨x,hx⟩:=Option.isSome_iff_exists.mp a;rw[if_pos e,e,hx,a4h,if_pos μ]
  .rw[if_neg e]
   cases cc kvs j with
   | none=>rfl
   | some x=>rw[a4h,if_neg e]
 .rw[if_neg a];show Jt k j y kvs ?_;rw[oF] at a
  cases q:cc kvs k with
  | none=>rfl
  | some x=>rw[q] at a;show(a μ).elim
def Cs(kvs:List (κ×V))(k:κ)(v:V):(cM kvs k v).length<=kvs.length+1:=by
 unfold cM;split;.rw[a1H];omega
 .rw[a2p,a2s,a5l];omega
def Ju{k:κ}(v:V)(h:cc kvs k=none):cM kvs k v=kvs++[(k,v)]:=by
 unfold cM;rw[oF,h];show if_neg<|by decide
def ff.tN(r:ff o u):o.isSome=u.isSome:=by
 cases o with
 | none=>cases u with
  | none=>rfl
  | some _=>show(show False from r).elim
 | some _=>cases u with
  | none=>show(show False from r).elim
  | some _=>rfl
theorem ff.getD(r:ff o u)(rd:RelV d d'):RelV (o.getD d) (u.getD d'):=by
 cases o with
 | none=>cases u with
  | none=>show rd
  | some _=>show(show False from r).elim
 | some _=>cases u with
  | none=>show(show False from r).elim
  | some _=>show r
def KV.val(r:KV kvs vs)(k:κ):ff (cc kvs k) (valueAt vs k):=by
 induction r with
 | nil=>show True.intro
 | @cons p q ps qs h t ih =>
  obtain⟨h1,h2⟩:=h;by_cases e:p.1=k
  .have e':=h1.symm.trans e;have b:valueAt (q::qs) k=some q.2:=by simp[valueAt,a2Z,e']
   rw[iL e,b];show h2
  .have e':¬ q.1=k:=λz=>e<|h1.trans z;have b:valueAt (q::qs) k=valueAt qs k:=by simp[valueAt,a2Z,e']
   rw[iM e,b];show ih
theorem KV.any(r:KV kvs vs)(k:κ):(kvs.any λkv=>decide (kv.1=k))=vs.any λkv=>decide (kv.1=k):=by
 induction r with
 | nil=>rfl
 | cons h t ih=>rw[a4d,a4d,ih,h.1]
def KV.Ct(r:KV kvs vs)(k:κ)(ry:RelV y u) : KV (kvs.map λkv=>if kv.1=k then (kv.1,y) else kv) (vs.map λkv=>if kv.1=k then (kv.1,u) else kv):=by
 induction r with
 | nil=>show .nil
 | @cons p q ps qs h t ih =>
  rw[a2f,a2f];show .cons ?_ ih;obtain⟨h1,h2⟩:=h;by_cases e:p.1=k;.rw[if_pos e,if_pos (h1.symm.trans e)];show⟨h1,ry⟩
  .simp_all
def KV.put(r:KV kvs vs)(k:κ)(ry:RelV y u):KV (cM kvs k y) (stored vs k u):=by
 unfold cM stored;rw[r.any k];by_cases e:(vs.any λkv=>decide (kv.1=k))=true;.rw[if_pos e,if_pos e];show r.Ct k ry
 .rw[if_neg e,if_neg e];show Paired.snoc r ⟨μ,ry⟩
def KV.keys{vs:List (κ×Value)}(r:KV kvs vs):kvs.map (·.1)=vs.map (·.1):=by
 induction r with
 | nil=>rfl
 | cons h t ih=>rw[a2f,a2f,ih,h.1]
theorem KV.length{vs:List (κ×Value)}(r:KV kvs vs):kvs.length=vs.length:=Paired.length r
end
def mD(r:RelV (kV k) u):(C_ P w).is k u=true:=by
 cases k with
 | inl i=>obtain⟨t,e⟩:=(show ∃t,u=Value.int i t from r);subst e;show Q0 P w i t
 | inr x=>obtain⟨t,e⟩:=(show ∃t,u=Value.str x t from r);subst e;show Q1 P w x t
theorem Jv{P:Program}{w:World}:∀ {ks:List aD} {us:List Value},aE (ks.map kV) us->ItemsAre (C_ P w) ks us
 | [],_,r=>by cases r;show .nil
 | k::ks,_,r=>by
  cases r with
  | cons h t=>show .cons (mD h)<|Jv t
abbrev KT(H:Hp):List (List aD×V)->List (List aD×Addr×Value)->Prop:=Paired λp q=>p.1=q.1/\H q.2.1=some (.tup (p.1.map kV))/\RelV p.2 q.2.2
def KT.val(r:KT H kvs xs)(k:List aD):ff (cc kvs k) ((atKey xs k).map (·.2)):=by
 induction r with
 | nil=>show True.intro
 | @cons p q ps qs h t ih =>
  obtain⟨h1,_,h2⟩:=h;by_cases e:p.1=k
  .have e':=h1.symm.trans e;have b:atKey (q::qs) k=some q.2:=by simp[atKey,a2Z,e']
   rw[iL e,b];show h2
  .have e':¬ q.1=k:=λz=>e<|h1.trans z;have b:atKey (q::qs) k=atKey qs k:=by simp[atKey,a2Z,e']
   rw[iM e,b];show ih
def KT.Ct(r:KT H kvs xs)(k:List aD)(ry:RelV y u) : KT H (kvs.map λkv=>if kv.1=k then (kv.1,y) else kv) (xs.map (putAt k u)):=by
 induction r with
 | nil=>show .nil
 | @cons p q ps qs h t ih =>
  rw[a2f,a2f];show .cons ?_ ih;obtain⟨h1,h2,h3⟩:=h;unfold putAt;by_cases e:p.1=k;.rw[if_pos e,if_pos (h1.symm.trans e)];show⟨h1,h2,ry⟩
  .rw[if_neg e,if_neg (λz=>e<|h1.trans z)];show⟨h1,h2,h3⟩
def KT.put(r:KT H kvs xs)(k:List aD)(hb:H b=some (.tup (k.map kV)))(ry:RelV y u) : KT H (cM kvs k y) (storedH xs k b u):=by
 have e:(kvs.any λkv=>decide (kv.1=k))=(atKey xs k).isSome:=by rw[oF,(r.val k).tN,a4Y]
 unfold cM storedH;rw[e];by_cases q:(atKey xs k).isSome=true;.rw[if_pos q,if_pos q];show r.Ct k ry
 .rw[if_neg q,if_neg q];show Paired.snoc r ⟨μ,hb,ry⟩
def KT.keeps(r:KT H kvs xs)(ht:∀b ys,H b=some (.tup ys)->H' b=some (.tup ys)):KT H' kvs xs := Paired.fE r λ_ _ z=>⟨z.1,ht _ _ z.2.1,z.2.2⟩
def Jw(ok:bH P w H h)(e:Rd H a u):ci P w H h a u:=e.ok ok
def iN(ok:bH P w H h)(e:Rd H a (.dK kvs)):kvs.length<=sizeLine/\(a==sysModules)=false/\∃vs,KV kvs vs/\h.DictOf (C_ P w) a vs := show ci P w H h a _ from Jw ok e
def oG(ok:bH P w H h)(e:H a=some (.dK kvs)):kvs.length<=sizeLine/\(a==sysModules)=false/\∃vs,KV kvs vs/\h.DictOf (C_ P w) a vs:=iN ok (.inl e)
def qE(ok:bH P w H h)(e:H a=some (.tup (ks.map kV))):(tupleKind (C_ P w)).is h ks a:=by
 obtain⟨_,ad,r,o,h1,h2,n,h3⟩:=(show ci P w H h a _ from ok a _ e);show⟨o,ad.toArray,n,h1,h2,h3,by simpa using Jv r⟩
def oH(ok:bH P w H h)(e:Rd H a (.dT kvs)):kvs.length<=sizeLine/\(a==sysModules)=false/\ ∃xs,KT H kvs xs/\h.DictOfH (tupleKind (C_ P w)) a xs:=by
 obtain⟨z,y,xs,r,o,es,ep,h1,h2,h3,h4,h5⟩:=(show ci P w H h a _ from Jw ok e);show⟨z,y,xs,r,o,es,ep,h1,h2,h3,h4,λx hx=>?_,h5⟩
 have all:∀ {l:List _} {m:List _},KT H l m->∀x∈m,(tupleKind<|C_ P w).is h x.1 x.2.1:=by
  intro l m q
  induction q with
  | nil=>show λx hx=>nomatch hx
  | @cons p q ps qs hq t ih =>
   intro x hx;rcases a1L.mp hx with e | hx
   .subst e;show qE ok<|by show hq.1▸?_;show hq.2.1
   .show ih x hx
 show all r x hx
def Ux(ok:bH P w H h)(e:H a=some (.dT kvs)):kvs.length<=sizeLine/\(a==sysModules)=false/\ ∃xs,KT H kvs xs/\h.DictOfH (tupleKind (C_ P w)) a xs:=oH ok (.inl e)
def eU(H:Hp)(a:Addr)(y:V)(r:Option V):Prop := (∃kvs k,Rd H a (.dK kvs)/\y=kV k/\r=cc kvs k)\/∃kvs k b,Rd H a (.dT kvs)/\y=.ref b/\H b=some (.tup (k.map kV))/\r=cc kvs k
def kY(H:Hp)(a:Addr)(y v:V)(H':Hp):Prop := (∃kvs k,H a=some (.dK kvs)/\y=kV k/\kvs.length<sizeLine/\H'=upd H a (.dK (cM kvs k v)))\/ ∃kvs k b,H a=some (.dT kvs)/\y=.ref b/\H b=some (.tup (k.map kV))/\kvs.length<sizeLine/\H'=upd H a (.dT (cM kvs k v))
def eU.t(e:H a=some (.dT kvs))(eb:H b=some (.tup (k.map kV))):eU H a (.ref b) (cc kvs k):=.inr ⟨kvs,k,b,.inl e,μ,eb,μ⟩
theorem kY.k{k:aD}(e:H a=some (.dK kvs))(hl:kvs.length<sizeLine):kY H a (kV k) v (upd H a (.dK (cM kvs k v))):=.inl ⟨kvs,k,e,μ,hl,μ⟩
def kY.t{k:List aD}(e:H a=some (.dT kvs))(eb:H b=some (.tup (k.map kV)))(hl:kvs.length<sizeLine) : kY H a (.ref b) v (upd H a (.dT (cM kvs k v))):=.inr ⟨kvs,k,b,e,μ,eb,hl,μ⟩
section
variable{σ:St}
def Inv.big(I:Inv X aa σ H s):sysModules<s.heap.objs.size:=by
 have h:=(I.mod.glob.keeps I.bk).lt;show Nat.lt_trans ζ h
def Uy(hu:A.units+1<cLine)(I:Inv X aa σ H s)(g:eU H a y (some v))(ry:RelV y u)(h:∀w' s',Inv X aa σ H s'->RelV v w'->Q w' s') : wpAny (model X.prog X.w) A (getItem (.ref a) u) Q E s:=by
 rcases g with⟨kvs,k,e,ey,l⟩ | ⟨kvs,k,b,e,ey,eb,l⟩
 .subst ey;obtain⟨z,hd,vs,bA,dd⟩:=iN I.am e;obtain⟨w',hw,fJ⟩:=ff.some_of (by rw[l];show bA.val k);show wpAny_getItem_of (mD ry) dd.mapOf hw<|h w' _ (I.tok _) fJ
 .subst ey;cases (show u=Value.ref b from ry);obtain⟨z,hd,xs,bA,dd⟩:=oH I.am e;obtain⟨w',hw,fJ⟩:=ff.some_of (by rw[l];show bA.val k);obtain⟨p,hp,cG⟩:=a4u.mp hw;show wpAny_getItem_heap (tupleKind_room_in1 hu) (qE I.am eb) dd hp ?_;rw[cG];show h w' _ (I.tok _) fJ
def Uz(hu:A.units+1<cLine)(I:Inv X aa σ H s)(g:eU H a y o)(ry:RelV y u)(h:∀s',Inv X aa σ H s'->Q (.bool o.isSome) s') : wpAny (model X.prog X.w) A (compareOp .In u (.ref a)) Q E s:=by
 rcases g with⟨kvs,k,e,ey,l⟩ | ⟨kvs,k,b,e,ey,eb,l⟩
 .subst ey;obtain⟨z,hd,vs,bA,dd⟩:=iN I.am e;show wpAny_in_of (mD ry) hd dd.mapOf ?_;rw[<-(bA.val k).tN,<-l];show h _<|I.tok _
 .subst ey;cases (show u=Value.ref b from ry);obtain⟨z,hd,xs,bA,dd⟩:=oH I.am e;show wpAny_in_heap (tupleKind_room_in1 hu) (qE I.am eb) hd dd ?_;have q:=(bA.val k).tN;rw[a4Y] at q;show q▸l▸?_;show h _<|I.tok _
def UA(hu:A.units+1<cLine)(I:Inv X aa σ H s)(g:eU H a y o)(ry:RelV y u)(h:∀s',Inv X aa σ H s'->Q (.bool (!o.isSome)) s') : wpAny (model X.prog X.w) A (compareOp .NotIn u (.ref a)) Q E s:=by
 rcases g with⟨kvs,k,e,ey,l⟩ | ⟨kvs,k,b,e,ey,eb,l⟩
 .subst ey;obtain⟨z,hd,vs,bA,dd⟩:=iN I.am e;show wpAny_notIn_of (mD ry) hd dd.mapOf ?_;rw[<-(bA.val k).tN,<-l];show h _<|I.tok _
 .subst ey;cases (show u=Value.ref b from ry);obtain⟨z,hd,xs,bA,dd⟩:=oH I.am e;show wpAny_notIn_heap (tupleKind_room_in1 hu) (qE I.am eb) hd dd ?_;have q:=(bA.val k).tN;rw[a4Y] at q;show q▸l▸?_;show h _<|I.tok _
def Cu(I:Inv X aa σ H s)(mu:sE (H a))(hs:Heap.SameBut a s.heap h')(he:∃q,h'.get? a=some q)(new:ci X.prog X.w (upd H a ob) h' a ob) : Inv X aa σ (upd H a ob) {s with heap:=h',toks:=t'} := I.write mu (.inl μ) (λb q hb z=>(hs.2 b hb).trans z) he new
def Cv(z:kvs.length<=sizeLine)(hd:(a==sysModules)=false)(bA:KV kvs vs)(dd:h'.DictOf (C_ P w) a vs) : ci P w H' h' a (.dK kvs):=⟨z,hd,vs,bA,dd⟩
def UB(hu:A.units+1<cLine)(I:Inv X aa σ H s)(g:kY H a y v H')(ry:RelV y u)(rv:RelV v r)(h:∀s',Inv X aa σ H' s'->Q () s') : wpAny (model X.prog X.w) A (setItem (.ref a) u r) Q E s:=by
 rcases g with⟨kvs,k,e,ey,l,eH⟩ | ⟨kvs,k,b,e,ey,eb,l,eH⟩
 .subst ey eH;obtain⟨z,hd,vs,bA,dd⟩:=oG I.am e;have hz:vs.length<=sizeLine:=by rw[<-bA.length];show z
  have hl:(cM kvs k v).length<=sizeLine:=by have:=Cs kvs k v;omega
  show wpAny_setItem_pairs (mD ry) dd λh' oJ hs=>h _ ?_;have he:∃q,h'.get? a=some q:=let ⟨q,_,_,hq,_⟩:=oJ;⟨q,hq⟩
  show Cu I (by rw[e];show True.intro) hs he (Cv hl hd (bA.put k rv) oJ)
 .subst ey eH;cases (show u=Value.ref b from ry);obtain⟨z,hd,xs,bA,dd⟩:=Ux I.am e;have hz:xs.length<=sizeLine:=by rw[<-Paired.length bA];show z
  have hl:(cM kvs k v).length<=sizeLine:=by have:=Cs kvs k v;omega
  show wpAny_setItem_heap (tupleKind_room_in1 hu) (qE I.am eb) dd λh' oJ hs=>h _ ?_;obtain⟨q,es,ep,hq,h2,h3,h4,_,h5⟩:=oJ;show Cu I (by rw[e];show True.intro) hs ⟨q,hq⟩ ⟨hl,hd,_,(bA.put k eb rv).keeps λc ys ec=>?_,q,es,ep,hq,h2,h3,h4,h5⟩;rw[j_ (sD ec e (λz=>nomatch z))];show ec
end
section
variable{σ:St}
def UC(I:Inv X aa σ H s)(e:Rd H a (.dK kvs))(h:∀t s',Inv X aa σ H s'->Q (.int kvs.length t) s'):wpAny (model X.prog X.w) A (call (.builtin "len") [.ref a]) Q E s:=by
 obtain⟨z,hd,vs,bA,dd⟩:=iN I.am e;show call_len_dict hd dd (by rw[<-bA.length];rw[sizeLine_eq] at z;omega) ?_;rw[<-bA.length];show h _ _<|I.tok _
end
def Jx(i:Expr):Prop:=∀ov iv,subscripted i false ov iv=operate [ov,iv] (getItem ov iv)
def UD{T id:String} (hl:typeLookup (.type T) "__getitem__"=pure (some (.builtin id))) (hs:Jx kM) (h:wpAny (model prog w) A (eval value env) (λo bv=>wpAny (model prog w) A (eval kM env) (λi iD=>iD.TypeIs o T/\wpAny (model prog w) A (getItem o i) Q E iD) E bv) E s) : wpAny (model prog w) A (eval (.Subscript value kM pos) env) Q E s:=by
 show Subscript_<|wpAny_mono h (λo bv xA=>wpAny_mono xA (λi iD oK=>?_) λ_ _ x=>x) λ_ _ x=>x;obtain⟨hT,oK⟩:=oK;show wpAny_bind ?_;show wpAny_bind<|wpAny_specialOf hT hl ?_
 have fin:wpAny (model prog w) A (subscripted kM false o i) (λr vQ=>wpAny (model prog w) A (letTemporaryGo value o r>>=λ_=>pure r) Q E vQ) E iD:=by
  rw[hs o i];show wpAny_operating<|wpAny_mono oK (λr vQ UE=>wpAny_bind<|wpAny_letTemporaryGo<|wpAny_pure UE) λ_ _ x=>x
 first | show wpAny_pure<|wpAny_bind fin | grind | show wpAny_bind fin
def UF{σ:St}(I:Inv X aa σ H s)(g:eU H a y o):s.TypeIs (.ref a) "dict":=by
 rcases g with⟨kvs,k,e,_,_⟩ | ⟨kvs,k,b,e,_,_,_⟩
 .obtain⟨_,_,vs,_,dd⟩:=iN I.am e;show dd.typeIs
 .obtain⟨_,_,xs,_,dd⟩:=oH I.am e;show dd.typeIs
inductive Jy(Q:VK)(x:V)(y:V)(H2:Hp):Prop
 | mk:∀a v,(x=.ref a)->(eU H2 a y (some v))->(Q v H2)->Jy Q x y H2
def UG(td ty:TE):TE:=fun σ H Q=>td σ H λx H1=>ty σ H1 (Jy Q x)
inductive Jz(Q:VK)(y:V)(x:V)(H2:Hp):Prop
 | mk:∀a o,(x=.ref a)->(eU H2 a y o)->(Q (.bl o.isSome) H2)->Jz Q y x H2
def UH(ty td:TE):TE:=fun σ H Q=>ty σ H λy H1=>td σ H1 (Jz Q y)
inductive JA(Q:VK)(y:V)(x:V)(H2:Hp):Prop
 | mk:∀a o,(x=.ref a)->(eU H2 a y o)->(Q (.bl (!o.isSome)) H2)->JA Q y x H2
def UI(ty td:TE):TE:=fun σ H Q=>ty σ H λy H1=>td σ H1 (JA Q y)
inductive JB(D:Ends)(σ:St)(v:V)(x:V)(y:V)(H3:Hp):Prop
 | mk:∀a H4,(x=.ref a)->(kY H3 a y v H4)->(D.nx σ H4)->JB D σ v x y H3
def UJ(td ty tv:TE):TS:=λD σ H=>tv σ H λv H1=>td σ H1 λx H2=>ty σ H2 (JB D σ v x)
def kZ(hu:X.A.units+1<cLine)(ho:PE X o td)(hi:PE X i ty)(hs:Jx i):PE X (.Subscript o i pos) (UG td ty):=by
 show λaa s σ H Q I h=>UD PySem.F.slot_dict_getitem.lookup hs<|au (ho aa s σ H _ I h) λu s1 ⟨x,H1,I1,rx,q1⟩=>au (hi aa s1 σ H1 _ I1 q1) λiv s2 ⟨y,H2,I2,ry,a,v,ex,g,q2⟩=>?_;subst ex;obtain rfl:u=Value.ref a:=rx;show⟨UF I2 g,Uy hu I2 g ry λw' s3 I3 fJ=>⟨v,H2,I3,fJ,q2⟩⟩
def UK(hu:X.A.units+1<cLine)(hi:PE X i ty)(ho:PE X o td):PC X .In i o (UH ty td):=by
 show λaa s σ H Q I h=>au (hi aa s σ H _ I h) λiv s1 ⟨y,H1,I1,ry,q1⟩=>au (ho aa s1 σ H1 _ I1 q1) λu s2 ⟨x,H2,I2,rx,a,ov,ex,g,q2⟩=>?_;subst ex;obtain rfl:u=Value.ref a:=rx;show Uz hu I2 g ry λs3 I3=>⟨.bl _,H2,I3,μ,q2⟩
def UL(hu:X.A.units+1<cLine)(hi:PE X i ty)(ho:PE X o td):PC X .NotIn i o (UI ty td):=by
 show λaa s σ H Q I h=>au (hi aa s σ H _ I h) λiv s1 ⟨y,H1,I1,ry,q1⟩=>au (ho aa s1 σ H1 _ I1 q1) λu s2 ⟨x,H2,I2,rx,a,ov,ex,g,q2⟩=>?_;subst ex;obtain rfl:u=Value.ref a:=rx;show UA hu I2 g ry λs3 I3=>⟨.bl _,H2,I3,μ,q2⟩
def qF(hu:X.A.units+1<cLine)(ho:PE X o td)(hi:PE X i ty)(hv:PE X value tv)(hs:swapsWith value (some (.Subscript o i iG)) pos.line X.env=pure false) : PS X (.Assign [.Subscript o i iG] value pos) (UJ td ty tv):=by
 show λaa s σ H D I h=>wpAny_Assign_Subscript (au (hv aa s σ H _ I h) λr s1 ⟨v,H1,I1,rv,q1⟩=>au (ho aa s1 σ H1 _ I1 q1) λu s2 ⟨x,H2,I2,rx,q2⟩=>au (hi aa s2 σ H2 _ I2 q2) λiv s3 ⟨y,H3,I3,ry,a,H4,ex,g,q3⟩=>?_) hs;subst ex;obtain rfl:u=Value.ref a:=rx;show UB hu I3 g ry rv λs4 I4=>⟨σ,H4,I4,q3⟩
def JC(h:Heap)(hb:sysModules<h.objs.size):ci P w H (h.push {cls:=.type "dict",data:=.dict #[]}) h.objs.size (.dK []) := ⟨a2u _,beq_eq_false_iff_ne.mpr<|Ne.symm<|a2e hb,[],.nil,Heap.DictOf.new h⟩
def UM(h:Heap)(hb:sysModules<h.objs.size):ci P w H (h.push {cls:=.type "dict",data:=.dict #[]}) h.objs.size (.dT []) := ⟨a2u _,beq_eq_false_iff_ne.mpr<|Ne.symm<|a2e hb,[],.nil,_,#[],0,a1S _ μ,⟨μ,μ,μ⟩,μ,μ,a4v⟩
def UN:TE:=λ_ H Q=>∀p,H p=none->Q (.ref p) (upd H p (.dK []))
def UO:TE:=λ_ H Q=>∀p,H p=none->Q (.ref p) (upd H p (.dT []))
def qG:PE X (.Dict [] [] pos) UN:=λaa s σ H Q I h => wpAny_Dict_empty ⟨.ref _,_,I.laid (λ_ _ q=>a1J _ q) (a1M _)<|JC _ I.big,μ,h _<|I.am.fresh<|a1M _⟩
def UP:PE X (.Dict [] [] pos) UO:=λaa s σ H Q I h => wpAny_Dict_empty ⟨.ref _,_,I.laid (λ_ _ q=>a1J _ q) (a1M _)<|UM _ I.big,μ,h _<|I.am.fresh<|a1M _⟩
def Cw:List (TE×TE)->St->Hp->(List (V×V)->Hp->Prop)->Prop
 | [],_,H,Q=>Q [] H
 | (tk,tv)::r,σ,H,Q=>tk σ H λx H1=>tv σ H1 λy H2=>Cw r σ H2 λps H3=>Q ((x,y)::ps) H3
abbrev VV:List (V×V)->List (Value×Value)->Prop:=Paired λp q=>RelV p.1 q.1/\RelV p.2 q.2
def xB(X:Cx)(pos:Pos)(keys:List (Option Expr))(tO:List Expr)(ld:List (TE×TE)):Prop := ∀(aa:List (Addr×Obj)) (s:Shared) (σ:St) (H:Hp) (Q:List (V×V)->Hp->Prop),Inv X aa σ H s->Cw ld σ H Q-> wpAny (model X.prog X.w) X.A (evalPairs (pairTrees keys tO X.env pos)) (λvs s'=>∃ps H',Inv X aa σ H' s'/\VV ps vs/\Q ps H') X.xe s
def Cy:xB X pos [] [] []:=λaa s σ H Q I h=>pairTrees_nil_walk ⟨[],H,I,.nil,h⟩
def Cz{ld:List (TE×TE)}(hk:PE X k tk)(hv:PE X v tv)(hr:xB X pos ks vs ld) : xB X pos (some k::ks) (v::vs) ((tk,tv)::ld):=λaa s σ H Q I h => pairTrees_cons_walk<|au (hk aa s σ H _ I h) λu s1 ⟨x,H1,I1,rx,q1⟩=>au (hv aa s1 σ H1 _ I1 q1) λw2 s2 ⟨y,H2,I2,ry,q2⟩ => au (hr aa s2 σ H2 _ I2 q2) λws s3 ⟨ps,H3,I3,bA,q3⟩=>⟨(x,y)::ps,H3,I3,.cons ⟨rx,ry⟩ bA,q3⟩
noncomputable def eV(kvs more:List (aD×V)):List (aD×V):=more.foldl (λacc kv=>cM acc kv.1 kv.2) kvs
def KV.merge:∀ {more:List (aD×V)} {rs:List (aD×Value)} {kvs:List (aD×V)} {vs:List (aD×Value)},KV more rs->KV kvs vs->KV (eV kvs more) (merged vs rs):=by
 intro more rs kvs vs r
 induction r generalizing kvs vs with
 | nil=>show λq=>q
 | @cons p q ps qs h t ih =>
  intro r0
  have e:KV (cM kvs p.1 p.2) (stored vs q.1 q.2):=by
   have:=r0.put p.1 h.2;show h.1▸?_;show this
  show ih e
theorem CA:∀(more kvs:List (aD×V)),(eV kvs more).length<=kvs.length+more.length
 | [],kvs=>by change kvs.length<=kvs.length+0;omega
 | p::r,kvs=>by
  have h1:=CA r (cM kvs p.1 p.2);have h2:=Cs kvs p.1 p.2;change(eV (cM kvs p.1 p.2) r).length<=_;rw[a2s];omega
theorem JD{P:Program}{w:World}:∀ {kvs:List (aD×V)} {ws:List (Value×Value)},VV (kvs.map λkv=>(kV kv.1,kv.2)) ws->∃rs,Carries (C_ P w) ws rs/\KV kvs rs
 | [],_,r=>by cases r;show⟨[],True.intro,.nil⟩
 | p::kvs,_,r=>by
  cases r with
  | @cons a b as bs h t =>
   obtain⟨rs,c,q⟩:=JD t;obtain⟨b1,b2⟩:=b;show⟨(p.1,b2)::rs,⟨mD h.1,μ,c⟩,.cons ⟨μ,h.2⟩ q⟩
def xC(ld:List (TE×TE)):TE:=fun σ H Q=>∀p,H p=none->Cw ld σ (upd H p (.dK [])) λps H2=>H2 p=some (.dK [])/\∃kvs:List (aD×V),ps=kvs.map (λkv=>(kV kv.1,kv.2))/\kvs.length<=15/\Q (.ref p) (upd H2 p (.dK (eV [] kvs)))
def CB{ld:List (TE×TE)}(h:xB X pos keys tO ld)(sZ:keys.all (·.isSome)=true)(hl:keys.length=tO.length)(h0:keys≠[]) (UQ:keys.length<=15):PE X (.Dict keys tO pos) (xC ld):=by
 intro aa s σ H Q I q;have hn:=I.am.fresh (a1M _);have I1:=I.laid (t':=s.toks) (λ_ _ q=>a1J _ q) (a1M _) (JC _ I.big);show wpAny_Dict_walk (knd:=C_ _ X.w) sZ hl h0 UQ<|au (h aa _ σ _ _ I1<|q _ hn) λws s2 ⟨ps,H2,I2,bA,e,kvs,ep,lk,q2⟩=>?_;subst ep;obtain⟨rs,c,rk⟩:=JD bA;obtain⟨z,hd,vs0,r0,dd⟩:=oG I2.am e;cases r0;show⟨rs,c,dd,λh' oJ hs=>⟨.ref _,_,?_,μ,q2⟩⟩
 have hz:(eV [] kvs).length<=sizeLine:=by
  have h1:=CA kvs [];rw[a5l] at h1;rw[sizeLine_eq];omega
 have he:∃q,h'.get? _=some q:=let ⟨q,_,_,hq,_⟩:=oJ;⟨q,hq⟩
 show Cu I2 (by rw[e];show True.intro) hs he<|Cv hz hd (rk.merge .nil) oJ
structure M2(X:Cx)(o:Expr)(m:Str)(bO:Pos)(e f:Expr)(dm:Pos):Prop where
 base:attributeBase o m X.env (eval o X.env)=eval o X.env
 UR:((backTo dm (starEach [e,f] X.env)).all (λx=>!x.1)&&(backToKw dm (keywordEach [] X.env)).all (λx=>x.1.isSome)
  && decide (([e,f]:List Expr).length+([]:List Keyword).length+(if ([]:List Keyword).isEmpty then 0 else 1)<30))=true
 line:(bO.endLine==dm.line)=true
 trees:backTo dm (starEach [e,f] X.env)=[(false,eval e X.env),(false,eval f X.env)]
def JE(H:Hp)(a:Addr):Prop:=(∃kvs,Rd H a (.dK kvs))\/∃kvs,Rd H a (.dT kvs)
def JF{σ:St}(I:Inv X aa σ H s)(d:JE H a) : s.TypeIs (.ref a) "dict"/\(∀b,Value.ref a=.ref b->∃ob,s.heap.get? b=some ob/\ob.dict=none)/\(a==sysModules)=false:=by
 rcases d with⟨kvs,e⟩ | ⟨kvs,e⟩
 .obtain⟨_,hd,vs,_,dd⟩:=iN I.am e;show⟨dd.typeIs,λb q=>?_,hd⟩;cases q;obtain⟨ob,_,_,h1,h2,_⟩:=dd;show⟨ob,h1,h2.2.1⟩
 .obtain⟨_,hd,xs,_,dd⟩:=oH I.am e;show⟨dd.typeIs,λb q=>?_,hd⟩;cases q;obtain⟨ob,_,_,h1,h2,_⟩:=dd;show⟨ob,h1,h2.2.1⟩
section
variable{σ:St}
def US(hu:A.units+1<cLine)(I:Inv X aa σ H s)(g:eU H a y o)(ry:RelV y u)(rd:RelV d r)(h:∀w' s',Inv X aa σ H s'->RelV (o.getD d) w'->Q w' s') : wpAny (model X.prog X.w) A (call (.builtin "dict.get") [.ref a,u,r]) Q E s:=by
 rcases g with⟨kvs,k,e,ey,l⟩ | ⟨kvs,k,b,e,ey,eb,l⟩
 .subst ey;obtain⟨z,hd,vs,bA,dd⟩:=iN I.am e;show call_meetsIn PySem.F.slot_dict_get dd.typeIs PySem.F.entry_dict_get (PySem.F.args_dict_get_3 _ _ _) (meets_dict_get_default _ a (mD ry) hd r) ⟨_,dd.mapOf,h _ _ (I.tok _) ?_⟩;rw[l];show(bA.val k).getD rd
 .subst ey;cases (show u=Value.ref b from ry);obtain⟨z,hd,xs,bA,dd⟩:=oH I.am e;show call_meetsIn PySem.F.slot_dict_get dd.typeIs PySem.F.entry_dict_get (PySem.F.args_dict_get_3 _ _ _) (meetsH_dict_get_default _ a b hd r) ⟨tupleKind_room_in1 hu,k,xs,qE I.am eb,dd,h _ _ (I.tok _) ?_⟩;rw[l];show(bA.val k).getD rd
end
inductive JG(ty:TE)(tx:TE)(σ:St)(Q:VK)(x:V)(H1:Hp):Prop
 | mk:∀a,(x=.ref a)->(JE H1 a)->(ty σ H1 λy H2=>tx σ H2 λz H3=>∃o,eU H3 a y o/\Q (o.getD z) H3)->JG ty tx σ Q x H1
def UT(td ty tx:TE):TE:=fun σ H Q=>td σ H (JG ty tx σ Q)
def mE(hu:X.A.units+1<cLine)(ho:PE X o td)(he:PE X e ty)(hf:PE X f tx)(m:M2 X o "get" bO e f dm):PE X (.Call (.Attribute o "get" bO) [e,f] [] dm) (UT td ty tx):=by
 show λaa s σ H Q I h=>wpAny_Call_method m.base m.UR m.line PySem.F.plainAttrs_dict PySem.F.slot_dict_get PySem.F.type_dict_get<|au (ho aa s σ H _ I h) λu s1 ⟨x,H1,I1,rx,a,ex,d,q1⟩=>?_;subst ex;obtain rfl:u=Value.ref a:=rx;obtain⟨t1,t2,_⟩:=JF I1 d;show⟨t1,t2,?_⟩;rw[m.trees];show Calls.callWith_builtin μ<|Calls.evalArgs_plain<|Calls.spliced_cons<|au (he aa s1 σ H1 _ I1 q1) λiv s2 ⟨y,H2,I2,ry,q2⟩ => Calls.spliced_cons<|au (hf aa s2 σ H2 _ I2 q2) λfv s3 ⟨z,H3,I3,rz,ov,g,q3⟩=>Calls.spliced_nil (US hu I3 g ry rz λw' s4 I4 fJ=>⟨_,H3,I4,fJ,q3⟩)
def UU:cZ X (.builtin "len") (λxs H Q=>∃a kvs,xs=[V.ref a]/\H a=some (.dK kvs)/\Q (.int kvs.length) H):=by
 intro aa s σ H xs us Q I r h;obtain⟨a,kvs,rfl,ha,q⟩:=h;obtain⟨u,rfl,ru⟩:=vals1 r;cases ru;show UC I (.inl ha) λt s' I'=>⟨.int _,H,I',⟨t,μ⟩,q⟩
section
variable{κ:Type}[DecidableEq κ]
def UV{k:κ}(h:cc kvs k=none):¬ k∈kvs.map (·.1):=by
 intro m;obtain⟨p,hp,e⟩:=a1U.mp m;have q:(kvs.any λkv=>decide (kv.1=k))=true:=a5e.mpr ⟨p,hp,decide_eq_true e⟩;rw[oF,h] at q;show absurd q<|by simp
def JH:∀ {l:List κ} {k:κ},l.Nodup->¬ k∈l->(l++[k]).Nodup :=by grind
def UW{k:κ}(v:V)(hn:(kvs.map (·.1)).Nodup)(h:cc kvs k=none):((cM kvs k v).map (·.1)).Nodup:=by
 rw[Ju v h,a2i];show JH hn<|UV h
end
def xD{ns:List Int}{ad:List Value}(rv:aE (ns.map V.int) ad){i:Nat}(hv:ad[i]?=some v):∃n t,ns[i]?=some n/\v=.int n t:=by
 cases eb:ns[i]? with
 | none =>
  have:=rv.none_of (by rw[a1O,eb];rfl);rw[this] at hv;cases hv
 | some b =>
  obtain⟨u,hu,ru⟩:=rv.get (by rw[a1O,eb];rfl);rw[hu] at hv;cases hv;obtain⟨t,rfl⟩:=ru;show⟨b,t,μ,μ⟩
def xE(hc:X.calm=true):cZ X (.builtin "max") (λxs H Q=>∃p ns,xs=[.ref p]/\ae X.K H p (ns.map V.int)/\0<ns.length/\Q (.int (Ma.aP ns)) H):=by
 intro aa s σ H xs us Q I r h;obtain⟨p,ns,rfl,hq,ba,q⟩:=h;obtain⟨u,rfl,rx⟩:=vals1 r;cases rx;obtain⟨ad,rv,pl,hz⟩:=I.list hq;have hl:=pl.isList;have aL:p<s.heap.objs.size:=by obtain⟨_,e,_⟩:=hl;show a1N e
 have hn:ad.toArray.size=ns.length:=by rw[a1W,<-rv.length,a1H]
 have jn:∀(i:Nat)  v ,ad.toArray[i]?=some v->∃t,v=.int ((λi=>(ns[i]?).getD 0) i) t:=λi v hP=>by
  obtain⟨n,t,e,rfl⟩:=xD rv (by simpa using hP);show⟨t,by simp[e]⟩
 show call_max_walk<|wpAny_pyIter_list hl (⟨_,_,_,_,_,_,_,μ,Walks.list (A:=X.A.in1) (I.ok.hd hc) s.heap.objs.size p (a2e aL) ad.toArray,⟨⟨_,a1S _ μ,μ,μ⟩,hl.push _⟩,λb cj=>?_,Z,CmpOf.ints_gt (λi=>(ns[i]?).getD 0) jn,λv h' tk hP hk=>?_⟩)
 .rw[a2w];rcases a1L.mp cj with rfl | cj;.show a2T _
  .have e:b=p:=by simpa using cj
   rw[e];show a3d aL
 .rw[hn] at hP;have ab:=argBest_gt (λi=>(ns[i]?).getD 0) (ns.length-1);obtain⟨n,t,e,rfl⟩:=xD rv (by simpa using hP)
  have em:=Ma.wQ (a1K e) λm hm=>by
   obtain⟨j,hj⟩:=a2H hm;have CC:=(a1I.mp hj).1;have a2:=ab.2 j Z;simp only[hj,e,a4E] at a2;show a2
  subst em;show⟨.int _,H,(show Inv X aa σ H {s with heap:=h',toks:=tk} from seen I hk),⟨_,μ⟩,q⟩
def tP(hc:X.calm=true):cZ X (.builtin "min") (λxs H Q=>∃p ns,xs=[.ref p]/\ae X.K H p (ns.map V.int)/\0<ns.length/\Q (.int (Ma.aK ns)) H):=by
 intro aa s σ H xs us Q I r h;obtain⟨p,ns,rfl,hq,ba,q⟩:=h;obtain⟨u,rfl,rx⟩:=vals1 r;cases rx;obtain⟨ad,rv,pl,hz⟩:=I.list hq;have hl:=pl.isList;have aL:p<s.heap.objs.size:=by obtain⟨_,e,_⟩:=hl;show a1N e
 have hn:ad.toArray.size=ns.length:=by rw[a1W,<-rv.length,a1H]
 have jn:∀(i:Nat)  v ,ad.toArray[i]?=some v->∃t,v=.int ((λi=>(ns[i]?).getD 0) i) t:=λi v hP=>by
  obtain⟨n,t,e,rfl⟩:=xD rv (by simpa using hP);show⟨t,by simp[e]⟩
 show call_min_walk<|wpAny_pyIter_list hl (⟨_,_,_,_,_,_,_,μ,Walks.list (A:=X.A.in1) (I.ok.hd hc) s.heap.objs.size p (a2e aL) ad.toArray,⟨⟨_,a1S _ μ,μ,μ⟩,hl.push _⟩,λb cj=>?_,Z,CmpOf.ints_lt (λi=>(ns[i]?).getD 0) jn,λv h' tk hP hk=>?_⟩)
 .rw[a2w];rcases a1L.mp cj with rfl | cj;.show a2T _
  .have e:b=p:=by simpa using cj
   rw[e];show a3d aL
 .rw[hn] at hP;have ab:=argBest_lt (λi=>(ns[i]?).getD 0) (ns.length-1);obtain⟨n,t,e,rfl⟩:=xD rv (by simpa using hP)
  have em:=Ma.wR (a1K e) λm hm=>by
   obtain⟨j,hj⟩:=a2H hm;have CC:=(a1I.mp hj).1;have a2:=ab.2 j Z;simp only[hj,e,a4E] at a2;show a2
  subst em;show⟨.int _,H,(show Inv X aa σ H {s with heap:=h',toks:=tk} from seen I hk),⟨_,μ⟩,q⟩
def JI(h:kh k v=true):RelV (kV k) v:=by rcases M_ h with⟨i,t,rfl,rfl⟩ | ⟨x,t,rfl,rfl⟩ <;> show⟨_,μ⟩
theorem KV.at(r:KV kvs vs):∀ {i:Nat} {p:aD×V},kvs[i]?=some p->∃u,vs[i]?=some (p.1,u)/\RelV p.2 u:=by
 induction r with
 | nil=>intro i p e;simp at e
 | @cons a b as bs h t ih =>
  intro i p e
  cases i with
  | zero =>
   simp at e;subst e;show⟨b.2,by rw[h.1];rfl,h.2⟩
  | succ i=>simpa using ih (by simpa using e)
section
variable{σ:St}
def Inv.freeze(I:Inv X aa σ H s)(e:H a=some (.dK kvs))(ho:s.heap.get? a=some o):Inv X aa σ (upd H a (.bE o (.dK kvs))) s := I.write (by rw[e];trivial) (.inl μ) (λb q _ z=>z) ⟨o,ho⟩ ⟨ho,I.am a _ e⟩
def Inv.JJ(I:Inv X aa σ H s)(e:H a=some (.bE o (.dK kvs)))(hb:∀o u,X.fT a≠some (.bE o u)):Inv X aa σ (upd H a (.dK kvs)) s:=by
 have ne:∀b,H b=none->b≠a:=λb n z=>by rw[z,e] at n;cases n
 show⟨I.ok,I.os,I.bare,⟨I.base.keep,I.base.slot,λb ob q n hx=>?_,I.base.there,λb xs q=>?_,λb ob u q=>?_,λb ps q=>?_⟩,I.loc,I.cell,?_,λx c q=>?_,λp hp=>?_,λb u q=>?_,I.len⟩
 .have:=I.base.free b ob q n hx;rw[j_ (ne b this)];show this
 .have q':=I.base.fS b xs q;rw[j_ (λz=>by rw[z,e] at q';cases q')];show q'
 .have q':=I.base.fF b ob u q;rw[j_ (λz=>hb ob u<|by show z▸?_;show q)];show q'
 .obtain⟨m,q'⟩:=I.base.f9 b ps q;show⟨m,by rw[j_ (λz=>by rw[z,e] at q';cases q')];show q'⟩
 .rw[j_ (ne _ I.free)];show I.free
 .rw[j_ (ne _<|I.fH x c q)];show I.fH x c q
 .obtain⟨h1,h2,h3⟩:=I.pin p hp;show⟨h1,by rw[j_ (ne _ h2)];show h2,h3⟩
 .by_cases JK:b=a
  .subst JK;rw[c_] at q;cases q;show(I.am b _ e).2
  .rw[j_ JK] at q;show(I.am b u q).bN (λ_ _ _ z=>z) (λc z=>?_) λc xs z=>?_;.rw[j_ (λy=>by rw[y,e] at z;cases z)];show z
   .rw[j_ (λy=>by rw[y,e] at z;cases z)];show z
inductive JL(fT:Hp)(u:TS)(D:Ends)(σ:St)(H:Hp):Prop
 | mk:∀a o kvs,(H a=some (.bE o (.dK kvs)))->((∀o u,fT a≠some (.bE o u)))->(u D σ (upd H a (.dK kvs)))->JL fT u D σ H
def qH{rest:List Stmt}(h:dP X rest u):dP X rest (JL X.fT u):=λaa s σ H D I q=>by
 obtain⟨a,o,kvs,e,hb,q⟩:=q;show h aa s σ _ D (I.JJ e hb) q
end
noncomputable def mF(a:Addr)(o:Obj)(kvs:List (aD×V)):It := ⟨λi H=>H a=some (.bE o (.dK kvs))/\i<kvs.length,λi H x H'=>H'=H/\∃k v,kvs[i]?=some (k,v)/\x=kV k,λi H=>H a=some (.bE o (.dK kvs))/\kvs.length<=i⟩
def UX{K:PySem.W.Frag}(bA:KV kvs vs) (da:∀h:Heap,h.get? a=some o->h.DictAt (C_ P w) a vs ep):jC P w K tg (mF a o kvs) [it] it (λi h=>h.IsKeyIter it a i vs.length ep) where
 mem:=by simp
 obj:=λi h st b hb=>by
  have e:b=it:=by simpa using hb
  subst e;obtain⟨o,e,c,d⟩:=st;show⟨o,e,λv z=>by rw[d] at z;cases z⟩
 keep:=λi h h' st k=>st.at λo e=>k it θ o e
 item:=by
  intro X hP hw hK hc i aa s σ H E I hf st hg;subst hP hw hK;obtain⟨hq,hi⟩:=hg;obtain⟨f0,f1,f2,f3,f4,f5⟩:=hf it θ;have hx:kvs[i]?=some kvs[i]:=by simp[hi]
  obtain⟨u,hu,ru⟩:=bA.at hx;show wpAny_pyNext_dict_item st (da _ (I.am a _ hq).1) hu λaZ h' hk aq sb=>?_;have I1:Inv X aa σ H {s with heap:=h'}:=I.turned (λb o hb e=>(sb.2 b hb).trans e) f0 f1 f3 f4 f5;obtain⟨oi,e,c,d⟩:=id aq;show⟨aZ,μ,vS e c d ζ ⟨kV (kvs[i]).1,H,I1,JI hk,⟨μ,(kvs[i]).1,(kvs[i]).2,hx,μ⟩,aq,λb hb=>(hf b hb).1⟩⟩
 done:=by
  intro X hP hw hK hc i aa s σ H E I hf st hg;subst hP hw hK;obtain⟨hq,hi⟩:=hg;obtain⟨f0,f1,f2,f3,f4,f5⟩:=hf it θ;have hl:=bA.length;show wpAny_pyNext_dict_end (I.ok.hd hc) st (da _ (I.am a _ hq).1) (by simp;lia) λh' eb=>⟨μ,I.turned (λb o hb e=>eb b o hb e) f0 f1 f3 f4 f5⟩
 self:=λ_ _ _ _ _ st h=>wpAny_pyIter_keyiter st h
inductive JM(R:It->Hp->Prop)(x:V)(H1:Hp):Prop
 | mk:∀a kvs,(x=.ref a)->(H1 a=some (.dK kvs))->(∀o,R (mF a o kvs) (upd H1 a (.bE o (.dK kvs))))->JM R x H1
def UY(tl:TE):TI:=fun σ H R=>tl σ H (JM R)
def oM(hl:PE X l tl):PI X tg l (UY tl):=by
 show λaa s σ H R I h=>au (hl aa s σ H _ I h) λv s1 ⟨x,H1,I1,r1,q1⟩=>?_;obtain⟨a,kvs,e,he,q⟩:=q1;subst e;cases r1;obtain⟨z,hd,vs,bA,o,es,ep,ho,dd⟩:=oG I1.am he;show wpAny_pyIter_dict hd ⟨o,es,ho,dd⟩ ?_;have I2:=I1.freeze he ho;show⟨s1.heap.objs.size,[s1.heap.objs.size],_,_,_,μ,I2.kept λb o e=>a1J _ e,UX bA λh e=>⟨o,es,e,dd⟩,⟨_,a1S _ μ,μ,μ⟩,λb hb=>?_,q o⟩;have e:b=s1.heap.objs.size:=by simpa using hb
 subst e;show I2.nW (a1M _)<|I2.am.fresh<|a1M _
def qI{g:TG}{tb:TS}{D:Ends}(Pv:Nat->St->Hp->Prop)(h0:Pv 0 σ H)(hl:∀i σ H,i<=kvs.length->Pv i σ H->H a=some (.bE o (.dK kvs))) (hs:∀i k v σ H,kvs[i]?=some (k,v)->Pv i σ H->g (kV k) σ H λbJ H2=>tb {D with nx:=Pv (i+1),ct:=Pv (i+1),bk:=D.nx} bJ H2) (hd:∀ σ H,Pv kvs.length σ H->D.nx σ H) : ∃W:Nat->Nat->St->Hp->Prop,(∃m,W 0 m σ H)/\∀i m σ H,W i m σ H-> ((mF a o kvs).stop i H/\D.nx σ H)\/((mF a o kvs).go i H/\∃N:St->Hp->Prop,(∀ aJ H',N aJ H'->∃m',m'<m/\W (i+1) m' aJ H')/\∀x H',(mF a o kvs).gc i H x H'->g x σ H' λbJ H2=>tb {D with nx:=N,ct:=N,bk:=D.nx} bJ H2):=by
 show⟨λi m σ H=>m=kvs.length-i/\i<=kvs.length/\Pv i σ H,⟨kvs.length,θ,a2u _,h0⟩,?_⟩;rintro i m σ H ⟨rfl,hi,p⟩;have q:=hl i σ H hi p;by_cases aL:i<kvs.length
 .show .inr ⟨⟨q,aL⟩,Pv _,λaJ H' p'=>⟨kvs.length-(i+1),Z,μ,aL,p'⟩,λx H' y=>?_⟩;obtain⟨e,k,v,hk,rfl⟩:=y;subst e;show hs i k v σ _ hk p
 .have e:i=kvs.length:=by lia
  subst e;show .inl ⟨⟨q,a1M _⟩,hd σ H p⟩
def UZ{G:V->Hp->(List V->Hp->Prop)->List V->Prop}{Fin:List V->Hp->Prop}(Pv:Nat->List V->Hp->Prop)(h0:Pv 0 [] H)(hl:∀i ys H,i<=kvs.length->Pv i ys H->H a=some (.bE o (.dK kvs))) (hs:∀i k v ys H,kvs[i]?=some (k,v)->Pv i ys H->ys.length<sizeLine/\G (kV k) H (Pv (i+1)) ys) (hd:∀ys H,Pv kvs.length ys H->Fin ys H) : ∃W:Nat->Nat->List V->Hp->Prop,(∃m,W 0 m [] H)/\∀i m ys H,W i m ys H-> ((mF a o kvs).stop i H/\Fin ys H)\/((mF a o kvs).go i H/\ys.length<sizeLine/\∃Nx:List V->Hp->Prop,(∀cF H',Nx cF H'->∃m',m'<m/\W (i+1) m' cF H')/\∀x H',(mF a o kvs).gc i H x H'->G x H' Nx ys):=by
 show⟨λi m ys H=>m=kvs.length-i/\i<=kvs.length/\Pv i ys H,⟨kvs.length,θ,a2u _,h0⟩,?_⟩;rintro i m ys H ⟨rfl,hi,p⟩;have q:=hl i ys H hi p;by_cases aL:i<kvs.length
 .have a1:=hs i kvs[i].1 kvs[i].2 ys H (by simp[aL]) p;show .inr ⟨⟨q,aL⟩,a1.1,Pv _,λcF H' p'=>⟨kvs.length-(i+1),Z,μ,aL,p'⟩,λx H' y=>?_⟩;obtain⟨e,k,v,hk,rfl⟩:=y;subst e;show(hs i k v ys _ hk p).2
 .have e:i=kvs.length:=by lia
  subst e;show .inl ⟨⟨q,a1M _⟩,hd ys H p⟩
end L2
namespace Srt
open PySem PyProof.Rows
structure Ok(a₀:Array Keyed)(p:Array (Nat×Nat×Nat))(st:SortSt):Prop where
 perm:(arrOf st).Perm a₀
 kind:kindOf st=oneType'
 failed:failedOf st=none
 pend:pendingOf st=p
abbrev tQ(x:Keyed):Prop:=∃n t,x.1=.int n t
section
variable{a₀:Array Keyed}{st:SortSt}
theorem Ok.size(h:Ok a₀ p st):(arrOf st).size=a₀.size:=h.perm.size_eq
def Ok.set(h:Ok a₀ p st)(hp:xs.Perm (arrOf st)):Ok a₀ p (setArr st xs):=⟨hp.trans h.perm,h.kind,h.failed,h.pend⟩
def Ok.keys(h:Ok a₀ p st)(h0:IntKeys a₀):IntKeys (arrOf st):=λx hx=>h0 x<|(a3V.mp h.perm).mem_iff.mp hx
def gp{xs:Array Keyed}(h:IntKeys xs)(hi:i<xs.size):tQ xs[i]:=h _ θ
def tR(hk:kindOf st=oneType')(hx:tQ x)(hy:tQ y)(h:∀r,Q (some r) st):wpS (model prog w) A E s (lt' x y) Q st:=by
 obtain⟨a,t,hx⟩:=hx;obtain⟨b,u,hy⟩:=hy;rw[lt'_eq];show wpS_bind<|wpS_get ?_;rw[hk,keyLt'_oneType,hx,hy];show wpS_bind<|wpS_lift<|wpAny_attempt<|oneLt_int ⟨μ,(wpS_pure (h _))⟩
def y_(hi:i<iO.size)(h:Q iO[i] st):wpS (model prog w) A E s (elem' iO i) Q st:=by
 rw[elem'_eq,getElem?_pos iO i hi];show wpS_pure h
def jo(ok:Ok a₀ p st)(h0:IntKeys a₀)(hi:i<a₀.size)(hj:j<a₀.size)(h:∀r,Q (some r) st):wpS (model prog w) A E s (ltAt' i j) Q st:=by
 show wpS_bind<|wpS_get ?_;have sz:=ok.size;have hk:=ok.keys h0;show wpS_bind<|y_ (by lia)<|wpS_bind<|y_ (by lia)<|tR ok.kind (gp hk _) (gp hk _) h
def lf(ok:Ok a₀ p st)(h:∀aq,Ok a₀ p aq->Q () aq):wpS (model prog w) A E s (reverseSlice' i j) Q st:=by show wpS_modify<|h _<|ok.set<|mirror_perm _ _ _ _
def U3(ok:Ok a₀ p st)(h:∀aq,Ok a₀ p aq->Q () aq):wpS (model prog w) A E s (moveDown' i j) Q st:=by show wpS_modify<|h _<|ok.set<|bubble_perm _ _ _
def U4{lo ij:Nat}(h0:IntKeys a₀)(hn:lo+ij<=a₀.size)(h1:1<=ij)(ok:Ok a₀ p st) (h:∀m aq,Ok a₀ p aq->1<=m->m<=ij->Q (some m) aq):wpS (model prog w) A E s (countRun' lo ij) Q st:=by
 rw[countRun'_eq];show wpS_bind (wpS_mono (wpS_forRange (I:=λx c aq=>c=(none,x)/\Ok a₀ p aq) (Q:=λc aq=>∃n,c=(none,n)/\1<=n/\n<=ij/\Ok a₀ p aq) ?step ?fin ⟨μ,ok⟩) ?post)
 case step =>
  rintro x c aq dS fz ⟨rfl,aQ⟩;show wpS_bind (jo aQ h0 Z Z λr=>?_)
  cases r with
  | true=>show wpS_pure ⟨x,μ,dS,Z,aQ⟩
  | false=>show wpS_pure ⟨μ,aQ⟩
 case fin =>
  rintro c aq ⟨rfl,aQ⟩;show⟨max 1 ij,μ,Z,Z,aQ⟩
 case post =>
  rintro c aq ⟨n,rfl,jM,gh,aQ⟩;try dsimp only
  by_cases JN:n=ij
  .rw[if_pos (by simpa using JN)];show wpS_pure (h n _ aQ jM gh)
  .rw[if_neg (by simpa using JN)];by_cases mG:n>1
   .rw[if_pos mG];show wpS_bind (jo aQ h0 Z Z λr=>?_)
    cases r with
    | true=>show wpS_pure (h n _ aQ jM gh)
    | false =>
     try dsimp only
     rw[if_neg a1Y];show wpS_bind (lf aQ λoN bB=>(wpS_bind (wpS_lift (wpAny_rule ⟨μ,?_⟩))));show wpS_bind (wpS_mono (wpS_forRange (I:=λx c aq=>(∃q,c=(none,x,q))/\Ok a₀ p aq) (Q:=λc aq=>∃m q,c=(none,m,q)/\1<=m/\m<=ij/\Ok a₀ p aq) ?_ ?_ ⟨⟨0,μ⟩,bB⟩) ?_)
     .rintro x c aq dS fz ⟨⟨q,rfl⟩,aQ⟩;try dsimp only
      show wpS_bind (jo aQ h0 Z Z λr=>?_)
      cases r with
      | true =>
       try dsimp only
       by_cases hq:q>0
       .rw[if_pos μ,if_pos hq];show wpS_bind (lf aQ λbn a9=>wpS_pure ⟨⟨0,μ⟩,a9⟩)
       .rw[if_pos μ,if_neg hq];show wpS_pure ⟨⟨0,μ⟩,aQ⟩
      | false =>
       try dsimp only
       rw[if_neg a1Y];show wpS_bind (jo aQ h0 Z Z λr=>?_)
       cases r with
       | true=>show wpS_pure ⟨x,q,μ,Z,Z,aQ⟩
       | false=>show wpS_pure ⟨⟨q+1,μ⟩,aQ⟩
     .rintro c aq ⟨⟨q,rfl⟩,aQ⟩;show⟨_,q,μ,Z,Z,aQ⟩
     .rintro c aq ⟨m,q,rfl,jK,gL,a9⟩;try dsimp only
      by_cases hq:q>0
      .rw[if_pos hq];show wpS_bind (lf a9 λbS bw=>(wpS_bind (lf bw λCD oO=>?_)));show wpS_bind (wpS_mono (wpS_forRange (I:=λx c aq=>c=(none,x)/\Ok a₀ p aq) (Q:=λc aq=>∃n,c=(none,n)/\1<=n/\n<=ij/\Ok a₀ p aq) ?_ ?_ ⟨μ,oO⟩) ?_)
       .rintro x c aq dS fz ⟨rfl,aQ⟩;show wpS_bind (jo aQ h0 Z Z λr=>?_)
        cases r with
        | true=>show wpS_pure ⟨x,μ,Z,Z,aQ⟩
        | false=>show wpS_pure ⟨μ,aQ⟩
       .rintro c aq ⟨rfl,aQ⟩;show⟨_,μ,Z,Z,aQ⟩
       .rintro c aq ⟨n,rfl,jM,gh,aQ⟩;show wpS_pure (h n _ aQ jM gh)
      .rw[if_neg hq];show wpS_bind (lf a9 λCD oO=>(wpS_bind (wpS_mono (wpS_forRange (I:=λx c aq=>c=(none,x)/\Ok a₀ p aq) (Q:=λc aq=>∃n,c=(none,n)/\1<=n/\n<=ij/\Ok a₀ p aq) ?_ ?_ ⟨μ,oO⟩) ?_)))
       .rintro x c aq dS fz ⟨rfl,aQ⟩;show wpS_bind (jo aQ h0 Z Z λr=>?_)
        cases r with
        | true=>show wpS_pure ⟨x,μ,Z,Z,aQ⟩
        | false=>show wpS_pure ⟨μ,aQ⟩
       .rintro c aq ⟨rfl,aQ⟩;show⟨_,μ,Z,Z,aQ⟩
       .rintro c aq ⟨n,rfl,jM,gh,aQ⟩;show wpS_pure (h n _ aQ jM gh)
   .rw[if_neg mG];show wpS_bind (wpS_lift (wpAny_rule ⟨μ,(wpS_bind (wpS_mono (wpS_forRange (I:=λx c aq=>(∃q,c=(none,x,q))/\Ok a₀ p aq) (Q:=λc aq=>∃m q,c=(none,m,q)/\1<=m/\m<=ij/\Ok a₀ p aq) ?_ ?_ ⟨⟨0,μ⟩,aQ⟩) ?_))⟩))
    .rintro x c aq dS fz ⟨⟨q,rfl⟩,aQ⟩;try dsimp only
     show wpS_bind (jo aQ h0 Z Z λr=>?_)
     cases r with
     | true =>
      try dsimp only
      by_cases hq:q>0
      .rw[if_pos μ,if_pos hq];show wpS_bind (lf aQ λbn a9=>wpS_pure ⟨⟨0,μ⟩,a9⟩)
      .rw[if_pos μ,if_neg hq];show wpS_pure ⟨⟨0,μ⟩,aQ⟩
     | false =>
      try dsimp only
      rw[if_neg a1Y];show wpS_bind (jo aQ h0 Z Z λr=>?_)
      cases r with
      | true=>show wpS_pure ⟨x,q,μ,Z,Z,aQ⟩
      | false=>show wpS_pure ⟨⟨q+1,μ⟩,aQ⟩
    .rintro c aq ⟨⟨q,rfl⟩,aQ⟩;show⟨_,q,μ,Z,Z,aQ⟩
    .rintro c aq ⟨m,q,rfl,jK,gL,a9⟩;try dsimp only
     by_cases hq:q>0
     .rw[if_pos hq];show wpS_bind (lf a9 λbS bw=>(wpS_bind (lf bw λCD oO=>?_)));show wpS_bind (wpS_mono (wpS_forRange (I:=λx c aq=>c=(none,x)/\Ok a₀ p aq) (Q:=λc aq=>∃n,c=(none,n)/\1<=n/\n<=ij/\Ok a₀ p aq) ?_ ?_ ⟨μ,oO⟩) ?_)
      .rintro x c aq dS fz ⟨rfl,aQ⟩;show wpS_bind (jo aQ h0 Z Z λr=>?_)
       cases r with
       | true=>show wpS_pure ⟨x,μ,Z,Z,aQ⟩
       | false=>show wpS_pure ⟨μ,aQ⟩
      .rintro c aq ⟨rfl,aQ⟩;show⟨_,μ,Z,Z,aQ⟩
      .rintro c aq ⟨n,rfl,jM,gh,aQ⟩;show wpS_pure (h n _ aQ jM gh)
     .rw[if_neg hq];show wpS_bind (lf a9 λCD oO=>(wpS_bind (wpS_mono (wpS_forRange (I:=λx c aq=>c=(none,x)/\Ok a₀ p aq) (Q:=λc aq=>∃n,c=(none,n)/\1<=n/\n<=ij/\Ok a₀ p aq) ?_ ?_ ⟨μ,oO⟩) ?_)))
      .rintro x c aq dS fz ⟨rfl,aQ⟩;show wpS_bind (jo aQ h0 Z Z λr=>?_)
       cases r with
       | true=>show wpS_pure ⟨x,μ,Z,Z,aQ⟩
       | false=>show wpS_pure ⟨μ,aQ⟩
      .rintro c aq ⟨rfl,aQ⟩;show⟨_,μ,Z,Z,aQ⟩
      .rintro c aq ⟨n,rfl,jM,gh,aQ⟩;show wpS_pure (h n _ aQ jM gh)
def U5{lo n ok:Nat}(h0:IntKeys a₀)(hn:lo+n<=a₀.size)(hB:Ok a₀ p st)(h:∀aq,Ok a₀ p aq->Q true aq):wpS (model prog w) A E s (binarySort' lo n ok) Q st:=by
 show wpS_bind<|wpS_mono (wpS_forRange (I:=λk c aq=>c=(none,())/\Ok _ p aq) ?step (λ_ _ z=>z) ⟨μ,hB⟩) ?post
 case post =>
  rintro c aq ⟨rfl,aQ⟩;show wpS_pure<|h _ aQ
 case step =>
  rintro k c aq tS lg ⟨rfl,aQ⟩;show wpS_bind<|wpS_mono (wpS_forRange (I:=λ_ c bn=>(∃l r,c=(none,l,r)/\r<=k)/\Ok _ p bn) ?_ (λ_ _ z=>z) ⟨⟨0,k,μ,a1M _⟩,aQ⟩) ?_
  .rintro x c bn _ _ ⟨⟨l,r,rfl,hr⟩,a9⟩;by_cases gM:l>=r
   .rw[if_pos gM];show wpS_pure ⟨⟨l,r,μ,hr⟩,a9⟩
   .rw[if_neg gM];show wpS_bind<|jo a9 h0 Z Z λless=>?_
    cases less with
    | true=>show wpS_pure ⟨⟨l,(l+r) / 2,μ,Z⟩,a9⟩
    | false=>show wpS_pure ⟨⟨(l+r) / 2+1,r,μ,hr⟩,a9⟩
  .rintro c bn ⟨⟨l,r,rfl,hr⟩,a9⟩;show wpS_bind<|U3 a9 λbS bw=>wpS_pure ⟨μ,bw⟩
end
noncomputable def JO:Bool->Keyed->Array Keyed->Nat->Nat->Nat->StateT SortSt Sem (Option Nat):=sortPriv% PySem.Builtin.gallop
section
variable{st:SortSt}
def tU{iO:Array Keyed}(hk:kindOf st=oneType')(h0:IntKeys iO)(iI:tQ aZ)(hi:i<iO.size)(h:∀r,Q (some r) st) : wpS (model prog w) A E s (elem' iO i>>=λx=>if left=true then lt' x aZ else lt' aZ x>>=λr=>pure (Option.map (λx=>!x) r)) Q st:=by
 show wpS_bind<|y_ hi ?_
 cases left with
 | true=>show tR hk (gp h0 hi) iI h
 | false=>show wpS_bind<|tR hk iI (gp h0 hi) λr=>wpS_pure<|h _
def oP{iO:Array Keyed}(hk:kindOf st=oneType')(h0:IntKeys iO)(iI:tQ aZ)(hb:base+n<=iO.size)(hh:hint<n) (h:∀k,k<=n->Q (some k) st):wpS (model prog w) A E s (JO left aZ iO base n hint) Q st:=by
 show wpS_bind (tU hk h0 iI Z λright=>?_)
 cases right with
 | true =>
  try dsimp only
  rw[if_pos μ];show wpS_bind (wpS_mono (wpS_forRange (I:=λ_ c bn=>(∃l r,c=(none,l,r))/\st=bn) ?_ (λ_ _ z=>z) ⟨⟨_,_,μ⟩,μ⟩) ?_)
  .rintro x c bn _ _ ⟨⟨l,r,rfl⟩,rfl⟩;try dsimp only
   by_cases gM:r>=n-hint
   .rw[if_pos gM];show wpS_pure ⟨⟨l,r,μ⟩,μ⟩
   .rw[if_neg gM];show wpS_bind (tU hk h0 iI Z λmore=>?_)
    cases more with
    | true=>show wpS_pure ⟨⟨_,_,μ⟩,μ⟩
    | false=>show wpS_pure ⟨⟨_,_,μ⟩,μ⟩
  .rintro c bn ⟨⟨l,r,rfl⟩,rfl⟩;show wpS_bind (wpS_mono (wpS_forRange (I:=λ_ c bn=>(∃l r,c=(none,l,r)/\r<=n)/\st=bn) ?_ (λ_ _ z=>z) ⟨⟨_,_,μ,Z⟩,μ⟩) ?_)
   .rintro x c bn _ _ ⟨⟨l,r,rfl,hr⟩,rfl⟩;try dsimp only
    by_cases gM:l>=r
    .rw[if_pos gM];show wpS_pure ⟨⟨l,r,μ,hr⟩,μ⟩
    .rw[if_neg gM];show wpS_bind (tU hk h0 iI Z λmore=>?_)
     cases more with
     | true=>show wpS_pure ⟨⟨l+(r-l) / 2+1,r,μ,hr⟩,μ⟩
     | false=>show wpS_pure ⟨⟨l,l+(r-l) / 2,μ,Z⟩,μ⟩
   .rintro c bn ⟨⟨l,r,rfl,hr⟩,rfl⟩;show wpS_pure (h _ hr)
 | false =>
  try dsimp only
  rw[if_neg a1Y];show wpS_bind (wpS_mono (wpS_forRange (I:=λ_ c bn=>(∃l r,c=(none,l,r))/\st=bn) ?_ (λ_ _ z=>z) ⟨⟨_,_,μ⟩,μ⟩) ?_)
  .rintro x c bn _ _ ⟨⟨l,r,rfl⟩,rfl⟩;try dsimp only
   by_cases gM:r>=hint+1
   .rw[if_pos gM];show wpS_pure ⟨⟨l,r,μ⟩,μ⟩
   .rw[if_neg gM];show wpS_bind (tU hk h0 iI Z λmore=>?_)
    cases more with
    | true=>show wpS_pure ⟨⟨_,_,μ⟩,μ⟩
    | false=>show wpS_pure ⟨⟨_,_,μ⟩,μ⟩
  .rintro c bn ⟨⟨l,r,rfl⟩,rfl⟩;show wpS_bind (wpS_mono (wpS_forRange (I:=λ_ c bn=>(∃l r,c=(none,l,r)/\r<=n)/\st=bn) ?_ (λ_ _ z=>z) ⟨⟨_,_,μ,Z⟩,μ⟩) ?_)
   .rintro x c bn _ _ ⟨⟨l,r,rfl,hr⟩,rfl⟩;try dsimp only
    by_cases gM:l>=r
    .rw[if_pos gM];show wpS_pure ⟨⟨l,r,μ,hr⟩,μ⟩
    .rw[if_neg gM];show wpS_bind (tU hk h0 iI Z λmore=>?_)
     cases more with
     | true=>show wpS_pure ⟨⟨l+(r-l) / 2+1,r,μ,hr⟩,μ⟩
     | false=>show wpS_pure ⟨⟨l,l+(r-l) / 2,μ,Z⟩,μ⟩
   .rintro c bn ⟨⟨l,r,rfl,hr⟩,rfl⟩;show wpS_pure (h _ hr)
end
def xF{α:Type}{o A B X:List α}(h:o.Perm (A++B)):(o++X).Perm ((A++X)++B):=by
 show(h.append_right X).trans ?_;rw[a2A,a2A];show a3C.append_left A
def xG{α:Type}{o A B X:List α}(h:o.Perm (A++B)):(o++X).Perm (A++(B++X)):=by
 rw[<-a2A];show h.append_right X
abbrev bu(a b:Array Keyed)(o:Array Keyed)(i j:Nat):Prop:=o.toList.Perm (a.toList.take i++b.toList.take j)
def oQ(a:Array Keyed)(i k:Nat):(a.extract i (i+k)).toList=(a.toList.drop i).take k:=by simp
def xI(a:Array Keyed)(i:Nat):(a.extract i a.size).toList=a.toList.drop i:=by
 rw[Array.toList_extract,a4V];show a2t<|by simp
def bu.dU(h:bu a b o i j)(hi:i<a.size):bu a b (o.push a[i]) (i+1) j:=by
 unfold bu at h⊢;rw[a3g,a1P,show a.toList[i]?=some a[i] by simp[hi]];show xF h
def bu.cV(h:bu a b o i j)(hj:j<b.size):bu a b (o.push b[j]) i (j+1):=by
 unfold bu at h⊢;rw[a3g,a1P,show b.toList[j]?=some b[j] by simp[hj]];show xG h
def bu.iP(h:bu a b o i j)(k:Nat):bu a b (o++a.extract i (i+k)) (i+k) j:=by
 unfold bu at h⊢;rw[a2B,oQ,List.take_add];show xF h
def bu.jN(h:bu a b o i j)(k:Nat):bu a b (o++b.extract j (j+k)) i (j+k):=by
 unfold bu at h⊢;rw[a2B,oQ,List.take_add];show xG h
def bu.done(h:bu a b o i j):(o++a.extract i a.size++b.extract j b.size).toList.Perm (a.toList++b.toList):=by
 rw[a2B,a2B,xI,xI];have:=xG (X:=b.toList.drop j) (xF (X:=a.toList.drop i) h);rwa [a2r,a2r] at this
def bu.last(h:bu a b o i j):(o++b.extract j b.size++a.extract i a.size).toList.Perm (a.toList++b.toList):=by
 rw[a2B,a2B,xI,xI];have:=xF (X:=a.toList.drop i) (xG (X:=b.toList.drop j) h);rwa [a2r,a2r] at this
noncomputable def JP:Nat->StateT SortSt Sem Unit:=sortPriv% PySem.Builtin.setMinGallop
noncomputable def JQ:Array Keyed->Array Keyed->StateT SortSt Sem (Array Keyed):=sortPriv% PySem.Builtin.mergeLo
abbrev dz(a₀:Array Keyed)(p:Array (Nat×Nat×Nat))(x:Array Keyed)(st:SortSt):Prop:=Ok a₀ p st/\arrOf st=x
section
variable{prog:Program}{w:World}{A:Around}{E:Value->Shared->Prop}{s:Shared}{st:SortSt}{a₀ di:Array Keyed}{p:Array (Nat×Nat×Nat)}
def xJ(ok:dz a₀ p di st)(h:∀aq,dz a₀ p di aq->Q () aq):wpS (model prog w) A E s (JP g) Q st:=by show wpS_modify<|h _ ⟨⟨ok.1.perm,ok.1.kind,ok.1.failed,ok.1.pend⟩,ok.2⟩
abbrev tV(a b:Array Keyed)(m:Nat)(o:Array Keyed)(i j:Nat):Prop:=bu a b o i j/\i+1<a.size/\j<b.size/\m<=i+j
def U6{a b:Nat}(h:¬ a=b):¬ (a==b)=true:=by simp_all
def W_{x y:Nat}{Q:α->SortSt->Prop}(h1:x=y->wpS (model prog w) A E s a Q st)(h2:¬ x=y->wpS (model prog w) A E s b Q st):wpS (model prog w) A E s (if (x==y)=true then a else b) Q st:=by
 by_cases h:x=y;.rw[if_pos (beq_iff_eq.mpr h)];show h1 h
 .rw[if_neg (U6 h)];show h2 h
def oR{α:Type}{c:Prop}[Decidable c]{a b:StateT SortSt Sem α}{Q:α->SortSt->Prop}(h1:c->wpS (model prog w) A E s a Q st)(h2:¬ c->wpS (model prog w) A E s b Q st):wpS (model prog w) A E s (if c then a else b) Q st:=by
 by_cases h:c;.rw[if_pos h];show h1 h
 .rw[if_neg h];show h2 h
def JR{T:Nat->Prop}{G:Prop}(aZ:∀g',T g')(main:(∀g',T g')->G):G:=main aZ
def JS{T:Array Keyed->Nat->Nat->Prop}{G:Prop}(P:Array Keyed->Nat->Prop)(aZ:∀o i k,P o i->T o i k)(main:(∀o i k,P o i->T o i k)->G):G:=main aZ
def U7{a b:Array Keyed}(ok:dz a₀ p di st)(ha:IntKeys a)(hb:IntKeys b)(U8:1<=a.size)(tW:1<=b.size) (h:∀o aq,dz a₀ p di aq->o.toList.Perm (a.toList++b.toList)->Q o aq):wpS (model prog w) A E s (JQ a b) Q st:=by
 show wpS_bind (wpS_lift (wpAny_rule ⟨μ,(wpS_bind (y_ Z ?_))⟩))
 have o1:bu a b #[b[0]] 0 1:=by
  have:bu a b #[] 0 0:=by simp[bu]
  show this.cV Z
 show W_ (λh1=>wpS_pure (h _ _ ok o1.done)) (λh1=>?_);show W_ (λh2=>wpS_pure (h _ _ ok o1.last)) (λh2=>(wpS_bind (wpS_get ?_)));show wpS_bind (wpS_mono (wpS_forRange (I:=λm c aq=>∃o i j g,c=(none,o,i,j,g)/\tV a b m o i j/\dz a₀ p di aq) (Q:=λc aq=>∃r rest,c=(some r,rest)/\r.toList.Perm (a.toList++b.toList)/\dz a₀ p di aq) ?step ?fin ⟨_,_,_,_,μ,⟨o1,Z,Z,Z⟩,ok⟩) ?post)
 case fin =>
  rintro c aq ⟨o,i,j,g,rfl,⟨_,h3,h4,h5⟩,_⟩;lia
 case post =>
  rintro c aq ⟨r,rest,rfl,hp,aQ⟩;show wpS_pure (h _ _ aQ hp)
 case step =>
  rintro m c aq _ hm ⟨o,i,j,g,rfl,on,aQ⟩;show wpS_bind (wpS_mono (wpS_forRange (I:=λy c bn=>∃o i j ac bc,c=(none,o,i,j,ac,bc)/\tV a b (m+y) o i j/\dz a₀ p di bn) (Q:=λc bn=>(∃o i j ac bc,c=(none,o,i,j,ac,bc)/\tV a b (m+1) o i j/\dz a₀ p di bn)\/∃r rest,c=(some r,rest)/\r.toList.Perm (a.toList++b.toList)/\dz a₀ p di bn) ?step1 ?fin1 ⟨_,_,_,_,_,μ,on,aQ⟩) ?post1)
  case fin1 =>
   rintro c bn ⟨o,i,j,ac,bc,rfl,⟨q1,q2,q3,q4⟩,a9⟩;show .inl ⟨_,_,_,_,_,μ,⟨q1,q2,q3,Z⟩,a9⟩
  case step1 =>
   rintro y c bn _ hy ⟨o,i,j,ac,bc,rfl,⟨q1,q2,q3,q4⟩,a9⟩;try dsimp only
   show wpS_bind (y_ Z (wpS_bind (y_ Z (wpS_bind (tR a9.1.kind (gp hb _) (gp ha _) λr=>?_)))))
   cases r with
   | true =>
    try dsimp only
    rw[if_pos μ];show wpS_bind (y_ Z (W_ (λhz=>wpS_pure (.inr ⟨_,_,μ,(q1.cV Z).done,a9⟩)) (λhz=>?_)));split;.show wpS_pure (.inl ⟨_,_,_,_,_,μ,⟨q1.cV Z,Z,Z,Z⟩,a9⟩)
    .show wpS_pure ⟨_,_,_,_,_,μ,⟨q1.cV Z,Z,Z,Z⟩,a9⟩
   | false =>
    try dsimp only
    rw[if_neg a1Y];show wpS_bind (y_ Z (W_ (λhz=>wpS_pure (.inr ⟨_,_,μ,(q1.dU Z).last,a9⟩)) (λhz=>?_)));split;.show wpS_pure (.inl ⟨_,_,_,_,_,μ,⟨q1.dU Z,Z,Z,Z⟩,a9⟩)
    .show wpS_pure ⟨_,_,_,_,_,μ,⟨q1.dU Z,Z,Z,Z⟩,a9⟩
  case post1 =>
   rintro c bn (⟨o,i,j,ac,bc,rfl,on2,a9⟩ | ⟨r,rest,rfl,hp,a9⟩)
   .dsimp only;show wpS_bind (wpS_lift (wpAny_rule ⟨μ,(wpS_bind (wpS_mono (wpS_forRange (I:=λ_ c bS=>∃o i j g ac bc,c=(none,o,i,j,g,ac,bc)/\tV a b (m+1) o i j/\dz a₀ p di bS) (Q:=λc bS=>(∃o i j g ac bc,c=(none,o,i,j,g,ac,bc)/\tV a b (m+1) o i j/\dz a₀ p di bS)\/∃r rest,c=(some r,rest)/\r.toList.Perm (a.toList++b.toList)/\dz a₀ p di bS) ?step2 (λ_ _ z=>.inl z) ⟨_,_,_,_,_,_,μ,on2,a9⟩) ?post2))⟩))
    case post2 =>
     rintro c bS (⟨o,i,j,g,ac,bc,rfl,on3,bw⟩ | ⟨r,⟨o,i,j,g,ac,bc⟩,rfl,hp,bw⟩)
     .dsimp only;show wpS_bind (xJ bw λoN bB=>wpS_pure ⟨_,_,_,_,μ,on3,bB⟩)
     .show wpS_pure ⟨_,_,μ,hp,bw⟩
    case step2 =>
     rintro y c bS _ _ ⟨o,i,j,g,ac,bc,rfl,⟨q1,q2,q3,q4⟩,bw⟩;try dsimp only
     show JR (T:=?T1) ?key1 ?main1
     case main1 =>
      show λaZ=>oR (λhg=>?_) (λhg=>?_)
      .generalize g-1=g';show aZ g'
      .with_reducible show aZ g
     case key1 =>
      show λg'=>wpS_bind (xJ bw λoN bB=>?_);show wpS_bind (y_ Z (wpS_bind (oP bB.1.kind ha (gp hb _) Z Z λk hk=>?_)));show oR (λxK=>?_) (λxK=>?_)
      .skip;show W_ (λhz=>wpS_pure (.inr ⟨_,_,μ,(q1.iP k).last,bB⟩)) (λhz=>(W_ (λoS=>wpS_pure (.inr ⟨_,_,μ,(q1.iP k).done,bB⟩)) (λoS=>?_)));show wpS_bind (y_ Z (W_ (λhy=>wpS_pure (.inr ⟨_,_,μ,(bu.cV (q1.iP k) Z).done,bB⟩)) (λhy=>?_)));show wpS_bind (y_ Z (wpS_bind (oP bB.1.kind hb (gp ha _) Z Z λk1 tS=>?_)));show oR (λlg=>?_) (λlg=>?_)
       .skip;show W_ (λqJ=>wpS_pure (.inr ⟨_,_,μ,((bu.cV (q1.iP k) Z).jN k1).done,bB⟩)) (λqJ=>(wpS_bind (y_ Z ?_)));split;.show wpS_pure (.inr ⟨_,_,μ,(bu.dU ((bu.cV (q1.iP k) Z).jN k1) Z).last,bB⟩)
        .split;.show wpS_pure (.inl ⟨_,_,_,_,_,_,μ,⟨bu.dU ((bu.cV (q1.iP k) Z).jN k1) Z,Z,Z,Z⟩,bB⟩)
         .show wpS_pure ⟨_,_,_,_,_,_,μ,⟨bu.dU ((bu.cV (q1.iP k) Z).jN k1) Z,Z,Z,Z⟩,bB⟩
       .skip;show wpS_bind (y_ Z ?_);split;.show wpS_pure (.inr ⟨_,_,μ,(bu.dU (bu.cV (q1.iP k) Z) Z).last,bB⟩)
        .split;.show wpS_pure (.inl ⟨_,_,_,_,_,_,μ,⟨bu.dU (bu.cV (q1.iP k) Z) Z,Z,Z,Z⟩,bB⟩)
         .show wpS_pure ⟨_,_,_,_,_,_,μ,⟨bu.dU (bu.cV (q1.iP k) Z) Z,Z,Z,Z⟩,bB⟩
      .skip;show wpS_bind (y_ Z ?_);show W_ (λhy=>wpS_pure (.inr ⟨_,_,μ,(bu.cV q1 Z).done,bB⟩)) (λhy=>(wpS_bind (y_ Z ?_)));show wpS_bind (oP bB.1.kind hb (gp ha _) Z Z λk1 tS=>(oR (λlg=>?_) (λlg=>?_)))
       .skip;show W_ (λqJ=>wpS_pure (.inr ⟨_,_,μ,((bu.cV q1 Z).jN k1).done,bB⟩)) (λqJ=>(wpS_bind (y_ Z ?_)));split;.show wpS_pure (.inr ⟨_,_,μ,(bu.dU ((bu.cV q1 Z).jN k1) Z).last,bB⟩)
        .split;.show wpS_pure (.inl ⟨_,_,_,_,_,_,μ,⟨bu.dU ((bu.cV q1 Z).jN k1) Z,Z,Z,Z⟩,bB⟩)
         .show wpS_pure ⟨_,_,_,_,_,_,μ,⟨bu.dU ((bu.cV q1 Z).jN k1) Z,Z,Z,Z⟩,bB⟩
       .skip;show wpS_bind (y_ Z ?_);split;.show wpS_pure (.inr ⟨_,_,μ,(bu.dU (bu.cV q1 Z) Z).last,bB⟩)
        .split;.show wpS_pure (.inl ⟨_,_,_,_,_,_,μ,⟨bu.dU (bu.cV q1 Z) Z,Z,Z,Z⟩,bB⟩)
         .show wpS_pure ⟨_,_,_,_,_,_,μ,⟨bu.dU (bu.cV q1 Z) Z,Z,Z,Z⟩,bB⟩
   .obtain⟨o,i,j,ac,bc⟩:=rest;show wpS_pure ⟨_,_,μ,hp,a9⟩
end
noncomputable def JT:Array Keyed->Array Keyed->StateT SortSt Sem (Array Keyed):=sortPriv% PySem.Builtin.mergeHi
abbrev Behind(a b:Array Keyed)(o:Array Keyed)(i j:Nat):Prop:=o.toList.Perm (a.toList.drop i++b.toList.drop j)
def JU{α:Type}{o A B X:List α}(h:o.Perm (A++B)):(o++X).Perm ((X++A)++B):=by
 show a3C.trans ?_;rw[a2A];show h.append_left X
def JV{α:Type}{o A B X:List α}(h:o.Perm (A++B)):(o++X).Perm (A++(X++B)):=by
 show(h.append_right X).trans ?_;rw[a2A];show a3C.append_left A
def JW(a:Array Keyed)(h:k<=i):a.toList.drop k=(a.extract k i).toList++a.toList.drop i:=by
 obtain⟨d,rfl⟩:∃d,i=k+d:=⟨i-k,Z⟩;rw[oQ,<-a3M,a2r]
def xL(a:Array Keyed)(i:Nat):(a.extract 0 i).toList=a.toList.take i:=by simp
def JX(a:Array Keyed)(h0:1<=i)(hi:i<=a.size):a.toList.drop (i-1)=a[i-1]::a.toList.drop i:=by
 rw[a3D (by simp;omega),show i-1+1=i by lia];simp
def Behind.dU(h:Behind a b o i j)(h0:1<=i)(hi:i<=a.size):Behind a b (o.push a[i-1]) (i-1) j:=by
 unfold Behind at h⊢;rw[a3g,JX a h0 hi];show JU h
def Behind.cV(h:Behind a b o i j)(h0:1<=j)(hj:j<=b.size):Behind a b (o.push b[j-1]) i (j-1):=by
 unfold Behind at h⊢;rw[a3g,JX b h0 hj];show JV h
def Behind.iP(h:Behind a b o i j)(hk:k<=i):Behind a b (o++(a.extract k i).reverse) k j:=by
 unfold Behind at h⊢;rw[a2B,a3W,JW a hk];show((a4w _).append_left _).trans<|JU h
def Behind.jN(h:Behind a b o i j)(hk:k<=j):Behind a b (o++(b.extract k j).reverse) i k:=by
 unfold Behind at h⊢;rw[a2B,a3W,JW b hk];show((a4w _).append_left _).trans<|JV h
def JY{α:Type}(A B:List α){o:List α}(h:o.Perm (A.drop i++B.drop j)):(A.take i++B.take j++o).Perm (A++B):=by
 show(h.append_left _).trans ?_
 have:(A.take i++B.take j++(A.drop i++B.drop j)).Perm ((A.take i++A.drop i)++(B.take j++B.drop j)):=by
  rw[a2A,a2A];show List.Perm.append_left _ ?_;rw[<-a2A,<-a2A];show a3C.append_right _
 rwa [a2r,a2r] at this
def Behind.done(h:Behind a b o i j):(a.extract 0 i++b.extract 0 j++o.reverse).toList.Perm (a.toList++b.toList):=by
 rw[a2B,a2B,xL,xL,a3W];show JY _ _<|(a4w _).trans h
def Behind.first(h:Behind a b o i j):(b.extract 0 j++a.extract 0 i++o.reverse).toList.Perm (a.toList++b.toList):=by
 rw[a2B,a2B,xL,xL,a3W];show(a3C.append_right _).trans<|JY _ _<|(a4w _).trans h
section
variable{st:SortSt}
abbrev qK(a b:Array Keyed)(m:Nat)(o:Array Keyed)(i j:Nat):Prop:=Behind a b o i j/\(1<=i/\i<=a.size)/\(2<=j/\j<=b.size)/\m+i+j<=a.size+b.size
def U9{a b:Array Keyed}(ok:dz a₀ p di st)(ha:IntKeys a)(hb:IntKeys b)(U8:1<=a.size)(tW:1<=b.size) (h:∀o aq,dz a₀ p di aq->o.toList.Perm (a.toList++b.toList)->Q o aq):wpS (model prog w) A E s (JT a b) Q st:=by
 change wpS _ _ _ _ (_>>=_) _ _;show wpS_bind (wpS_lift (wpAny_rule ⟨μ,(wpS_bind (y_ Z ?_))⟩))
 have o1:Behind a b #[a[a.size-1]] (a.size-1) b.size:=by
  have:Behind a b #[] a.size b.size:=by simp[Behind]
  show this.dU Z Z
 show W_ (λh1=>wpS_pure (h _ _ ok o1.done)) (λh1=>?_);show W_ (λh2=>wpS_pure (h _ _ ok o1.first)) (λh2=>(wpS_bind (wpS_get ?_)));show wpS_bind (wpS_mono (wpS_forRange (I:=λm c aq=>∃i j o g,c=(none,i,j,o,g)/\qK a b m o i j/\dz a₀ p di aq) (Q:=λc aq=>∃r rest,c=(some r,rest)/\r.toList.Perm (a.toList++b.toList)/\dz a₀ p di aq) ?step ?fin ⟨_,_,_,_,μ,⟨o1,Z,Z,Z⟩,ok⟩) ?post)
 case fin =>
  rintro c aq ⟨i,j,o,g,rfl,⟨_,h3,h4,h5⟩,_⟩;omega
 case post =>
  rintro c aq ⟨r,rest,rfl,hp,aQ⟩;show wpS_pure (h _ _ aQ hp)
 case step =>
  rintro m c aq _ hm ⟨i,j,o,g,rfl,on,aQ⟩;show wpS_bind (wpS_mono (wpS_forRange (I:=λy c bn=>∃i j o ac bc,c=(none,i,j,o,ac,bc)/\qK a b (m+y) o i j/\dz a₀ p di bn) (Q:=λc bn=>(∃i j o ac bc,c=(none,i,j,o,ac,bc)/\qK a b (m+1) o i j/\dz a₀ p di bn)\/∃r rest,c=(some r,rest)/\r.toList.Perm (a.toList++b.toList)/\dz a₀ p di bn) ?step1 ?fin1 ⟨_,_,_,_,_,μ,on,aQ⟩) ?post1)
  case fin1 =>
   rintro c bn ⟨i,j,o,ac,bc,rfl,⟨q1,q2,q3,q4⟩,a9⟩;show .inl ⟨_,_,_,_,_,μ,⟨q1,q2,q3,Z⟩,a9⟩
  case step1 =>
   rintro y c bn _ hy ⟨i,j,o,ac,bc,rfl,⟨q1,q2,q3,q4⟩,a9⟩;try dsimp only
   show wpS_bind (y_ Z (wpS_bind (y_ Z (wpS_bind (tR a9.1.kind (gp hb _) (gp ha _) λr=>?_)))))
   cases r with
   | true =>
    try dsimp only
    rw[if_pos μ];show wpS_bind (y_ Z (W_ (λhz=>wpS_pure (.inr ⟨_,_,μ,(q1.dU Z Z).done,a9⟩)) (λhz=>?_)));split;.show wpS_pure (.inl ⟨_,_,_,_,_,μ,⟨q1.dU Z Z,Z,Z,Z⟩,a9⟩)
    .show wpS_pure ⟨_,_,_,_,_,μ,⟨q1.dU Z Z,Z,Z,Z⟩,a9⟩
   | false =>
    try dsimp only
    rw[if_neg a1Y];show wpS_bind (y_ Z (W_ (λhz=>wpS_pure (.inr ⟨_,_,μ,(q1.cV Z Z).first,a9⟩)) (λhz=>?_)));split;.show wpS_pure (.inl ⟨_,_,_,_,_,μ,⟨q1.cV Z Z,Z,Z,Z⟩,a9⟩)
    .show wpS_pure ⟨_,_,_,_,_,μ,⟨q1.cV Z Z,Z,Z,Z⟩,a9⟩
  case post1 =>
   rintro c bn (⟨i,j,o,ac,bc,rfl,on2,a9⟩ | ⟨r,rest,rfl,hp,a9⟩)
   .dsimp only;show wpS_bind (wpS_lift (wpAny_rule ⟨μ,(wpS_bind (wpS_mono (wpS_forRange (I:=λ_ c bS=>∃i j o g ac bc,c=(none,i,j,o,g,ac,bc)/\qK a b (m+1) o i j/\dz a₀ p di bS) (Q:=λc bS=>(∃i j o g ac bc,c=(none,i,j,o,g,ac,bc)/\qK a b (m+1) o i j/\dz a₀ p di bS)\/∃r rest,c=(some r,rest)/\r.toList.Perm (a.toList++b.toList)/\dz a₀ p di bS) ?step2 (λ_ _ z=>.inl z) ⟨_,_,_,_,_,_,μ,on2,a9⟩) ?post2))⟩))
    case post2 =>
     rintro c bS (⟨i,j,o,g,ac,bc,rfl,on3,bw⟩ | ⟨r,⟨i,j,o,g,ac,bc⟩,rfl,hp,bw⟩)
     .dsimp only;show wpS_bind (xJ bw λoN bB=>wpS_pure ⟨_,_,_,_,μ,on3,bB⟩)
     .show wpS_pure ⟨_,_,μ,hp,bw⟩
    case step2 =>
     rintro y c bS _ _ ⟨i,j,o,g,ac,bc,rfl,⟨q1,q2,q3,q4⟩,bw⟩;try dsimp only
     show JR (T:=?T1) ?key1 ?main1
     case main1 =>
      show λaZ=>oR (λhg=>?_) (λhg=>?_)
      .generalize g-1=g';show aZ g'
      .with_reducible show aZ g
     case key1 =>
      show λg'=>wpS_bind (xJ bw λoN bB=>?_);show wpS_bind (y_ Z (wpS_bind (oP bB.1.kind ha (gp hb _) Z Z λk hk=>?_)));show JS (T:=?T2) (λo2 i2=>Behind a b o2 i2 j/\1<=i2/\i2<=a.size/\m+1+i2+j<=a.size+b.size) ?key2 ?main2
      case main2 =>
       show λaZ=>oR (λxK=>?_) (λxK=>?_)
       .skip;have x1:Behind a b (o++(a.extract k i).reverse) k j:=Behind.iP q1 Z;show W_ (λhz=>wpS_pure (.inr ⟨_,_,μ,x1.done,bB⟩)) (λhz=>?_);have pk:1<=k/\k<=a.size/\m+1+k+j<=a.size+b.size:=by lia
        clear hz xK;generalize o++(a.extract k i).reverse=o2 at x1⊢;generalize i-k=ka;generalize k=i2 at x1 pk⊢;show aZ o2 i2 ka ⟨x1,pk⟩
       .with_reducible show aZ o i (i-k) ⟨q1,q2.1,q2.2,q4⟩
      case key2 =>
       rintro o2 i2 ka ⟨r1,r2,CF,U'⟩;clear q1 q2 q4 hk;show wpS_bind (y_ Z ?_);have y1:=r1.cV Z q3.2;show W_ (λhy=>wpS_pure (.inr ⟨_,_,μ,y1.first,bB⟩)) (λhy=>?_);have JZ:2<=j-1/\j-1<=b.size/\m+1+i2+(j-1)<=a.size+b.size:=by lia
       generalize o2.push b[j-1]=o3 at y1⊢;clear r1 hy U' q3;generalize j-1=j2 at y1 JZ⊢;show wpS_bind (y_ Z ?_);show wpS_bind (oP bB.1.kind hb (gp ha _) Z Z λk1 tS=>(JS (T:=?T3) (λo5 j5=>Behind a b o5 i2 j5/\2<=j5/\j5<=b.size/\m+1+i2+j5<=a.size+b.size) ?key3 ?main3))
       case main3 =>
        show λaZ=>oR (λlg=>?_) (λlg=>?_)
        .skip;have z1:=Behind.jN (k:=k1) y1 Z;show W_ (λqJ=>wpS_pure (.inr ⟨_,_,μ,z1.first,bB⟩)) (λqJ=>(W_ (λtX=>wpS_pure (.inr ⟨_,_,μ,z1.done,bB⟩)) (λtX=>?_)));have pt:2<=k1/\k1<=b.size/\m+1+i2+k1<=a.size+b.size:=by lia
         clear qJ tX lg;generalize o3++(b.extract k1 j2).reverse=o5 at z1⊢;generalize j2-k1=kb;generalize k1=j5 at z1 pt⊢;show aZ o5 j5 kb ⟨z1,pt⟩
        .with_reducible show aZ o3 j2 (j2-k1) ⟨y1,JZ⟩
       case key3 =>
        rintro o5 j5 kb ⟨t1,t2,t3,t4⟩;show wpS_bind (y_ Z ?_);have u1:=t1.dU r2 CF;show W_ (λhz=>wpS_pure (.inr ⟨_,_,μ,u1.done,bB⟩)) (λhz=>?_);have J0:qK a b (m+1) (o5.push a[i2-1]) (i2-1) j5:=⟨u1,⟨Z,Z⟩,⟨t2,t3⟩,Z⟩;split;.show wpS_pure (.inl ⟨_,_,_,_,_,_,μ,J0,bB⟩)
        .show wpS_pure ⟨_,_,_,_,_,_,μ,J0,bB⟩
   .obtain⟨i,j,o,ac,bc⟩:=rest;show wpS_pure ⟨_,_,μ,hp,a9⟩
end
def ck:List (Nat×Nat×Nat)->Nat->Nat->Prop
 | [],s,e=>s=e
 | q::r,s,e=>q.1=s/\1<=q.2.1/\ck r (s+q.2.1) e
theorem ck.le:∀ {l:List (Nat×Nat×Nat)} {s e:Nat},ck l s e->s<=e
 | [],_,_,h=>by unfold ck at h;lia
 | q::r,s,e,h=>by
  obtain⟨h1,h2,h3⟩:=h;have:=h3.le;lia
theorem ck.snoc:∀ {l:List (Nat×Nat×Nat)} {s e n g:Nat},ck l s e->1<=n->ck (l++[(e,n,g)]) s (e+n)
 | [],_,_,_,_,h,hn=>by subst h;show⟨μ,hn,μ⟩
 | q::r,s,e,n,g,h,hn=>⟨h.1,h.2.1,h.2.2.snoc hn⟩
theorem ck.two:∀ {l:List (Nat×Nat×Nat)} {s e i:Nat},ck l s e->i+1<l.length->∃a n g m g',l[i]?=some (a,n,g)/\l[i+1]?=some (a+n,m,g')/\1<=n/\1<=m/\a+n+m<=e/\ ck ((l.set i (a,n+m,g)).eraseIdx (i+1)) s e
 | [],_,_,_,_,h=>by simp at h
 | [q],_,_,i,_,h=>by simp at h
 | q::q'::r,s,e,0,h,_=>by
  obtain⟨h1,h2,h3,h4,h5⟩:=h;have:=h5.le;obtain⟨a,n,g⟩:=q;obtain⟨b,m,g'⟩:=q';simp only at h1 h2 h3 h4 h5 this;subst h1 h3;show⟨_,_,_,_,_,μ,μ,h2,h4,Z,μ,by simp only;lia,?_⟩;rw[<-a3c];show h5
 | q::q'::r,s,e,i+1,h,hi=>by
  obtain⟨a,n,g,m,g',e1,e2,h1,h2,h3,h4⟩:=h.2.2.two (i:=i) (by simp at hi⊢;lia);show⟨a,n,g,m,g',by simpa using e1,by simpa using e2,h1,h2,h3,by simpa using ⟨h.1,h.2.1,h4⟩⟩
theorem ck.mod:∀ {l:List (Nat×Nat×Nat)} {s e i g:Nat},ck l s e->ck (l.modify i λq=>(q.1,q.2.1,g)) s e
 | [],_,_,i,_,h=>by cases i <;> simpa using h
 | q::r,s,e,0,g,h=>by simpa [ck] using h
 | q::r,s,e,i+1,g,h=>by
  have:=h.2.2.mod (i:=i) (g:=g);simpa using ⟨h.1,h.2.1,this⟩
theorem J1:∀(l:List Keyed) (x:Array Keyed) (d k:Nat),d+k+l.length<=x.size-> ((l.zipIdx k).foldl (λ(y:Array Keyed) (q:Keyed×Nat)=>y.setIfInBounds (d+q.2) q.1) x).toList=x.toList.take (d+k)++l++x.toList.drop (d+k+l.length)
 | [],x,d,k,h=>by simp
 | q::l,x,d,k,h=>by
  simp only[a2s] at h;rw[a5f,a2h];have z:x.size=(x.setIfInBounds (d+k) q).size:=by simp
  have ih:=J1 l (x.setIfInBounds (d+k) q) d (k+1) (by rw[<-z];lia);rw[ih,Array.toList_setIfInBounds,List.drop_set_of_lt Z,show d+(k+1)=d+k+1 by lia,a1P,a3t (by simp;lia)];rw[List.take_set,List.set_eq_of_length_le (by rw[a2d];lia)];simp only[a2s,Option.toList_some,a2A,a4a,a4g];congr 4;lia
def Va{x o:Array Keyed}(hk:i+k<=x.size)(h:o.toList.Perm ((x.toList.drop i).take k)) : (o.toList.zipIdx.foldl (λ(y:Array Keyed) (q:Keyed×Nat)=>y.setIfInBounds (i+q.2) q.1) x).Perm x:=by
 have hl:o.toList.length=k:=by rw[h.length_eq];simp;lia
 rw[a3V,J1 _ _ _ _ (by lia)];have e:x.toList=x.toList.take i++((x.toList.drop i).take k++x.toList.drop (i+k)):=by rw[<-a3M,a2r,a2r]
 conv=>rhs;rw[e]
 rw[a3h,hl,a2A];show(h.append_right _).append_left _
section
variable{st:SortSt}{a₀ di:Array Keyed}
def Vb{st:σ}(h:Q ⟨⟩ x):wpS M A E s (set x:StateT σ Sem PUnit) Q st:=by
 unfold wpS;show wpAny_pure ⟨μ,h⟩
def J2{x:Array Keyed}(h:IntKeys x)(i k:Nat):IntKeys (x.extract i (i+k)):=λq hq=>by
 rw[oQ] at hq;show h q<|a3H<|a3G hq
def CG(h0:IntKeys a₀)(ok:Ok a₀ p st)(hc:ck p.toList 0 e)(he:e<=a₀.size)(hi:i+1<p.size) (h:∀p' aq,Ok a₀ p' aq->ck p'.toList 0 e->p'.size+1=p.size->Q true aq):wpS (model prog w) A E s (mergeAt' i) Q st:=by
 obtain⟨sa,na,g,nb,g',e1,e2,h1,h2,h3,h4⟩:=hc.two (by simpa using hi);have hsz:=ok.size;have qL:=ok.keys h0;have p1:(pendingOf st)[i]?=some (sa,na,g):=by rw[ok.pend];simpa using e1
 have p2:(pendingOf st)[i+1]?=some (sa+na,nb,g'):=by rw[ok.pend];simpa using e2
 show wpS_bind (wpS_get ?_);rw[p1,p2];show wpS_bind (Vb ?_);have jO:Ok a₀ (((pendingOf st).setIfInBounds i (sa,na+nb,g)).eraseIdxIfInBounds (i+1)) (SortSt.mk' (kindOf st) (arrOf st) (((pendingOf st).setIfInBounds i (sa,na+nb,g)).eraseIdxIfInBounds (i+1)) (gallopOf st) (failedOf st)) := ⟨ok.perm,ok.kind,ok.failed,μ⟩
 have z1:(((pendingOf st).setIfInBounds i (sa,na+nb,g)).eraseIdxIfInBounds (i+1)).toList=(p.toList.set i (sa,na+nb,g)).eraseIdx (i+1):=by
  rw[ok.pend,Array.eraseIdxIfInBounds,dif_pos (by simpa using hi)];simp
 have c1:ck (((pendingOf st).setIfInBounds i (sa,na+nb,g)).eraseIdxIfInBounds (i+1)).toList 0 e:=by rw[z1];show h4
 have n1:(((pendingOf st).setIfInBounds i (sa,na+nb,g)).eraseIdxIfInBounds (i+1)).size+1=p.size:=by
  have:=congrArg List.length z1;rw[List.length_eraseIdx_of_lt (by simpa using hi),a3E] at this;simp only[a3K] at this;lia
 show wpS_bind (y_ Z (wpS_bind (oP jO.kind qL (gp qL _) (by change _<=(arrOf st).size;lia) Z λk hk=>?_)));try dsimp only
 by_cases hz:na-k=0
 .rw[if_pos (by simpa using hz)];show wpS_pure (h _ _ jO c1 n1)
 rw[if_neg (by simpa using hz)];show wpS_bind (y_ (by change _<(arrOf st).size;lia) (wpS_bind (oP jO.kind qL (gp qL _) (by change _<=(arrOf st).size;lia) Z λm hm=>?_)));try dsimp only
 by_cases oS:m=0
 .rw[if_pos (by simpa using oS)];show wpS_pure (h _ _ jO c1 n1)
 rw[if_neg (by simpa using oS)];have ex:(arrOf st).extract (sa+k) (sa+na)=(arrOf st).extract (sa+k) (sa+k+(na-k)):=by congr 1;lia
 have kx:IntKeys ((arrOf st).extract (sa+k) (sa+na)):=by rw[ex];show J2 qL _ _
 have ky:IntKeys ((arrOf st).extract (sa+na) (sa+na+m)):=J2 qL _ _
 have xy:((arrOf st).extract (sa+k) (sa+na)).toList++((arrOf st).extract (sa+na) (sa+na+m)).toList=((arrOf st).toList.drop (sa+k)).take (na-k+m):=by
  rw[ex,oQ,oQ,List.take_add,a3M];congr 3;lia
 have fin:∀(o:Array Keyed) (aq:SortSt),dz a₀ (((pendingOf st).setIfInBounds i (sa,na+nb,g)).eraseIdxIfInBounds (i+1)) (arrOf st) aq->o.toList.Perm (((arrOf st).extract (sa+k) (sa+na)).toList++((arrOf st).extract (sa+na) (sa+na+m)).toList)->
   Ok a₀ (((pendingOf st).setIfInBounds i (sa,na+nb,g)).eraseIdxIfInBounds (i+1)) (setArr aq (o.toList.zipIdx.foldl (λ(y:Array Keyed) (q:Keyed×Nat)=>y.setIfInBounds (sa+k+q.2) q.1) (arrOf aq))):=λo aq a9 hp=>by
  show a9.1.set ?_;rw[xy] at hp;rw[a9.2];show Va Z hp
 have sx:1<=((arrOf st).extract (sa+k) (sa+na)).size:=by rw[Array.size_extract];lia
 have sy:1<=((arrOf st).extract (sa+na) (sa+na+m)).size:=by rw[Array.size_extract];lia
 by_cases gq:na-k<=m
 .rw[if_pos gq];show wpS_bind (U7 ⟨jO,μ⟩ kx ky sx sy λo aq a9 hp=>(wpS_bind (wpS_modify (wpS_bind (wpS_get (wpS_pure ?_))))));have bw:=fin o aq a9 hp;have e3:=bw.failed;have:=h _ _ bw c1 n1;rw[show(failedOf aq).isNone=true by rw[a9.1.failed];rfl];show this
 .rw[if_neg gq];show wpS_bind (U9 ⟨jO,μ⟩ kx ky sx sy λo aq a9 hp=>(wpS_bind (wpS_modify (wpS_bind (wpS_get (wpS_pure ?_))))));have bw:=fin o aq a9 hp;have:=h _ _ bw c1 n1;rw[show(failedOf aq).isNone=true by rw[a9.1.failed];rfl];show this
def Ok.J4(h:Ok a₀ p st)(p':Array (Nat×Nat×Nat)):Ok a₀ p' (setPending st p'):=⟨h.perm,h.kind,h.failed,μ⟩
def Vc(h0:IntKeys a₀)(ok:Ok a₀ #[] st)(h:∀aq,(arrOf aq).Perm a₀->failedOf aq=none->Q () aq):wpS (model prog w) A E s sortRuns' Q st:=by
 rw[sortRuns'_eq];show wpS_bind (wpS_get ?_);try dsimp only
 simp only[ok.size];show wpS_bind (wpS_mono (wpS_forRange (I:=λ_ c aq=>∃lo p,c=(none,lo)/\Ok a₀ p aq/\ck p.toList 0 lo/\lo<=a₀.size) ?step (λ_ _ z=>z) ⟨0,#[],μ,ok,μ,by omega⟩) ?post)
 case step =>
  rintro x c aq _ hx ⟨lo,p,rfl,aQ,hc,kQ⟩;try dsimp only
  by_cases hz:lo>=a₀.size
  .rw[if_pos hz];show wpS_pure ⟨lo,p,μ,aQ,hc,kQ⟩
  rw[if_neg hz];show wpS_bind (U4 h0 (by omega) (by omega) aQ λm tY a9 jK gL=>?_);try dsimp only
  by_cases J5:m<minRun' a₀.size a₀.size 0
  .rw[if_pos J5];show wpS_bind (wpS_lift (wpAny_rule ⟨μ,(wpS_bind (U5 h0 (by omega) a9 λtY bw=>?_))⟩));rw[if_neg (by decide)];show wpS_bind (wpS_get ?_)
   cases Vd:(pendingOf tY).back? with
   | none =>
    show wpS_bind (wpS_modify (wpS_pure ⟨_,_,μ,Ok.J4 bw _,?_,by omega⟩));rw[a3g,Ok.pend bw];show hc.snoc (by omega)
   | some q =>
    obtain⟨s1,n1,g1⟩:=q;show wpS_bind (wpS_mono (wpS_forRange (I:=λ_ c bS=>c=(none,())/\∃p,Ok a₀ p bS/\ck p.toList 0 lo) ?_ (λ_ _ z=>z) ⟨μ,_,bw,hc⟩) ?_)
    .rintro y c bS _ _ ⟨rfl,p3,bw,gt⟩;show wpS_bind (wpS_get ?_);rw[bw.pend];by_cases h2:p3.size>1
     .rw[if_pos h2,getElem?_pos p3 (p3.size-2) (by omega)];generalize p3[p3.size-2]=q;obtain⟨u,v,cP⟩:=q;try dsimp only
      split;.show wpS_pure ⟨μ,p3,bw,gt⟩
      .show wpS_bind (CG h0 bw gt kQ (by omega) λp4 oN bB tZ _=>wpS_pure ⟨μ,p4,bB,tZ⟩)
     .rw[if_neg h2];show wpS_pure ⟨μ,p3,bw,gt⟩
    .rintro c bS ⟨rfl,p3,bw,gt⟩;show wpS_bind (wpS_modify (wpS_bind (wpS_modify (wpS_pure ⟨_,_,μ,⟨bw.perm,bw.kind,bw.failed,μ⟩,?_,by omega⟩))));rw[a3g,Array.toList_modify,bw.pend];show(ck.mod gt).snoc (by omega)
  .rw[if_neg J5];show wpS_bind (wpS_get ?_)
   cases Vd:(pendingOf tY).back? with
   | none =>
    show wpS_bind (wpS_modify (wpS_pure ⟨_,_,μ,Ok.J4 a9 _,?_,by omega⟩));rw[a3g,Ok.pend a9];show hc.snoc (by omega)
   | some q =>
    obtain⟨s1,n1,g1⟩:=q;show wpS_bind (wpS_mono (wpS_forRange (I:=λ_ c bS=>c=(none,())/\∃p,Ok a₀ p bS/\ck p.toList 0 lo) ?_ (λ_ _ z=>z) ⟨μ,_,a9,hc⟩) ?_)
    .rintro y c bS _ _ ⟨rfl,p3,bw,gt⟩;show wpS_bind (wpS_get ?_);rw[bw.pend];by_cases h2:p3.size>1
     .rw[if_pos h2,getElem?_pos p3 (p3.size-2) (by omega)];generalize p3[p3.size-2]=q;obtain⟨u,v,cP⟩:=q;try dsimp only
      split;.show wpS_pure ⟨μ,p3,bw,gt⟩
      .show wpS_bind (CG h0 bw gt kQ (by omega) λp4 oN bB tZ _=>wpS_pure ⟨μ,p4,bB,tZ⟩)
     .rw[if_neg h2];show wpS_pure ⟨μ,p3,bw,gt⟩
    .rintro c bS ⟨rfl,p3,bw,gt⟩;show wpS_bind (wpS_modify (wpS_bind (wpS_modify (wpS_pure ⟨_,_,μ,⟨bw.perm,bw.kind,bw.failed,μ⟩,?_,by omega⟩))));change ck (((pendingOf bS).modify _ _).push _).toList 0 _;rw[a3g,Array.toList_modify,bw.pend];show(ck.mod gt).snoc (by omega)
 case post =>
  rintro c aq ⟨lo,p,rfl,aQ,hc,kQ⟩;try dsimp only
  show wpS_bind (wpS_mono (wpS_forRange (I:=λ_ c bS=>c=(none,())/\∃p,Ok a₀ p bS/\ck p.toList 0 lo) ?_ (λ_ _ z=>z) ⟨μ,_,aQ,hc⟩) ?_)
  .rintro y c bS _ _ ⟨rfl,p3,bw,gt⟩;show wpS_bind (wpS_get ?_);show bw.pend▸?_;by_cases h2:p3.size<=1
   .rw[if_pos h2];show wpS_pure ⟨μ,p3,bw,gt⟩
   .rw[if_neg h2]
    have hi:∀(c:Prop) [Decidable c],(if c then p3.size-2-1 else p3.size-2)+1<p3.size:=λc _=>by
     by_cases hc:c;.rw[if_pos hc];omega
     .rw[if_neg hc];omega
    show wpS_bind (CG h0 bw gt kQ (hi _) λp4 oN bB tZ _=>wpS_pure ⟨μ,p4,bB,tZ⟩)
  .rintro c bS ⟨rfl,p3,bw,gt⟩;show wpS_pure (h _ bw.perm bw.failed)
end
def Ve(hI:IntsAre vs ns){xs:Array Keyed}(hp:xs.Perm (pairsOf vs)):∃b9,IntsAre (xs.map (·.2)).toList b9/\b9.Perm ns:=by
 have hq:(xs.map (·.2)).toList.Perm vs:=by
  have h1:=(a3V.mp hp).map (·.2);have h2:(pairsOf vs).toList.map (·.2)=vs:=by rw[pairsOf_toList];show List.map_snd_zip<|a1M _
  rw[h2] at h1;rwa [Array.toList_map]
 show⟨_,intsAre_map _ λv hv=>hI.all v<|hq.mem_iff.mp hv,?_⟩;rw[<-hI.nums];show hq.map _
def Vf(at_:s.heap.get? l=some (seqObj "list" vs.toArray n))(hI:IntsAre vs ns)(hz:vs.length<=sizeLine) (h:∀ out   b9 ,IntsAre out.toList b9->b9.Perm ns->P (.done (.ret .none)) {s with heap:=sortedHeap s.heap l vs out}) : wpAny (model prog w) A (Builtin.«list.sort» ⟨[.ref l],[]⟩) P E s:=by
 rw[list_sort_plain];obtain⟨e1,mw⟩:∃e1,(s.heap.update l (Obj.mapSeq λ_=>#[])).get? l=some (seqObj "list" #[] e1):=⟨_,get?_update_seq at_ (λ_=>#[])⟩;show wpAny_bind (listItems_at at_ μ (wpAny_bind (listUpdate_at at_ μ (wpAny_bind (seqEpoch_at mw μ (wpAny_bind (wpAny_newTuple (wpAny_bind (wpAny_newList (wpAny_holding ?_))))))) (by omega) θ)));have xM:(((s.heap.update l (Obj.mapSeq λ_=>#[])).push (seqObj "tuple" vs.toArray 0)).push (seqObj "list" #[] 0)).get? l=some (seqObj "list" #[] e1):=by show a1J _ (a1J _ mw)
 try dsimp only
 have fin:∀aq:SortSt,(arrOf aq).Perm (pairsOf vs)->P (.done (.ret .none)) {s with heap:=sortedHeap s.heap l vs ((arrOf aq).map (·.2))}:=λaq hp=>by
  obtain⟨b9,h1,h2⟩:=Ve hI hp;show h _ b9 h1 h2
 have big:∀aq:SortSt,(arrOf aq).Perm (pairsOf vs)->((arrOf aq).map (·.2)).size<=sizeLine+1:=λaq hp=>by rw[Array.size_map,hp.size_eq,pairsOf_size];omega
 by_cases h2:vs.toArray.size<2
 .rw[if_pos h2,if_pos h2];show wpAny_bind (wpAny_pure (show wpAny _ _ _ _ _ _ from ?_));rw[StateT.run_pure];show wpAny_bind (wpAny_pure (wpAny_bind (seqEpoch_at xM μ (wpAny_bind (listUpdate_at xM μ ?_ θ (big (SortSt.mk' general' (vs.toArray.zip vs.toArray) #[] 7 none) (a5m _)))))));simp only[bne_self_eq_false,a2I,if_false];show wpAny_pure (fin (SortSt.mk' general' (vs.toArray.zip vs.toArray) #[] 7 none) (a5m _))
 .rw[if_neg h2,if_neg h2]
  obtain⟨v1,v2,r,rfl⟩:∃v1 v2 r,vs=v1::v2::r:=by
   rcases vs with _ | ⟨v1,_ | ⟨v2,r⟩⟩;.simp at h2
   .simp at h2
   .show⟨v1,v2,r,μ⟩
  rw[keyKind_ints hI];show wpAny_bind (wpAny_pure (wpAny_bind (wpAny_mono (Vc (Q:=λ_ aq=>(arrOf aq).Perm (pairsOf (v1::v2::r))/\failedOf aq=none) hI.intKeys ⟨a5m _,μ,μ,μ⟩ λaq a1 a2=>⟨a1,a2⟩) ?_ λ_ _ e=>e)));rintro⟨⟨⟩,aq⟩ s' ⟨rfl,hp,hf⟩;show wpAny_bind (seqEpoch_at xM μ (wpAny_bind (listUpdate_at xM μ ?_ θ (big aq hp))));rw[hf];simp only[bne_self_eq_false,a2I,if_false];show wpAny_pure (fin aq hp)
section
variable{s:Shared}
def Vg(K:PySem.W.KdlSrc prog w T r d n P OK)(hh:A.handled=none)(am:OK s.heap)(hn:n<=sizeLine) (h:∀h' tk acc c,(∀b o,s.heap.get? b=some o->h'.get? b=some o)->h'.get? s.heap.objs.size=some {cls:=.type "list",dict:=none,data:=.seq acc c,slots:=#[]}->ItemsOf P acc n->R (.ok (.ret (.ref s.heap.objs.size))) {s with heap:=h',toks:=tk}) : codeAny (model prog w) A (.builtin "proto.collect" ⟨[.ref r],[]⟩) R s:=by
 have lt:=K.there _ am;show codeAny_builtin PySem.F.entry_proto_collect ?_;show wpAny_bind<|wpAny_newObj_type<|wpAny_pure ⟨plainId_quiet PySem.F.plain_list_iadd _,codeAny_builtin PySem.F.entry_list_iadd ?_⟩;show PySem.W.kdl_extend K hh (K.keep _ _ am λb _ o e=>a1J _ e) _ (a2K lt.1) (a2K lt.2) _ 0 (a1S _ μ) (λh' tk acc c k hS du=>h h' tk acc c (λb o e=>k b o (a2e<|a1N e)<|a1J _ e) hS du) hn
def Vh(K:PySem.W.KdlSrc prog w T r d n P OK)(hh:A.handled=none)(am:OK s.heap)(hn:n<=sizeLine) (h:∀h' tk acc,(∀b o,s.heap.get? b=some o->h'.get? b=some o)->s.heap.objs.size<h'.objs.size->ItemsOf P acc n->Q acc.toList {s with heap:=h',toks:=tk}):wpAny (model prog w) A (collect (.ref r)) Q E s:=by
 show wpAny_bind<|wpAny_runValue<|Vg K hh am hn λh' tk acc c k hS du=>?_;show wpAny_bind<|wpAny_load hS<|wpAny_pure<|h h' tk acc k (a1N hS) du
def Vi(e:h.get? l=some (seqObj "list" vs.toArray c)) : (∃c',(sortedHeap h l vs out).get? l=some (seqObj "list" out c'))/\∀b o,b≠l->h.get? b=some o->(sortedHeap h l vs out).get? b=some o:=by
 constructor;.show⟨_,get?_update_seq (a1J _<|a1J _<|get?_update_seq e _) _⟩
 .show λb o hb q=>(a2C _ _ (Ne.symm hb)).trans<|a1J _<|a1J _ ?_;show(a2C _ _<|Ne.symm hb).trans q
def Vj(K:PySem.W.KdlSrc prog w T r d n P OK)(hh:A.handled=none)(am:OK s.heap)(hn:n<=sizeLine)(hi:∀acc,ItemsOf P acc n->IntsAre acc.toList ns) (h:∀h' tk D c  out   b9 ,(∀b o,s.heap.get? b=some o->h'.get? b=some o)->s.heap.objs.size<=D->h'.get? D=some (seqObj "list" out c)->IntsAre out.toList b9->b9.Perm ns->Q (.ref D) {s with heap:=h',toks:=tk}) : wpAny (model prog w) A (call (.builtin "sorted") [.ref r]) Q E s:=by
 show Calls.call_function_entry kind_sorted plain_sorted entry_sorted (args_sorted1 _) ?_;show wpAny_bind<|wpAny_pure<|wpAny_bind<|Vh K (by show hh) am hn λh1 tk acc k1 z1 du=>?_;have hI:=hi acc du;have hz:acc.toList.length<=sizeLine:=by rw[a3K,du.1];show hn
 show wpAny_bind<|wpAny_newList ?_;have mw:(h1.push<|seqObj "list" _ 0).get? _=some (seqObj "list" acc.toList.toArray 0):=a1S _ μ;show wpAny_bind<|wpAny_holding<|wpAny_call_entry slot_list_sort ⟨_,mw,μ⟩ entry_list_sort (Vf mw hI hz λout b9 a1 a2=>⟨_,μ,?_⟩)<|args_list_sort _;obtain⟨⟨c',g1⟩,g2⟩:=Vi mw;show wpAny_pure ⟨_,μ,h _ _ _ c' out b9 (λb o e=>?_) ?_ g1 a1 a2⟩
 .have e1:=k1 b o e;show g2 b o (a2e<|a1N e1)<|a1J _ e1
 .show a4Q z1
end
end Srt
namespace L2
open PySem PySem.Spec PyProof.Rows
def Vk{vs:List (aD×Value)}{ns:List Int}(hk:vs.map (·.1)=ns.map Sum.inl)(h:ItemsOf (λi v=>∃k x,vs[i]?=some (k,x)/\(C_ P w).is k v=true) acc vs.length):IntsAre acc.toList ns:=by
 have hl:vs.length=ns.length:=by simpa using congrArg List.length hk
 have at_:∀(i:Nat)  v ,acc.toList[i]?=some v->∃n t,ns[i]?=some n/\v=Value.int n t:=λi v e=>by
  obtain⟨k,x,h1,h2⟩:=h.2 i v (by simp_all);have h3:(vs.map (·.1))[i]?=some k:=by rw[a1O,h1];rfl
  rw[hk,a1O] at h3
  cases q:ns[i]? with
  | none=>rw[q] at h3;cases h3
  | some m =>
   rw[q] at h3;have h4:=a1Q h3;subst h4;have h5:kh (Sum.inl m) v=true:=h2;rcases M_ h5 with⟨i',t,e1,e2⟩ | ⟨y,t,e1,_⟩;.cases e1;show⟨m,t,μ,e2⟩
   .cases e1
 have all:∀v:Value,v∈acc.toList->∃n t,v=Value.int n t:=λv hv=>by
  obtain⟨i,hi⟩:=a2H hv;obtain⟨n,t,_,e⟩:=at_ i v hi;show⟨n,t,e⟩
 have hm:=intsAre_map _ all
 have e:acc.toList.map numOf=ns:=by
  apply a4t;intro i;rw[a1O]
  cases q:acc.toList[i]? with
  | none =>
   have:acc.size<=i:=by simpa using q
   have hs:=h.1;rw[a3B (by lia)];rfl
  | some v =>
   obtain⟨n,t,e1,e2⟩:=at_ i v q;rw[e1,e2];rfl
 rw[e] at hm;show hm
def Vl(hc:X.calm=true):cZ X (.builtin "sorted") (λxs H Q=>∃(a:Addr) (kvs:List (aD×V)) (ns:List Int),xs=[.ref a]/\Rd H a (.dK kvs)/\kvs.map (·.1)=ns.map Sum.inl/\ ∀ l  (b9:List Int),H l=none->b9.Perm ns->Q (.ref l) (upd H l (.lst (b9.map V.int)))):=by
 intro aa s σ H xs us Q I r h;obtain⟨a,kvs,ns,rfl,e,hk,q⟩:=h;obtain⟨u,rfl,ru⟩:=vals1 r;cases ru;obtain⟨z,hd,vs,bA,o,es,ep,ho,dd⟩:=iN I.am e;have dj:vs.map (·.1)=ns.map Sum.inl:=by rw[<-bA.keys];show hk
 have hl:vs.length=ns.length:=by simpa using congrArg List.length dj
 show Srt.Vj (a4F hd) (I.ok.hd hc) ⟨o,es,ho,dd⟩ (by rw[<-bA.length];show z) (λacc du=>Vk dj du) λh' tk D c out b9 k hD hg hI hp=>?_;have hz:(b9.map V.int).length<=sizeLine:=by rw[a1H,hp.length_eq,<-hl,<-bA.length];show z
 show⟨.ref D,_,I.laid (o:=.lst _) k hD ⟨hz,out.toList,c,Iy hI,by simpa using hg⟩,μ,q D b9 (I.am.fresh hD) hp⟩
end L2
namespace PySem
open Sem (wp)
def Vm:typeLookup (.type "list") "keys"=pure none:=by kernel_rfl
def Vn
  (hx:s.heap.get? a=some o) (hc:o.cls=.type "list") (qM:o.data=.seq xs k) (hd:o.dict=none) (Vo:typeLookup (.type "list") name=pure none) (Vp:(["__module__","__name__","__qualname__","__doc__","__annotations__"]:List Str).contains name=false) (hA:A.handled=none) (h:∀h' tk,(∀b ob,s.heap.get? b=some ob->h'.get? b=some ob)->Q none {s with heap:=h',toks:=tk}) (hsz:name.length+100<=sizeLine:=by size_fits) : wpAny (model prog w) A (getAttr? (.ref a) name) Q E s:=by
 obtain⟨c,dct,dat,sl⟩:=o;simp only at hc qM hd;subst hc qM hd;obtain⟨hp,g,d,tk,os⟩:=s;have hT:∀J6,(⟨hp,g,d,J6,os⟩:Shared).TypeIs (.ref a) "list":=λ_=>⟨_,hx,μ⟩;have f1:=sub_AttributeError;have f3:=F.slot_list_getattribute.lookup;have f4:=F.slot_list_getattribute.bind (.ref a);have f5:=am_list_getattr_none;unfold getAttr? getAttrBy? getAttrBy;repeat (any_goals (first | assumption | show hT _ | ((with_reducible change wpAny _ _ (call (Value.builtin "list.__getattribute__") _ _) _ _ _);show call_meets F.slot_list_getattribute (hT _) am_entry_list_getattribute (F.args_list_getattribute_2 _ _) (meets_getattribute_miss_list a xs k sl name _ Vo Vp hsz) ⟨hx,hA,λh' J6 e lj=>?_⟩) | wp_step))
 obtain⟨t',u',he⟩:=lj.there;change wpAny _ _ (getattributeRaised _ _ _ _ _ _ _) _ _ _;unfold getattributeRaised;repeat (any_goals (first | assumption | wp_step))
 show h _ _ lj.keeps
namespace F
def J7:entryFor table "dict.update.loop"=some Builtin.«dict.update.loop»:=entryFor_of_tree (by kernel_rfl)
def xN:plainId "dict.update.loop"=true:=by decide +kernel
end F
section
variable{prog:Program}{w:World}{A:Around}{R:Result->Shared->Prop}{I:Addr}{fp wr:List Addr}{G:Array GenState->Array GenState->Prop}{n:Nat}{P:Nat->Value->Prop}{St:Nat->Shared->Prop}
variable{K:Type}[DecidableEq K]{knd:KeyKind prog w K}
def Vq(rs:List (K×Value)):(merged [] rs).length<=rs.length:=by
 have gen:∀(rs kvs:List (K×Value)),(merged kvs rs).length<=kvs.length+rs.length:=by
  intro rs
  induction rs with
  | nil=>intro kvs;simp[merged]
  | cons p r ih =>
   intro kvs;have h:=ih (stored kvs p.1 p.2)
   have h2:(stored kvs p.1 p.2).length<=kvs.length+1:=by
    unfold stored;split <;> simp
   change(merged _ r).length<=_;simp only[a2s];lia
 simpa using gen rs []
def Vr(W:WalksS prog w A.in1 I fp wr G n P St)(S:Addr)(qA:S∉fp)(res:Value)(rs:List (K×Value))(hn:rs.length=n)(hz:n<=sizeLine)(s0:Shared) (jn:∀i v,P i v->∃k x,rs[i]?=some (k,x)/\∀h:Heap,(∀b o,b∉S::wr->s0.heap.get? b=some o->h.get? b=some o)->∃t o c aZ,v=.ref t/\h.get? t=some o/\o.cls=.type "tuple"/\o.data=.seq #[aZ,x] c/\knd.is k aZ=true) : ∀ k i   tk   s ,n-i=k->i<=n->St i s->(∀b o,b∉S::wr->s0.heap.get? b=some o->s.heap.get? b=some o)-> s.heap.DictOf knd S (merged [] (rs.take i))-> (∀s',Moved (S::wr) G s s'->s'.heap.DictOf knd S (merged [] rs)->R (.ok (.ret res)) s')-> codeAny (model prog w) A (.builtin "dict.update.loop" ⟨[.ref S,.ref I,.int (i:Int) tk,res],[]⟩) R s:=by
 have J8:S∉wr:=λh=>qA (W.sub _ h);have qN:∀b∈wr,b∈S::wr:=λb hb=>a2m _ hb;intro k
 induction k with
 | zero =>
  intro i tk s hk hi dZ h0 hS hR;have mH:i=n:=by lia
  show codeAny_builtin F.J7 ?_;show (Around.under_plainId F.xN _)▸?_;show wpAny_bind (W.done s _ _ (mH▸dZ) λs' hm=>?_);show wpAny_bind ?_;show wpAny_pure (wpAny_pure (hR s' (hm.mono qN) ?_));rw[mH,a2t (by lia)] at hS;obtain⟨o,es,ep,ho,rest⟩:=hS;show⟨o,es,ep,hm.heap S _ J8 ho,rest⟩
 | succ k ih =>
  intro i tk s hk hi dZ h0 hS hR;have aL:i<n:=by lia
  show codeAny_builtin F.J7 ?_;show (Around.under_plainId F.xN _)▸?_;show wpAny_bind (W.item i s _ _ aL dZ λv s' hP mI hm=>?_);have oU:∀b o,b∉S::wr->s0.heap.get? b=some o->s'.heap.get? b=some o:=λb o hb e=>hm.heap b o (λz=>hb (qN b z)) (h0 b o hb e);obtain⟨k',x,hr,ht⟩:=jn i v hP;obtain⟨t,o,c,aZ,rfl,ho,hc,hd,iI⟩:=ht s'.heap oU
  have ou:s'.heap.DictOf knd S (merged [] (rs.take i)):=by
   obtain⟨o,es,ep,ho,rest⟩:=hS;show⟨o,es,ep,hm.heap S _ J8 ho,rest⟩
  have hT:s'.TypeIs (.ref t) "tuple":=⟨o,ho,hc⟩
  have bZ:(merged [] (rs.take i)).length<=sizeLine:=by
   have:=Vq (rs.take i);rw[a2d] at this;lia
  show wpAny_bind (wpAny_holding (wpAny_bind (wpAny_tryCatch ?_)));show wpAny_bind (wpAny_typeOf hT (wpAny_ite_split (λ_=>?_) (λji=>absurd ζ ji)));repeat (any_goals (first | assumption | wp_step))
  show hd▸?_;show wpAny_pure (wpAny_pure ?_);show wpAny_holding (wpAny_dictSet_pairs iI ou (λh' hD Vs=>(wpAny_pure ⟨plainId_quiet F.xN _,?_⟩)) bZ);have ei:rawInt ((i:Int)+1)=rawInt ((i+1:Nat):Int):=by push_cast;rfl
  show ei▸?_;have CH:∀b o,b≠S->s'.heap.get? b=some o->h'.get? b=some o:=λb o hb e=>(Vs.2 b hb).trans e;show ih (i+1) _ _ Z aL (W.frame _ s' _ _ mI (a3U _) λb hb o e=>CH b o (λh:b=S=>qA (by rw[<-h];show hb)) e) (λb o hb e=>CH b o (λh:b=S=>hb (by rw[h];show a3w)) (oU b o hb e)) ?_ λia Vt Vu=>?_
  .rw[merged_take_succ [] rs i (k',x) hr];show hD
  .show hR ia (Moved.trans W.gtrans ((hm.mono qN).then_heap (a3U _) λb o hb e=>(CH b o (λh:b=S=>hb (by rw[h];show a3w)) e)) Vt) Vu
end
section
variable{prog:Program}{w:World}{A:Around}{E:Value->Shared->Prop}{s:Shared}
variable{K:Type}[DecidableEq K]{knd:KeyKind prog w K}
def Vv(hh:A.handled=none)(hl:s.heap.get? l=some {cls:=.type "list",data:=.seq items c})(hz:items.size<=sizeLine)(rs:List (K×Value))(hn:rs.length=items.size) (jn:∀(i:Nat) v,items[i]?=some v->∃k x,rs[i]?=some (k,x)/\∃t o c aZ,v=.ref t/\s.heap.get? t=some o/\o.cls=.type "tuple"/\o.data=.seq #[aZ,x] c/\knd.is k aZ=true) (hQ:∀h' tk,h'.DictOf knd s.heap.objs.size (merged [] rs)->(∀b o,s.heap.get? b=some o->h'.get? b=some o)->Q (.ref s.heap.objs.size) {s with heap:=h',toks:=tk}) : wpAny (model prog w) A (call (.type "dict") [.ref l]) Q E s:=by
 show callType_codes (Q₁:=λobj bv=>obj=.ref s.heap.objs.size/\bv={s with heap:=s.heap.push {cls:=.type "dict",data:=.dict #[]}}) F.kt_called_dict (F.kt_typeCall_dict_1 _) F.entry_dict_init (kt_code_dict_new _ ⟨μ,μ⟩) ?_;rintro obj bv ⟨rfl,rfl⟩;have je:(s.heap.push {cls:=.type "dict",data:=.dict #[]}).DictOf knd s.heap.objs.size []:=Heap.DictOf.new s.heap;have bV:(s.heap.push {cls:=.type "dict",data:=.dict #[]}).get? l=some {cls:=.type "list",data:=.seq items c}:=a1J _ hl;have J9:=a1N hl;show⟨je.typeIs,F.args_dict_init_2 _ _,?_⟩;show wpAny_bind ?_;show wpAny_bind (wpAny_notOrdered_dict je.typeIs ?_);show wpAny_pure ?_;change wpAny _ _ (Builtin.Dict.updateFrom "dict.__init__" s.heap.objs.size (.ref l) [] .none) _ _ _;show wpAny_bind (wpAny_typeOf ⟨_,bV,μ⟩ ?_);rw[if_pos (by decide)];show wpAny_bind (Vn bV μ μ μ Vm ζ (by simpa using hh) λh1 tk1 k1=>(wpAny_ite_split (λ_=>?_) (λji=>absurd μ ji)));show wpAny_bind (wpAny_rule ?_);have bz:=k1 _ _ bV;show wpAny_bind (wpAny_pyIter_list ⟨_,bz,μ,c,μ⟩ (wpAny_pure ⟨plainId_quiet F.xN _,?_⟩));have Vw:(s.heap.push {cls:=.type "dict",data:=.dict #[]}).get? s.heap.objs.size=some {cls:=.type "dict",data:=.dict #[]}:=a1S _ μ;have Vx:=k1 _ _ Vw;have jp:=a1N Vx;have lI:=a2e (Nat.lt_trans J9 jp)
 have qA:s.heap.objs.size∉[h1.objs.size,l]:=by
  simp only[a1L,a1Z,or_false,not_or];show⟨a2e jp,a2K J9⟩
 have Vy:A.in1.in1.handled=none:=by simpa using hh
 have W:=(Walks.list (prog:=prog) (w:=w) Vy h1.objs.size l lI items).toS
 have keep:∀b o,s.heap.get? b=some o->b∉s.heap.objs.size::[h1.objs.size]:=λb o e z=>by
  have hb:=a1N e;simp only[a1L,a1Z,or_false] at z;rcases z with z | z;.rw[z] at hb;show a2O _ hb
  .rw[z] at hb;show a2O _ (Nat.lt_trans hb jp)
 show Vr (knd:=knd) W s.heap.objs.size qA .none rs hn hz s (λi v hv=>?_) items.size 0 0 _ Z (a2u _) ⟨⟨_,a1S _ μ,μ,μ⟩,⟨_,a1J _ bz,μ,c,μ⟩⟩ (λb o _ e=>a1J _ (k1 _ _ (a1J _ e))) ?_ λs' hm hS=>?_
 .obtain⟨k,x,hr,t,o,c',aZ,e1,e2,e3,e4,e5⟩:=jn i v hv;show⟨k,x,hr,λh hk=>⟨t,o,c',aZ,e1,hk t o (keep t o e2) e2,e3,e4,e5⟩⟩
 .obtain⟨o,es,ep,ho,rest⟩:=je;show⟨o,es,ep,a1J _ (k1 _ _ ho),rest⟩
 .rw[Moved.eq_with hm];show⟨μ,hQ s'.heap s'.toks hS λb o e=>hm.heap b o (keep b o e) (a1J _ (k1 _ _ (a1J _ e)))⟩
end
end PySem
namespace Me
noncomputable def look(f:List (Int×Int))(k:Int):Option Int:=(f.find? λq=>decide (q.1=k)).map (·.2)
noncomputable def put(f:List (Int×Int))(k v:Int):List (Int×Int) := if (f.any λp=>decide (p.1=k))=true then f.map (λp=>if p.1=k then (p.1,v) else p) else f++[(k,v)]
noncomputable def d7(f:List (Int×Int))(k n:Int):List (Int×Int):=put f k ((look f k).getD 0+n)
noncomputable def dA(p:Int×Int)(w:Int)(n:Nat)(acc:List (Int×Int)):List (Int×Int):=(List.range n).foldl (λacc (d:Nat)=>d7 acc (p.1+(d:Int)*w) p.2) acc
noncomputable def U_(f:List (Int×Int))(b:Nat)(w:Int):List (Int×Int):=f.foldl (λacc p=>dA p w b acc) []
noncomputable def aN(b:Nat)(ws:List Int):List (Int×Int):=ws.foldl (λf w=>U_ f b w) [(0,1)]
abbrev keys(f:List (Int×Int)):List Int:=f.map (·.1)
def jP(p:Int×Int)(w:Int)(n:Nat)(acc:List (Int×Int)):dA p w (n+1) acc=d7 (dA p w n acc) (p.1+(n:Int)*w) p.2:=by
 unfold dA;rw[a3P,a3r];rfl
def xO{f:List (Int×Int)}(h:f[i]?=some p):U_ (f.take (i+1)) b w=dA p w b (U_ (f.take i) b w):=by
 unfold U_;rw[a1P,h,a3r];rfl
def xP{ws:List Int}(h:ws[i]?=some w):aN b (ws.take (i+1))=U_ (aN b (ws.take i)) b w:=by
 unfold aN;rw[a1P,h,a3r];rfl
def Ka(f:List (Int×Int))(k v:Int):keys (f.map λp=>if p.1=k then (p.1,v) else p)=keys f:=by
 rw[keys,a3i];apply a2G;intro p _;change(if p.1=k then (p.1,v) else p).1=p.1;split <;> rfl
def Kb:(keys f).Nodup->(keys (put f k v)).Nodup:=by
 intro nd;unfold put;split;.rw[Ka];show nd
 .rename_i h
  have hn:=λz=>h<|by
   obtain⟨p,hp,e⟩:=a1U.mp z;show a5e.mpr ⟨p,hp,by simpa using e⟩
  rw[keys,a2i];show List.nodup_append.mpr ⟨nd,θ,λa ha b hb=>?_⟩;have:b=k:=by simpa using hb
  rw[this];show λz=>hn (z▸ha)
def Vz(h:∀x∈keys f,lo<=x/\x<=hi)(hk:lo<=k/\k<=hi):∀x∈keys (put f k v),lo<=x/\x<=hi:=by
 unfold put;split;.rw[Ka];show h
 .intro x hx;rw[keys,a2i] at hx;rcases a2l.mp hx with hx | hx;.show h x hx
  .simp_all
structure Ok(f:List (Int×Int))(m:Int):Prop where
 nd:(keys f).Nodup
 bd:∀x∈keys f,-m<=x/\x<=m
theorem Ok.put(o:Ok f m)(h : -m<=k/\k<=m):Ok (put f k v) m:=⟨Kb o.nd,Vz o.bd h⟩
def Ok.nil:Ok [] m:=⟨by simp[keys],λx h=>by simp[keys] at h⟩
def xQ{d b:Nat}(hx : -m<=x/\x<=m)(hw : -9<=w/\w<=9)(hb:b<=16)(hd:d<b) : -(m+135)<=x+(d:Int)*w/\x+(d:Int)*w<=m+135:=by
 have d0:(0:Int)<=d:=by lia
 have a1:=a4I hw.2 d0;have a2:=a4I hw.1 d0;lia
theorem t8{f:List (Int×Int)}{m w:Int}{p:Int×Int}{b:Nat}(hp : -m<=p.1/\p.1<=m)(hw : -9<=w/\w<=9)(hb:b<=16)(o:Ok f (m+135)):∀n,n<=b->Ok (dA p w n f) (m+135)
 | 0,_=>o
 | n+1,h=>by
  rw[jP];show(t8 hp hw hb o n Z).put<|xQ hp hw hb<|by lia
theorem qO{f:List (Int×Int)}{m w:Int}{b:Nat}(o:Ok f m)(hw : -9<=w/\w<=9)(hb:b<=16):∀i,Ok (U_ (f.take i) b w) (m+135)
 | 0=>Ok.nil
 | i+1=>by
  cases h:f[i]? with
  | none =>
   rw[a1P,h];simpa using qO o hw hb i
  | some p =>
   rw[xO h];show t8 (o.bd p.1<|a1U.mpr ⟨p,a1K h,μ⟩) hw hb (qO o hw hb i) b<|a1M _
def VA(o:Ok f m)(hw : -9<=w/\w<=9)(hb:b<=16):Ok (U_ f b w) (m+135):=by
 have:=qO o hw hb f.length;rwa [a1T] at this
theorem ua{b:Nat}{ws:List Int}(hw:∀w∈ws,-9<=w/\w<=9)(hb:b<=16):∀i:Nat,Ok (aN b (ws.take i)) (135*i)
 | 0 => ⟨by simp[aN, keys], λx h => by have : x = 0 := by simpa [aN] using h
                                       lia⟩
 | i+1=>by
  cases h:ws[i]? with
  | none =>
   rw[a1P,h];have o:=ua hw hb i;simp only[Option.toList_none,a2Y];show⟨o.nd,λx hx=>by have:=o.bd x hx;lia⟩
  | some w =>
   rw[xP h];have o:=VA (ua hw hb i) (hw w<|a1K h) hb;have e:(135* (i+1:Nat) )=135*(i:Int)+135:=by lia
   show o
def qP(hw:∀w∈ws,-9<=w/\w<=9)(hb:b<=16):Ok (aN b ws) (135*ws.length):=by
 have:=ua hw hb ws.length;rwa [a1T] at this
theorem CI{α:Type}[DecidableEq α]:∀ {l m:List α},l.Nodup->(∀x∈l,x∈m)->l.length<=m.length
 | [],_,_,_=>a2u _
 | x::l,m,nd,h=>by
  have hx:=h x θ;have hn:=(a2j.mp nd).1;have:=CI (a2j.mp nd).2 λy hy=>(List.mem_erase_of_ne (show y≠x from λe=>hn (by show e▸?_;show hy))).mpr<|h y<|a2m _ hy;rw[List.length_erase_of_mem hx] at this;have hp:=a3f hx;simp only[a2s];lia
def Ok.len{m:Nat}(o:Ok f m):f.length<=2*m+1:=by
 have h:=CI (m:=(List.range (2*m+1)).map λ(i:Nat)=>(i:Int)-m) o.nd λx hx=>by
  have:=o.bd x hx;show a1U.mpr ⟨(x+m).toNat,a3T.mpr<|by lia,Z⟩
 simpa [keys] using h
theorem gN:∀ {g:List (Int×Int)} {p:Int×Int},(keys g).Nodup->p∈g->look g p.1=some p.2
 | [],_,_,h=>by simp at h
 | q::g,p,nd,h=>by
  have hn:q.1∉keys g:=(a2j.mp nd).1;have CJ:=(a2j.mp nd).2;rcases a1L.mp h with rfl | h;.simp[look,a2Z]
  .have ba:¬ q.1=p.1:=λe=>hn<|by rw[e];show a1U.mpr ⟨p,h,μ⟩
   have:=gN CJ h;simpa [look,ba] using this
def VB(nd:(keys f).Nodup){ns:List Int}(h:ns.Perm (keys f)):(ns.map λn=>(n,(look f n).getD 0)).Perm f:=by
 have h1:=h.map λn=>(n,(look f n).getD 0)
 have e:(keys f).map (λn=>(n,(look f n).getD 0))=f:=by
  rw[keys,a3i];conv=>rhs;rw[<-List.map_id f]
  apply a2G;intro p hp;change(p.1,(look f p.1).getD 0)=p;rw[gN nd hp];rfl
 rw[e] at h1;show h1
def Kc(h:k∉keys f):put f k v=f++[(k,v)]:=by
 unfold put;rw[if_neg];intro z;obtain⟨p,hp,e⟩:=a5e.mp z;show h<|a1U.mpr ⟨p,hp,by simpa using e⟩
noncomputable def xR(f more:List (Int×Int)):List (Int×Int):=more.foldl (λacc p=>put acc p.1 p.2) f
theorem Kd:∀(more f:List (Int×Int)),(keys (f++more)).Nodup->xR f more=f++more
 | [],f,_=>by simp[xR]
 | p::r,f,nd=>by
  have hp:p.1∉keys f:=by grind
  change xR (put f p.1 p.2) r=_;rw[Kc hp,Kd r _ (by simpa using nd)];simp
end Me
namespace L2
open PySem PySem.Spec PyProof.Rows
theorem Paired.at{bs:List β}{i:Nat}{a:α}(h:Paired R as bs)(e:as[i]?=some a):∃b,bs[i]?=some b/\R a b:=by
 induction h generalizing i with
 | nil=>simp at e
 | cons r _ ih =>
  cases i with
  | zero=>simp_all
  | succ i =>
   simp_all
theorem Ke:∀ {xs:List V} {us:List Value},xs.length=us.length->(∀(i:Nat) u,us[i]?=some u->∃x,xs[i]?=some x/\RelV x u)->aE xs us
 | [],[],_,_=>.nil
 | [],_::_,h,_=>by simp at h
 | _::_,[],h,_=>by simp at h
 | x::xs,u::us,h,hv=>by
  obtain⟨y,e,r⟩:=hv 0 u μ;simp at e;subst e
  show .cons r<|Ke (by simpa using h) λi v e=>by
   obtain⟨z,e1,r1⟩:=hv (i+1) v (by simpa using e);show⟨z,by simpa using e1,r1⟩
abbrev oV(H:Hp)(ts:List Addr)(kvs:List (aD×V)):Prop:=Paired (λ(t:Addr) (p:aD×V)=>H t=some (.tup [kV p.1,p.2])) ts kvs
theorem Kf{P:Program}{w:World}{H:Hp}{h:Heap}(ok:bH P w H h):∀ {ts:List Addr} {kvs:List (aD×V)} {ad:List Value},oV H ts kvs->aE (ts.map V.ref) ad-> ∃rs:List (aD×Value),KV kvs rs/\Paired (λ(u:Value) (r:aD×Value)=>∃t o c aZ,u=.ref t/\h.get? t=some o/\o.cls=.type "tuple"/\o.data=.seq #[aZ,r.2] c/\(C_ P w).is r.1 aZ=true) ad rs
 | [],_,_,.nil,r=>by cases r;show⟨[],.nil,.nil⟩
 | t::ts,p::kvs,ad,.cons e hp,r=>by
  cases r with
  | cons r0 rr =>
   cases r0;obtain⟨rs,a,b⟩:=Kf ok hp rr;obtain⟨_,ms,rv,tu⟩:=ok t _ e;obtain⟨u1,u2,rfl,r1,r2⟩:=rv.two
   obtain⟨o,c,ho,hc,hd⟩:∃o c,h.get? t=some o/\o.cls=.type "tuple"/\o.data=.seq #[u1,u2] c:=by
    obtain⟨o,ho,hc,c,hd⟩:=tu;show⟨o,c,ho,hc,hd⟩
   show⟨(p.1,u2)::rs,.cons ⟨μ,r2⟩ a,.cons ⟨t,o,c,u1,μ,ho,hc,hd,mD r1⟩ b⟩
def VC(hc:X.calm=true):cZ X (.type "dict") (λxs H Q=>∃l ts kvs,xs=[.ref l]/\H l=some (.lst (ts.map V.ref))/\oV H ts kvs/\ ∀p,H p=none->Q (.ref p) (upd H p (.dK (eV [] kvs)))):=by
 intro aa s σ H xs us Q I r h;obtain⟨l,ts,kvs,rfl,e,hp,q⟩:=h;obtain⟨u,rfl,ru⟩:=vals1 r;cases ru;obtain⟨z,ad,n,rv,e1⟩:=I.am l _ e;obtain⟨rs,hk,hr⟩:=Kf I.am hp rv;have bZ:=hr.length.symm;have hz:ad.length<=sizeLine:=by rw[<-rv.length];show z
 show Vv (knd:=C_ _ X.w) (I.ok.hd hc) e1 (by show hz) rs (by show bZ) (λi v hv=>?_) λh' tk dd k=>?_
 .obtain⟨b,hb,t,o,c,aZ,x1,x2,x3,x4,x5⟩:=Paired.at hr (by simpa using hv);show⟨b.1,b.2,hb,t,o,c,aZ,x1,x2,x3,x4,x5⟩
 .have hm:=CA kvs [];have hkl:=hk.length;show⟨.ref _,_,I.laid k (a1M _)<|Cv ?_ (beq_eq_false_iff_ne.mpr<|Ne.symm<|a2e I.big) (KV.merge hk .nil) dd,μ,q _<|I.am.fresh<|a1M _⟩;simp only[a5l] at hm;lia
def VD(hc:X.calm=true):cZ X (.type "list") (λxs H Q=>∃a kvs,xs=[.ref a]/\Rd H a (.dK kvs)/\∀p,H p=none->Q (.ref p) (upd H p (.lst (kvs.map λq=>kV q.1)))):=by
 intro aa s σ H xs us Q I r h;obtain⟨a,kvs,rfl,e,q⟩:=h;obtain⟨u,rfl,ru⟩:=vals1 r;cases ru;obtain⟨z,hd,vs,bA,o,es,ep,ho,dd⟩:=iN I.am e;have hl:=bA.length;show PySem.W.kdl_call (a4F hd) (I.ok.hd hc) ⟨o,es,ho,dd⟩ (by rw[<-hl];show z) λh' tk acc c k hD du=>(⟨.ref _,_,I.laid (a:=s.heap.objs.size) (o:=.lst (kvs.map λq=>kV q.1)) (t':=tk) k (a1M _) ⟨by rw[a1H];show z,acc.toList,c,Ke ?_ λi u hu=>?_,by simpa using hD⟩,μ,q _ (I.am.fresh (a1M _))⟩);.rw[a1H,show acc.toList.length=acc.size from a3K,du.1,hl]
 .obtain⟨k',x,e1,e2⟩:=du.2 i u (by simpa using hu);have hi:i<kvs.length:=by rw[hl];show(a1I.mp e1).1
  have hk:(kvs[i]).1=k':=by
   obtain⟨u',mJ,_⟩:=KV.at bA (i:=i) (p:=kvs[i]) (by simp[hi]);rw[e1] at mJ;show(congrArg Prod.fst<|a1Q mJ).symm
  show⟨kV k',by simp[hi,hk],JI e2⟩
noncomputable def ay(f:List (Int×Int)):List (aD×V):=f.map λp=>(Sum.inl p.1,V.int p.2)
def VE(f:List (Int×Int))(k:Int):cc (ay f) (Sum.inl k)=(Me.look f k).map V.int:=by
 induction f with
 | nil=>rfl
 | cons p r ih =>
  by_cases e:p.1=k
  .have h1:cc (ay (p::r)) _=some _:=iL (by change Sum.inl p.1=Sum.inl k;rw[e]);rw[h1];simp[Me.look,a2Z,e]
  .have h1:cc (ay (p::r)) _=cc (ay r) _:=iM (by show λz=>e<|Sum.inl.inj z);rw[h1,ih];simp[Me.look,a2Z,e]
def Kg(f:List (Int×Int))(k v:Int):cM (ay f) (Sum.inl k) (V.int v)=ay (Me.put f k v):=by
 have e:((ay f).any λkv=>decide (kv.1=Sum.inl k))=f.any λp=>decide (p.1=k):=by
  rw[ay,List.any_map];congr 1;funext p;by_cases z:p.1=k;.simp[z]
  .simp_all
 unfold cM Me.put;rw[e];split
 .rw[ay,a3i,ay,a3i];apply a2G;intro p _;change(if (Sum.inl p.1)=Sum.inl k then (Sum.inl p.1,V.int v) else (Sum.inl p.1,V.int p.2))=(Sum.inl (if p.1=k then (p.1,v) else p).1,V.int (if p.1=k then (p.1,v) else p).2);by_cases z:p.1=k;.rw[if_pos (by rw[z]),if_pos z]
  .simp_all
 .simp[ay]
theorem Kh:∀(more f:List (Int×Int)),eV (ay f) (ay more)=ay (Me.xR f more)
 | [],f=>rfl
 | p::r,f=>by
  change eV (cM _ (Sum.inl p.1)<|V.int p.2) (ay r)=_;rw[Kg,Kh r];rfl
def xS(hc:X.calm=true):cZ X (.builtin "sum") (λxs H Q=>∃(p:Addr) (ns:List Int),xs=[.ref p]/\ae X.K H p (ns.map V.int)/\Q (.int ns.sum) H):=by
 intro aa s σ H xs us Q I r h;obtain⟨p,ns,rfl,hq,q⟩:=h;obtain⟨u,rfl,rx⟩:=vals1 r;cases rx;obtain⟨ad,rv,pl,hz⟩:=I.list hq;have hl:=pl.isList;have aL:p<s.heap.objs.size:=by obtain⟨_,e,_⟩:=hl;show a1N e
 have hn:ad.toArray.size=ns.length:=by rw[a1W,<-rv.length,a1H]
 show call_sum_walkG<|wpAny_pyIter_list hl (⟨_,_,_,_,_,_,λi=>(ns[i]?).getD 0,μ,Walks.list (A:=X.A.in1) (I.ok.hd hc) s.heap.objs.size p (a2e aL) ad.toArray,⟨⟨_,a1S _ μ,μ,μ⟩,hl.push _⟩,λb cj=>?_,λi v hP=>?_,λh' tk t' hk=>?_⟩)
 .rw[a2w];rcases a1L.mp cj with rfl | cj;.show a2T _
  .have e:b=p:=by simpa using cj
   rw[e];show a3d aL
 .have hv:ad[i]?=some v:=by simpa using hP
  cases eb:ns[i]? with
  | none =>
   simp_all
  | some b =>
   obtain⟨u,hu,ru⟩:=rv.get (by rw[a1O,eb];rfl);rw[hu] at hv;cases hv;obtain⟨t,rfl⟩:=ru;show⟨t,by simp[eb]⟩
 .rw[hn,tz ns _ (a1M _),a1T];show⟨.int _,H,(show Inv X aa σ H {s with heap:=h',toks:=tk} from seen I hk),⟨_,μ⟩,q⟩
inductive Ki(Q:VK)(x:V)(H1:Hp):Prop
 | mk:∀a kvs,∀ns:List Int,(x=.ref a)->(H1 a=some (.dK kvs))->(kvs.map (·.2)=ns.map V.int)->(Q (.int ns.sum) H1)->Ki Q x H1
def VF(td:TE):TE:=fun σ H Q=>td σ H (Ki Q)
def VG{p1 q1 bO dm:Pos}(hc:X.calm=true)(jK:X.mg "sum"=none)(oy:Gl X "sum")(ho:PE X o td)(sX:attributeBase o "values" X.env (eval o X.env)=eval o X.env:=by rfl)(sY:(bO.endLine==dm.line)=true:=by rfl) : PE X (.Call (.Name "sum" p1) [.Call (.Attribute o "values" bO) [] [] dm] [] q1) (VF td):=by
 show λaa s σ H Q I h=>wpAny_Call_Name_kw (hU I oy jK boot_sum ?_);show PyProof.Rows.callWith_builtin1 ?_ μ μ;change wpAny _ _ (spliced ((false,eval (.Call (.Attribute o "values" bO) [] [] dm) X.env)::backTo q1 (starEach [] X.env))) _ _ s;show Calls.spliced_cons (wpAny_Call_method0_late sX sY (au (ho aa s σ H _ I h) λv s1 ⟨x,H1,I1,r1,a,kvs,ns,ex,he,fK,q⟩=>?_));subst ex;obtain rfl:v=Value.ref a:=r1;obtain⟨t1,t2,_⟩:=JF I1 (.inl ⟨kvs,.inl he⟩);obtain⟨z,hd,vs,bA,dd⟩:=oG I1.am he;show⟨"dict","dict.values",PySem.F.plainAttrs_dict,PySem.F.slot_dict_values,PySem.F.type_dict_values,t1,t2,Calls.callWith_builtin μ (PySem.evalArgs_none ?_)⟩;show call_meetsIn PySem.F.slot_dict_values dd.typeIs PySem.F.entry_dict_values (PySem.F.args_dict_values_1 _) (meets_dict_values (C_ X.prog X.w) a hd) ⟨⟨_,dd⟩,(Calls.spliced_nil ?_)⟩;obtain⟨ob,es,ep,jQ,rest⟩:=dd;have VH:=a1J {cls:=.type "dict_values",data:=.fields #[.ref a]} jQ;have hl:=bA.length;have VI:kvs.length=ns.length:=by simpa using congrArg List.length fK
 have KS:=PySem.W.kdl_values (r:=s1.heap.objs.size) (d:=a) (ep:=ep) (kvs:=vs) (knd:=C_ X.prog X.w);have am:(s1.heap.push {cls:=.type "dict_values",data:=.fields #[.ref a]}).IsValuesView s1.heap.objs.size a/\(s1.heap.push {cls:=.type "dict_values",data:=.fields #[.ref a]}).DictAt (C_ X.prog X.w) a vs ep:=⟨⟨_,a1S _ μ,μ,μ⟩,⟨ob,es,VH,rest⟩⟩;show call_sum_walkG ?_;obtain⟨oI,St,cg,W,st⟩:=KS.iter X.A.in1 {s1 with heap:=s1.heap.push {cls:=.type "dict_values",data:=.fields #[.ref a]}} (I1.ok.hd hc) am;show cg _ _ ⟨_,_,_,_,_,_,λi=>(ns[i]?).getD 0,μ,W,st,λb hb=>?_,λi v hv=>?_,λh' tk t' hk=>?_⟩
 .change b<(Heap.push _ oI).objs.size;rw[a2w];rcases a1L.mp hb with e | hb;.rw[e];show a2T _
  .rw[a1X.mp hb];show a3d (KS.there _ am).2
 .obtain⟨k',e1⟩:=hv;have hi:i<kvs.length:=by rw[hl];show(a1I.mp e1).1
  obtain⟨u',mJ,ru⟩:=KV.at bA (i:=i) (p:=kvs[i]) (by simp[hi]);rw[e1] at mJ;have eu:v=u':=congrArg Prod.snd (a1Q mJ);have e2:(kvs.map (·.2))[i]?=(ns.map V.int)[i]?:=by rw[fK]
  have e3:(kvs.map (·.2))[i]?=some (kvs[i]).2:=by simp[hi]
  have e4:(ns.map V.int)[i]?=some (V.int ns[i]):=by simp[show i<ns.length by omega]
  rw[e3,e4] at e2;have e5:=a1Q e2;rw[e5] at ru;obtain⟨t,rfl⟩:=ru;show⟨t,?_⟩;rw[eu];have e6:ns[i]?=some ns[i]:=a2a (show i<ns.length by omega);change Value.int ns[i] t=Value.int ((ns[i]?).getD 0) t;rw[e6];rfl
 .rw[<-hl,VI,tz ns ns.length (a1M _),a1T]
  have lg:∀b o,s1.heap.get? b=some o->h'.get? b=some o:=λb o e=>hk b o (λhI=>absurd (a1N e) (by
   rw[a1X.mp hI];change ¬ (s1.heap.push _).objs.size<_;rw[a2w];omega)) (a1J _ (a1J _ e));show⟨.int _,H1,I1.kept (t':=tk) (h':=h') lg,⟨_,μ⟩,q⟩
end L2
namespace Hv
open PySem L2
def VJ:aS ["thing"] ["thing"] (h_ BC):=⟨μ,μ,μ,ξ,μ,ξ,ξ⟩
def VL{f:Addr}{fd:FuncData}(F:aM K "is_whole" "is_whole" BC f fd)(T:Txt mg):aA P w K mg base aI 1 f fd ["thing"] qB:=by
 show F.ok VJ λao A outer s H vs Q E hr h=>?_
 .obtain⟨v,rfl,ty,k⟩:=h;show⟨_,g_<|m_<|iZ (p_ T_ η T.cC boot_isinstance<|a_ (pv 0)<|a_ (fu T.int boot_int) d_) <|kE<|AI<|p_ T_ η T.cC boot_isinstance<|a_ (pv 0)<|a_ (fu T.bool boot_bool) d_,?_⟩
  cases ty with
  | ax=>show⟨_,μ,_,_,_,_,μ,.ax,Jn,false,μ,aG k⟩
  | bl b=>show⟨_,μ,_,_,_,_,μ,.bl b,Jl,true,μ,bI ⟨_,μ,_,_,_,_,μ,.bl b,Jm,true,μ,k⟩⟩
  | int i=>show⟨_,μ,_,_,_,_,μ,.int i,tI,true,μ,bI ⟨_,μ,_,_,_,_,μ,.int i,mz,false,μ,k⟩⟩
  | str x=>show⟨_,μ,_,_,_,_,μ,.str x,Jo,false,μ,aG k⟩
  | lst e=>show⟨_,μ,_,_,_,_,μ,.lst e,Jp,false,μ,aG k⟩
  | tup e=>show⟨_,μ,_,_,_,_,μ,.tup e,Jq,false,μ,aG k⟩
  | dK e=>show⟨_,μ,_,_,_,_,μ,.dK e,Jr,false,μ,aG k⟩
def VM:aS ["thing","least","greatest"] ["thing","least","greatest"] (h_ BD):=⟨μ,μ,μ,ξ,μ,ξ,ξ⟩
def VN(F:aM K "is_between" "is_between" BD f fd)(D1:ak P w K mg base 1 "is_whole" ["thing"] qB):aA P w K mg base aI 2 f fd ["thing","least","greatest"] jm:=by
 show F.ok VM λao A outer s H vs Q E hr h=>?_
 .obtain⟨v,lo,hi,rfl,ty,k⟩:=h;show⟨_,g_<|m_<|iZ (o_ D1 hr (by rfl)<|a_ (pv 0) d_)<|kE<|HH jG jG (pv 1) (pv 0)<|pv 2,⟨_,μ,v,μ,ty,_,μ,?_⟩⟩
  cases v with
  | int i =>
   show bI ⟨_,μ,_,μ,_,_,μ,μ,_,μ,?_⟩;by_cases h1:lo<=i
   .rw[decide_eq_true h1];show bI ⟨_,μ,_,_,μ,μ,?_⟩;have e:bL (.int i) lo hi=decide (i<=hi):=by simp[bL,h1]
    rw[e] at k;show k
   .rw[decide_eq_false h1];show aG ?_;have e:bL (.int i) lo hi=false:=by simp[bL,h1]
    rw[e] at k;show k
  | _=>show aG k
def VO:aS ["thing","least","greatest"] ["thing","least","greatest"] (h_ w4):=⟨μ,μ,μ,ξ,μ,ξ,ξ⟩
def VP{f:Addr}{fd:FuncData}(F:aM K "is_list_between" "is_list_between" w4 f fd)(T:Txt mg)(D2:ak P w K mg base 2 "is_between" ["thing","least","greatest"] jm):aA P w K mg base aI 3 f fd ["thing","least","greatest"] wW:=by
 show F.ok VO λao A outer s H vs Q E hr h=>?_
 .obtain⟨a,xs,lo,hi,rfl,ha,bZ,VQ,k⟩:=h;show⟨_,g_<|m_<|iZ (p_ T_ η T.cC boot_isinstance<|a_ (pv 0)<|a_ (fu T.list boot_list) d_) <|kE<|p_ (TK μ) η T.all boot_all<|a_ (jg (h_ w4) ["thing","least","greatest"] ["least","greatest"] [1,2] μ (I_<|pv 0) (λcl C s H fp=>fm) (λcl C s H fp=>o_ D2 hr (by rfl)<|a_ (pv 0)<|a_ (pv 1)<|a_ (pv 2) d_)<|by decide +kernel) d_,⟨_,μ,_,_,_,_,μ,.lst ha,BB,true,μ,bI ?_⟩⟩;show⟨_,μ,a,μ,⟨_,ae.of ha⟩,S_ (λi ys H2=>ys=((xs.take i).map λx=>V.bl<|bL x lo hi)/\af H H2) ⟨θ,af.refl _⟩ (λi ys H2 _ p=>ae.of<|p.2 _ _ ha) ?_ ?_⟩
  .rintro i x ys H2 hx ⟨rfl,s2⟩;show⟨bK<|by rw[a1H,a2d];lia,⟨_,μ,_,μ,_,μ,x,lo,hi,μ,(VQ x (a1K hx)).keep s2,?_,s2⟩⟩;rw[a1P,hx];simp
  .rintro ys H2 ⟨rfl,s2⟩ D hD;show⟨D,xs.map λx=>bL x lo hi,μ,ae.of ?_,?_⟩
   .rw[c_,a1T,a3i];rfl
   .have e:(xs.map λx=>bL x lo hi).all id=xs.all λx=>bL x lo hi:=by rw[List.all_map];rfl
    rw[e];show k _<|N_ s2<|s2.free hD
def VR:aS ["thing"] ["thing"] (h_ BE):=⟨μ,μ,μ,ξ,μ,ξ,ξ⟩
def VS{f:Addr}{fd:FuncData}(F:aM K "is_frame" "is_frame" BE f fd)(T:Txt mg)(D2:ak P w K mg base 2 "is_between" ["thing","least","greatest"] jm)(D3:ak P w K mg base 3 "is_list_between" ["thing","least","greatest"] wW) : aA P w K mg base aI 4 f fd ["thing"] wX:=by
 show F.ok VR λao A outer s H vs Q E hr h=>?_
 .obtain⟨g,a,c,b,ps,ws,rfl,G,k⟩:=h;have ok:=G.ok;have lm:=ok.sum;show⟨_,b_ (E_ (PW.pt (iY (cY (V_ (p_ T_ η T.cC boot_isinstance (a_ (pv 0) (a_ (fu T.tuple boot_tuple) d_))))) (kA (t_ vY (dw T.len η (pv 0)) e_ (aY _))))) (g_ (m_ eG)) q_) (b_ (E_ (cY (V_ (o_ D2 hr.mo η (a_ (aW (pv 0) e_) (a_ e_ (a_ e_ d_)))))) (g_ (m_ eG)) q_) (b_ (E_ (PW.pt (iY (cY (V_ (o_ D3 hr η (a_ (aW (pv 0) e_) (a_ e_ (a_ e_ d_)))))) (kA (cY (AQ jG jG e_ (dw T.len η (aW (pv 0) e_)) e_))))) (g_ (m_ eG)) q_) (g_ (m_ (iZ (o_ D3 hr η (a_ (aW (pv 0) e_) (a_ (eO eQ e_) (a_ e_ d_)))) (kE (ge dI (dw T.len η (aW (pv 0) e_)) (p_ (xS μ) η T.sum boot_sum (a_ (aW (pv 0) e_) d_)) (aY _)))))))),⟨_,μ,_,_,_,_,μ,.tup G.tp,wV,true,μ,aG ?_⟩⟩;show⟨_,μ,g,_,μ,.inr (aB.of G.tp),μ,_,μ,IC μ (⟨_,μ,_,_,_,_,μ,μ,aB.of G.tp,μ,⟨.int b,2,16,μ,.int _,_,μ,?_⟩⟩)⟩
  have e1:bL (.int b) 2 16=true:=by
   have h1:=ok.b2;have h2:=ok.b8;simp only[bL,a2v,decide_eq_true_eq];lia
  rw[e1];show aG (⟨_,μ,_,_,_,_,μ,μ,aB.of G.tp,μ,⟨a,_,1,6,μ,G.hp,(by simp[az];have:=ok.l4;lia),Uv ps,λH1 s1=>⟨_,μ,?_⟩⟩⟩);have e2:((az ps).all λx=>bL x 1 6)=true:=Us ok.pr;rw[e2];show aG (⟨_,μ,_,_,_,_,μ,μ,aB.of (s1 _ _ G.tp),μ,⟨a,_,μ,.inl (ae.of (s1 _ _ G.hp)),_,_,μ,μ,_,μ,?_⟩⟩);have e3:((az ps).length:Int)=ps.length:=by simp[az]
  have l2:=ok.l2;have l4:=ok.l4;show dQ (λ_=>?_) (λh=>absurd (decide_eq_true Z) h);show⟨_,_,μ,μ,_,μ,(IC Z ?_)⟩;show⟨_,μ,_,_,_,_,μ,μ,aB.of (s1 _ _ G.tp),μ,⟨_,μ,⟨c,_,-9,9,μ,s1 _ _ G.hw,(by rw[a1H,ok.wl];lia),Uu ws,λH2 s2=>⟨_,μ,?_⟩⟩⟩⟩;have e4:((ws.map V.int).all λx=>bL x (-9) 9)=true:=Ut ok.wr;rw[e4];show bI ?_;have G2:=(G.keep s1).keep s2;show⟨_,μ,_,_,_,_,μ,μ,aB.of G2.tp,μ,⟨c,_,μ,.inl (ae.of G2.hw),(⟨_,μ,_,_,_,_,μ,μ,aB.of G2.tp,μ,⟨a,ps.map λ(p:Nat)=>(p:Int),μ,ae.of (by rw[<-Bz];show G2.hp),μ,?_⟩⟩)⟩⟩
  .have e5:decide (V.int ((ws.map V.int).length:Int)=V.int (ps.map λ(p:Nat)=>(p:Int)).sum)=true:=by rw[decide_eq_true_eq,Ma.Bx,a1H,ok.wl]
   rw[e5];show k H2 (s1.trans s2)
def VT:aS ["thing"] ["thing"] (h_ BF):=⟨μ,μ,μ,ξ,μ,ξ,ξ⟩
def VU(F:aM K "need_frame" "need_frame" BF f fd)(D4:ak P w K mg base 4 "is_frame" ["thing"] wX):aA P w K mg base aI 5 f fd ["thing"] kT:=by
 show F.ok VT λao A outer s H vs Q E hr h=>?_
 .obtain⟨g,a,c,b,ps,ws,rfl,G,k⟩:=h;show⟨_,g_<|E_ (cY<|V_<|o_ D4 hr (by rfl)<|a_ (pv 0) d_) jb q_,(⟨_,μ,g,a,c,b,ps,ws,μ,G,λH1 s1=>⟨_,μ,aG (k H1 s1)⟩⟩)⟩
def xT:aS ["frame","many","place"] ["frame"] (h_ BG):=⟨μ,μ,μ,ξ,μ,ξ,ξ⟩
def VW(F:aM K "how_many" "how_many" BG f fd)(T:Txt mg)(D5:ak P w K mg base 5 "need_frame" ["thing"] kT):aA P w K mg base aI 6 f fd ["frame"] kX:=by
 show F.ok xT λao A outer s H vs Q E hr h=>?_
 .obtain⟨g,a,c,b,ps,ws,rfl,G,k⟩:=h;have ok:=G.ok;have lm:=ok.sum;show⟨_,b_ (G_ (o_ D5 hr η (a_ (pv 0) d_))) (b_ (i_ 1 (hN:=xT.nd) e_) (b_ (B_ PassesOwn.never μ (z_ η T.range (a_ (dw T.len η (aW (pv 0) e_)) d_)) (k_ 2 (hN:=xT.nd)) (g_ (i_ 1 (hN:=xT.nd) (n_ Q_ (pv 1) (aW (pv 0) e_))))) (g_ (m_ (pv 1))))),⟨_,μ,g,a,c,b,ps,ws,μ,G,λH1 s1=>?_⟩⟩;have G1:=G.keep s1;show⟨_,μ,_,_,_,_,μ,μ,aB.of G1.tp,μ,⟨c,_,μ,.inl (ae.of G1.hw),_,μ,Z,(by rw[a1H,ok.wl];lia),?_⟩⟩;have en:((ws.map V.int).length:Int).toNat=ps.sum:=by rw[a1H,ok.wl];lia
  rw[en];show H_ (λi σ H2=>H2=H1/\∃v,σ=[some (.ref g),some (.int ((b ^ i:Nat))),v]) ⟨μ,none,μ⟩ ?_ ?_
  .rintro i σ H2 hi ⟨rfl,v,rfl⟩;show⟨_,μ,_,μ,_,_,_,_,μ,μ,aB.of G1.tp,μ,⟨_,_,μ,μ,.inr ⟨Z,by have:=ok.b8;lia⟩,μ,some (.int (0+ i )),?_⟩⟩;rw[a2S];push_cast;rfl
  .rintro σ H2 ⟨rfl,v,rfl⟩;show⟨_,μ,k _ s1⟩
def VX:aS ["frame","thing"] ["frame","thing"] (h_ BH):=⟨μ,μ,μ,ξ,μ,ξ,ξ⟩
def VY(F:aM K "need_number" "need_number" BH f fd)(D2:ak P w K mg base 2 "is_between" ["thing","least","greatest"] jm)(D6:ak P w K mg base 6 "how_many" ["frame"] kX) : aA P w K mg base aI 7 f fd ["frame","thing"] wY:=by
 show F.ok VX λao A outer s H vs Q E hr h=>?_
 .obtain⟨g,a,c,b,ps,ws,n,rfl,G,hn,k⟩:=h;show⟨_,g_<|E_ (cY<|V_<|o_ D2 hr.mo (by rfl)<|a_ (pv 1)<|a_ e_<|a_ (n_ R_ (o_ D6 hr (by rfl)<|a_ (pv 0) d_) e_) d_) jb q_,(⟨_,μ,_,μ,g,a,c,b,ps,ws,μ,G,λH1 s1=>⟨_,_,μ,μ,.int n,0,_,μ,.int _,_,μ,?_⟩⟩)⟩
  have e:bL (.int  n ) 0 (((b ^ ps.sum:Nat))-1)=true:=by
   simp only[bL,a2v,decide_eq_true_eq];lia
  rw[e];show aG<|k H1 s1
def uc:aS ["frame","n","figures","rest","place"] ["frame","n"] (h_ BJ):=⟨μ,μ,μ,ξ,μ,ξ,ξ⟩
def VZ(F:aM K "figures_of" "figures_of" BJ f fd)(T:Txt mg)(D5:ak P w K mg base 5 "need_frame" ["thing"] kT)(D7:ak P w K mg base 7 "need_number" ["frame","thing"] wY) : aA P w K mg base aI 8 f fd ["frame","n"] wZ:=by
 show F.ok uc λao A outer s H vs Q E hr h=>?_
 .obtain⟨g,a,c,b,ps,ws,n,rfl,G,hn,k⟩:=h;have ok:=G.ok;have lm:=ok.sum;have b2:=ok.b2;have b8:=ok.b8;show⟨_,b_ (G_ (o_ D5 hr.mo η (a_ (pv 0) d_))) (b_ (G_ (o_ D7 hr η (a_ (pv 0) (a_ (pv 1) d_)))) (b_ (i_ 2 (hN:=uc.nd) (x_ d_)) (b_ (i_ 3 (hN:=uc.nd) (pv 1)) (b_ (B_ PassesOwn.never μ (z_ η T.range (a_ (dw T.len η (aW (pv 0) e_)) d_)) (k_ 4 (hN:=uc.nd)) (b_ (G_ (fk PySem.F.plainAttrs_list PySem.F.slot_list_append PySem.F.type_list_append K_ (pv 2) (a_ (n_ jF (pv 3) (aW (pv 0) e_)) d_))) (g_ (i_ 3 (hN:=uc.nd) (n_ vX (pv 3) (aW (pv 0) e_)))))) (g_ (m_ (Ub μ T.list T.rev η η (pv 2)))))))),⟨_,μ,g,a,c,b,ps,ws,μ,G,λH1 s1=>?_⟩⟩;have G1:=G.keep s1;show⟨_,μ,_,μ,g,a,c,b,ps,ws,n,μ,G1,hn,λH2 s2=>?_⟩;have G2:=G1.keep s2;show⟨sz ζ,λl hl=>?_⟩;have s3:af H2 (upd H2 l (.lst [])):=f_ hl;have G3:=G2.keep s3;show⟨_,μ,_,μ,_,_,_,_,μ,μ,aB.of G3.tp,μ,⟨c,_,μ,.inl (ae.of G3.hw),_,μ,(by rw[a1H,ok.wl];lia),(by rw[a1H,ok.wl];lia),?_⟩⟩;have en:((ws.map V.int).length:Int).toNat=ps.sum:=by rw[a1H,ok.wl];lia
  rw[en];show H_ (λi σ H4=>∃v,σ=[some (.ref g),some (.int n),some (.ref l),some (.int ((n / b ^ i:Nat):Int)),v]/\af H2 H4/\H4 l=some (.lst (az (Ma.ups b n i)))) ⟨none,(by rw[a3u,a4Z];rfl),s3,c_⟩ ?_ ?_
  .rintro i σ H4 hi ⟨v,rfl,s4,h4⟩;have G4:=G2.keep s4;show⟨_,μ,.inl ⟨μ,_,ae.of h4⟩,_,μ,_,μ,_,_,_,_,μ,μ,aB.of G4.tp,μ,⟨_,_,μ,μ,(by change(0:Int)<b;lia),l,_,_,μ,μ,h4,bK (by simp[az,Ma.Uk];lia),?_⟩⟩;have s5:af H2 (upd H4 l (.lst (az (Ma.ups b n i)++[V.int (((n / b ^ i:Nat):Int) % (b:Int))]))):=N_ s4 hl;show⟨_,μ,_,μ,_,_,_,_,μ,μ,aB.of (G2.keep s5).tp,μ,⟨_,_,μ,μ,⟨by change(0:Int)<b;lia,by change(b:Int)<1073741824;lia⟩,some (.int (0+(i:Int))),?_,s5,?_⟩⟩
   .rw[<-Ma.Um];push_cast;rfl
   .rw[c_,Ma.Uj];simp[az]
  .rintro σ H4 ⟨v,rfl,s4,h4⟩;show⟨_,μ,l,_,μ,ae.of h4,λr cf=>(k r _ ?_ ((s1.trans s2).trans (N_ s4 (s4.free cf))) ?_)⟩;.show(s1.trans (s2.trans s4)).free cf
   .rw[c_,<-Ma.Ul];simp[az]
abbrev lq(H:Hp)(qs:List Addr)(rows:List (List Int)):Prop:=Paired (λq row=>H q=some (.lst (row.map V.int))) qs rows
def lq.xU(s:∀b∈qs,∀row:List Int,H b=some (.lst (row.map V.int))->H' b=some (.lst (row.map V.int)))(h:lq H qs rows):lq H' qs rows:=by
 induction h with
 | nil=>show .nil
 | cons h _ ih=>show .cons (s _ θ _ h)<|ih λb hb=>s b<|a2m _ hb
def oX{rows:List (List Int)}{i:Nat}{q:Addr}(h:Paired F qs rows)(e:qs[i]?=some q):∃row,rows[i]?=some row/\F q row:=Paired.at h e
inductive qQ(vs:List V)(H:Hp)(Q:VK)(aw:XK):Prop
 | mk:∀f a c b ps ws,∀(r:Addr) (xs:List Int),(vs=[.ref f,.ref r])->(aU H f a c b ps ws)->(H r=some (.lst (xs.map V.int)))->(∀p qs H',af H H'->H' p=some (.lst (qs.map V.ref))->lq H' qs (Ma.ar ps xs)->Q (.ref p) H')->qQ vs H Q aw
def xV{i k:Nat}:dc xs (some (i:Int)) (some ((i:Int)+(k:Int)))=(xs.drop i).take k:=by
 have e: i + k =((i+k:Nat):Int):=by lia
 unfold dc;rw[e,HT.sS,HT.sS];rcases a4R i _ with h | h
 .rw[a3s h];rcases a4R _ _ with h2 | h2;.rw[a3s h2,a3L]
  .rw[a4G h2,a2t (by rw[a2k];lia),a2t (by rw[a2k];lia)]
 .simp_all
def Kj:aS ["frame","row","pieces","start","length"] ["frame","row"] (h_ BI):=⟨μ,μ,μ,ξ,μ,ξ,ξ⟩
def V0(F:aM K "cut_by_parts" "cut_by_parts" BI f fd):aA P w K mg base aI 1 f fd ["frame","row"] qQ:=by
 show F.ok Kj λao A outer s H vs Q E hr h=>?_
 .obtain⟨g,a,c,b,ps,ws,r,xs,rfl,G,aT,k⟩:=h;have nd:=Kj.nd;have l4:=G.ok.l4;show⟨_,b_ (i_ 2 (x_ d_)) (b_ (i_ 3 e_) (b_ (B_ PassesOwn.never μ (I_ (aW (pv 0) e_)) (k_ 4) (b_ (G_ (fk PySem.F.plainAttrs_list PySem.F.slot_list_append PySem.F.type_list_append K_ (pv 2) (a_ (jH kN (pv 1) (gH (pv 3)) (gH (n_ u_ (pv 3) (pv 4)))) d_))) (g_ (i_ 3 (n_ u_ (pv 3) (pv 4)))))) (g_ (m_ (pv 2))))),⟨sz ζ,λp hp=>?_⟩⟩;have s1:af H (upd H p (.lst [])):=f_ hp;have G1:=G.keep s1;show⟨_,μ,_,_,_,_,μ,μ,aB.of G1.tp,μ,a,μ,⟨_,ae.of G1.hp⟩,Y_ (K:=K) (λi σ H2=>∃(qs:List Addr) (v4:Option V),σ=[some (.ref g),some (.ref r),some (.ref p),some (.int (((ps.take i).sum:Nat):Int)),v4]/\ af H H2/\H2 p=some (.lst (qs.map V.ref))/\qs.length=i/\lq H2 qs ((Ma.ar ps xs).take i)) ⟨[],none,μ,s1,c_,μ,.nil⟩ (λi σ H2 _ h=>by obtain⟨_,_,_,s2,_⟩:=h;show ae.of (s2 _ _ G.hp)) ?_ ?_⟩
  .rintro i x σ H2 hx ⟨qs,v4,rfl,s2,cG,bz,rows⟩
   have hi:i<ps.length:=by
    have:=(a1I.mp hx).1;simpa [az] using this
   have e:ps[i]?=some ps[i]:=by simp[hi]
   have ex:x=V.int ((ps[i]:Nat):Int):=by
    have:(az ps)[i]?=some (V.int ((ps[i]:Nat):Int)):=by simp[az,hi]
    rw[this] at hx;show(a1Q hx).symm
   subst ex;show⟨_,μ,.inl ⟨μ,_,ae.of cG⟩,_,μ,_,μ,_,μ,_,μ,_,μ,_,_,μ,μ,_,μ,r,_,μ,ae.of (s2 _ _ aT),λq hq=>?_⟩;have pq:p≠q:=l_ cG hq;show⟨p,_,_,μ,μ,(by rw[j_ pq];show cG),bK (by rw[a1H];lia),⟨_,μ,_,μ,_,_,μ,μ,qs++[q],some (.int ((ps[i]:Nat):Int)),?_,N_ (N_ s2 (s2.free hq)) hp,?_,by simp[bz],?_⟩⟩
   .rw[a1P,e,a2q];change[some (V.ref g),some (.ref r),some (.ref p),some (.int (((ps.take i).sum:Nat)+((ps[i]:Nat):Int))),_]=_;simp
   .rw[c_];simp
   .rw[a1P,Ma.oB ps xs i ps[i] e];show Paired.snoc (lq.xU (λbb hb row z=>?_) rows) ?_
    .have bp:bb≠p:=sD z cG (by
      intro e;have e':row.map V.int=qs.map V.ref:=by injection e
      have m1:V.ref bb∈row.map V.int:=by rw[e'];show a1U.mpr ⟨bb,hb,μ⟩
      obtain⟨_,_,m2⟩:=a1U.mp m1;cases m2);rw[j_ bp,j_ (l_ z hq)];show z
    .rw[j_ pq.symm,c_,xV,<-a4H,<-a5b]
  .rintro σ H2 ⟨qs,v4,rfl,s2,cG,bz,rows⟩;show⟨_,μ,k p qs H2 s2 cG ?_⟩;have e:(az ps).length=(Ma.ar ps xs).length:=by rw[Ma.D_];simp[az]
   rw[e,a1T] at rows;show rows
noncomputable def spread(zs:List Int):Int:=Ma.aP zs-Ma.aK zs
abbrev mK(b n:Nat)(ps:List Nat)(ws:List Int):List Int:=Ma.jk ps (Ma.dR b n ps.sum ws)
def V1(ok:fX b ps ws):0<(mK b n ps ws).length:=by
 have:=ok.l2;rw[Ma.wP];omega
end Hv
namespace L2
open PySem PySem.Spec PyProof.Rows
theorem Kk{al:Type}(xs:List al):∀n,n<=xs.length->(((List.range n).map λ(k:Nat)=>xs.length-1-k).filterMap λi=>xs[i]?)=xs.reverse.take n
 | 0,_=>by simp
 | n+1,h=>by
  rw[a3P,a2i,List.filterMap_append,Kk xs n Z,a1P,a4C (by lia)];have e:xs[xs.length-1-n]?=some (xs[xs.length-1-n]'(by lia)):=by simp
  simp[e]
def V2{al:Type}(xs:List al):(((List.range xs.length).map λ(k:Nat)=>xs.length-1-k).filterMap λi=>xs[i]?)=xs.reverse:=by rw[Kk xs _ (a1M _),a2t (by simp)]
def V3(ad:List Value):slicePick ad.toArray none none (some (-1))=ad.reverse.toArray:=by
 unfold slicePick;rw[<-V2 ad];congr 1
 have e:sliceRange (sliceBounds none none (some (-1)) ad.toArray.size).1 (sliceBounds none none (some (-1)) ad.toArray.size).2.1 (sliceBounds none none (some (-1)) ad.toArray.size).2.2=(List.range ad.length).map λ k =>ad.length-1-k:=by
  have e1:sliceBounds none none (some (-1)) ad.toArray.size=((ad.length:Int)-1,-1,-1):=by simp[sliceBounds]
  rw[e1]
  have e2:(if  -1 >0 then (if ((ad.length:Int)-1) < -1 then (-1-((ad.length:Int)-1) + -1-1) / -1 else 0) else (if ((ad.length:Int)-1) > -1 then (((ad.length)-1) - -1 - -1-1) / (-(-1)) else 0)).toNat=ad.length:=by
   rw[if_neg (by decide)];split;.rw[show -(-1) =1 by decide,Int.ediv_one];lia
   .lia
  change List.map _ (List.range (Int.toNat _))=_;rw[e2];show a2G λk hk=>?_;have:=a3T.mp hk;lia
 rw[e];simp only[List.getElem?_toArray]
section
variable{e st:Expr}
def V4(K:PySem.W.Frag)(te ts:TE):TE:=fun σ H Q=>te σ H λx H1=>ts σ H1 λy H2=>y=.int (-1)/\∃a xs,x=.ref a/\ae K H2 a xs/\∀p,H2 p=none->Q (.ref p) (upd H2 p (.lst xs.reverse))
def aE.rev{ad:List Value}(r:aE xs ad):aE xs.reverse ad.reverse:=by
 induction r with
 | nil=>show .nil
 | cons h _ ih=>rw[a3R,a3R];show Paired.snoc ih h
def Kl(he:PE X e te)(hs:PE X st ts):PE X (.Subscript e (.Slice none none (some st) p2) pos) (V4 X.K te ts):=by
 show λaa s σ H Q I h=>Subscript_<|au (he aa s σ H _ I h) λv s1 ⟨x,H1,I1,r1,q1⟩=>?_;show wpAny_Slice ?_;show wpAny_pure<|wpAny_pure ?_;show au (hs aa s1 σ H1 _ I1 q1) λvs s3 ⟨y,H3,I3,r3,q3⟩=>?_;obtain⟨rfl,a,xs,rfl,hx,q⟩:=q3;obtain⟨t,rfl⟩:=r3;cases r1;have I4:Inv X aa σ H3 {s3 with heap:=s3.heap.push {cls:=.type "slice",data:=.fields #[.none,.none,.int (-1) t]}}:=I3.kept λb ob q=>a1J _ q;obtain⟨ad,r,ht,hz⟩:=I4.list hx;have bZ:=r.length
 have hg:wpAny (model X.prog X.w) X.A (getItem (.ref a)<|.ref s3.heap.objs.size) (EP X aa σ Q) X.xe {s3 with heap:=s3.heap.push {cls:=.type "slice",data:=.fields #[.none,.none,.int (-1) t]}}:=by
  show wpAny_getItem_list_slice ht.isList (Heap.IsSliceOf.new ..) .none .none (.int _ t) θ ?_<|by rw[a1W] <;> lia
  rw[V3];show⟨.ref _,_,I4.laid (o:=.lst _) (λb ob q=>a1J _ q) (a1M _) ⟨by rw[a2M];show hz,_,0,aE.rev r,a1S _ μ⟩,μ,q _<|I4.am.fresh<|a1M _⟩
 show tail_any ht.isList.typeIs slot_list_getitem.lookup hg<|by with_unfolding_all rfl
end
end L2
namespace Hv
open PySem L2
def Km{c A B:Prop}[Decidable c](h1:A)(h2:B):if c then A else B:=dQ (λ_=>h1) λ_=>h2
def CK{c A:Prop}[Decidable c]{nx:St->Hp->Prop}{σ:St}{H:Hp}(Good:St->Hp->Prop)(h:∀ σ H,Good σ H->nx σ H)(hA:(∀ σ H,Good σ H->nx σ H)->A)(hB:Good σ H):if c then A else nx σ H:=Km (hA h) (h _ _ hB)
def CL{k:Nat}:dc xs none (some (k:Int))=xs.take k:=by
 unfold dc;rw[HT.AX,HT.sS,a3X,a3O];rcases a4R k _ with h | h;.rw[a3s h]
 .rw[a4G h,a2t (a1M _),a2t h]
def mL{ns:List Int}{i:Int}{Pr:Int->Prop}(h0:0<=i)(h1:i<ns.length)(h:∀n∈ns,Pr n):∃n,df (ns.map V.int) i=some (.int n)/\Pr n:=by
 obtain⟨v,e,n,rfl,hn⟩:=Jk (xs:=ns.map V.int) (Pr:=λv=>∃n,v=.int n/\Pr n) h0 (by rw[a1H];show h1) (λx hx=>by
  obtain⟨n,hn,rfl⟩:=a1U.mp hx;show⟨n,μ,h n hn⟩);show⟨n,e,hn⟩
def V5{n x:Nat}:(List.replicate n [V.int (x:Int)]).flatten=az (List.replicate n x):=by simp
def V6{ps:List Nat}(h:∀p∈ps,1<=p/\p<=6):∀n∈ps.map λ(p:Nat)=>(p:Int),-1000000000<=n/\n<=1000000000:=λn hn=>by
 obtain⟨p,hp,rfl⟩:=a1U.mp hn;have:=h p hp;lia
def V7(k:Bool):qh j (if k=true then 1 else 0):=.inr (by cases k <;> decide)
def bh(H:Hp)(s:Addr):Prop:=∃g c k:Int,H s=some (.lst [.int g,.int c,.int k])
def bh.keep(h:bh H s)(t:af H H'):bh H' s:=let ⟨g,c,k,e⟩:=h;⟨g,c,k,t _ _ e⟩
def bh.off(h:bh H s)(e:H l=none):l≠s:=λz=>by
 obtain⟨g,c,k,q⟩:=h;rw[z,q] at e;cases e
def bh.eY(h:bh H s)(e:H l=none):l∉[s]:=λz=>h.off e<|by simpa using z
theorem bh.upd(h:bh H s)(n:l≠s):bh (L2.upd H l o) s:=let ⟨g,c,k,e⟩:=h;⟨g,c,k,by rw[j_ n.symm];show e⟩
inductive xW(K:PySem.W.Frag)(vs:List V)(H:Hp)(Q:VK)(aw:XK):Prop
 | mk:∀(a:Addr) (ns:List Int) (k:Nat),(vs=[.ref a,.int k])->(ae K H a (ns.map V.int))->(k<=1000)->(∀c:Int,Q (.int c) H)->xW K vs H Q aw
inductive xX(vs:List V)(H:Hp)(Q:VK)(aw:XK):Prop
 | mk:∀c:Int,(vs=[.int c])->(∀s H',H s=none->af H H'->bh H' s->Q (.ref s) H')->xX vs H Q aw
inductive gu(vs:List V)(H:Hp)(Q:VK)(aw:XK):Prop
 | mk:∀(s:Addr) (m:Int),(vs=[.ref s,.int m])->(bh H s)->(0<m)->(m<1073741824)->(∀(r:Int) (H':Hp),0<=r->r<m->bh H' s->Kp [s] H H'->Q (.int r) H')->gu vs H Q aw
inductive xY(vs:List V)(H:Hp)(Q:VK)(aw:XK):Prop
 | mk:∀(s:Addr) (L:Int),(vs=[.ref s,.int L])->(bh H s)->(1<=L)->(L<=6)->(∀f a c b ps ws H',bh H' s->Kp [s] H H'->aU H' f a c b ps ws->H f=none->H a=none->H c=none->Q (.ref f) H')->xY vs H Q aw
def V8:aS ["script","k"] ["script","k"] (h_ B8):=⟨μ,μ,μ,ξ,μ,ξ,ξ⟩
def V9(F:aM K "_law_cell" "_law_cell" B8 f fd)(T:Txt mg):aA P w K mg base aI 1 f fd ["script","k"] (xW K):=by
 show F.ok V8 λao A outer s H vs Q E hr h=>?_
 .obtain⟨a,ns,j,rfl,hS,hj,k⟩:=h;show⟨_,b_ (E_ (t_ kH (pv 1) (dw T.len (by rfl)<|pv 0)<|aY _) (g_<|m_<|bf (pv 0)<|pv 1) q_) <|g_<|m_<|n_ u_ (n_ u_ (n_ Q_ (n_ Q_ e_<|pv 1)<|pv 1)<|n_ Q_ e_<|pv 1) e_,⟨_,μ,_,μ,a,_,μ,.inl hS,_,_,μ,μ,_,μ,dQ (λh=>?_) (λ_=>?_)⟩⟩
  .have h':j<ns.length:=by
    have:=of_decide_eq_true h;rw[a1H] at this;lia
   show⟨_,μ,_,μ,a,_,_,_,μ,μ,hS,Z_ (v:=V.int ns[j])<|by simp[h'],k _⟩
  .show⟨_,μ,_,_,μ,μ,.inl ⟨ζ,ζ⟩,_,μ,_,_,μ,μ,.inr ⟨Z,Z⟩,_,μ,_,_,μ,μ,.inl ⟨ζ,ζ⟩,_,_,μ,μ,_,_,μ,μ,k _⟩
def CM:aS ["cell","great"] ["cell"] (h_ B9):=⟨μ,μ,μ,ξ,μ,ξ,ξ⟩
def V'(F:aM K "_law_store" "_law_store" B9 f fd):aA P w K mg base aI 1 f fd ["cell"] xX:=by
 show F.ok CM λao A outer s H vs Q E hr h=>?_
 .obtain⟨c,rfl,k⟩:=h;show⟨_,b_ (i_ 1 (hN:=CM.nd) e_) <|b_ (E_ (t_ vZ (pv 0) (n_ nZ e_ e_)<|aY _) (g_<|i_ 1 (hN:=CM.nd)<|pv 0) q_) <|g_<|m_<|x_<|a_ (pv 1)<|a_ (n_ jF (pv 0) e_)<|a_ e_ d_,(⟨_,μ,_,_,μ,μ,⟨ζ,ζ,ζ⟩,_,_,μ,μ,_,μ,?_⟩)⟩;show CK (fun σ H'=>H=H'/\∃g:Int,σ=[some (.int c),some (.int g)]) ?_ (λhT=>⟨_,μ,hT _ _ ⟨μ,_,μ⟩⟩) ⟨μ,_,μ⟩;rintro σ H' ⟨rfl,g,rfl⟩;show⟨_,μ,_,μ,_,_,μ,μ,ζ,sz<|by simp,λl hl=>k l _ hl (f_ hl) ⟨_,_,_,c_⟩⟩
def Kn:aS ["store","many","told","one"] ["store","many"] (h_ B'):=⟨μ,μ,μ,ξ,μ,ξ,ξ⟩
def Wa(F:aM K "_law_take" "_law_take" B' f fd):aA P w K mg base aI 1 f fd ["store","many"] gu:=by
 show F.ok Kn λao A outer s H vs Q E hr h=>?_
 .obtain⟨q,m,rfl,⟨g,c,j,hc⟩,m0,m1,k⟩:=h;have nd:=Kn.nd;show⟨_,b_ (E_ (t_ mh (bf (pv 0) e_) e_<|aY _) (b_ (i_ 2<|n_ jF (bf (pv 0) e_)<|pv 1) <|b_ (eJ (n_ vX (bf (pv 0) e_)<|pv 1)<|nV (pv 0) e_ oj) <|g_<|m_<|pv 2) q_) <|b_ (eJ (n_ u_ (bf (pv 0) e_) e_)<|nV (pv 0) e_ oj) <|b_ (i_ 3<|n_ jF (n_ Q_ (n_ u_ (bf (pv 0) e_)<|n_ Q_ e_<|bf (pv 0) e_) e_) e_) <|b_ (i_ 3<|n_ jF (n_ Q_ (pv 3)<|pv 3) e_) <|b_ (i_ 3<|n_ jF (n_ Q_ (n_ u_ (pv 3)<|n_ Q_ e_<|bf (pv 0) e_) e_) e_) <|g_<|m_<|n_ jF (n_ vX (pv 3) e_)<|pv 1,?_⟩;have fin:=λc' e' j' r r0 r1=>k r _ r0 r1 ⟨c',e',j',c_⟩<|dL Kp.refl<|.inl<|by simp
  show⟨_,μ,_,_,_,_,μ,μ,ae.of hc,μ,⟨_,_,μ,μ,_,μ,Km ?way1 ?way2⟩⟩
  case way1 =>
   show⟨_,μ,_,_,_,_,μ,μ,ae.of hc,μ,⟨_,μ,_,_,μ,μ,m0,(⟨_,μ,_,_,_,_,μ,μ,ae.of hc,μ,⟨_,μ,_,_,μ,μ,⟨m0,m1⟩,_,μ,q,_,_,_,μ,μ,hc,μ,?_⟩⟩)⟩⟩;show⟨_,μ,fin (g / m) c j (g % m) (a4i _<|by lia)<|a4n _ m0⟩
  case way2 =>
   show⟨_,μ,_,_,_,_,μ,μ,ae.of hc,μ,⟨_,_,μ,μ,_,μ,q,_,_,_,μ,μ,hc,μ,(⟨_,μ,_,_,_,_,μ,μ,ae.of c_,μ,⟨_,μ,_,_,_,_,μ,μ,ae.of c_,μ,⟨_,_,μ,μ,.inl ⟨ζ,ζ⟩,_,_,μ,μ,_,_,μ,μ,.inr ⟨ζ,ζ⟩,_,_,μ,μ,(by change(0:Int)<2147483647;decide),?_⟩⟩⟩)⟩⟩;show⟨_,μ,_,μ,_,_,μ,μ,.inl ⟨Z,Z⟩,_,_,μ,μ,ζ,(⟨_,μ,_,μ,_,_,_,_,μ,μ,ae.of c_,μ,⟨_,_,μ,μ,.inl ⟨ζ,ζ⟩,_,_,μ,μ,_,_,μ,μ,.inr ⟨ζ,ζ⟩,_,_,μ,μ,(by change(0:Int)<2147483587;decide),?_⟩⟩)⟩;show⟨_,μ,_,_,μ,μ,⟨ζ,ζ⟩,_,μ,_,_,μ,μ,m0,(fin g c (j+1) _ (a4i _ Z) (a4n _ m0))⟩
def Ko:aS ["store","longest","base","parts","way","one","weights","k","any_one","some"] ["store","longest"] (h_ xk):=⟨μ,μ,μ,ξ,μ,ξ,ξ⟩
def Wb(F:aM K "_law_frame" "_law_frame" xk f fd)(T:Txt mg)(D1:ak P w K mg base 1 "_law_take" ["store","many"] gu):aA P w K mg base aI 2 f fd ["store","longest"] xY:=by
 show F.ok Ko λao A outer s H vs Q E hr h=>?_
 .obtain⟨d,L,rfl,D,L1,L6,k⟩:=h;have nd:=Ko.nd;show⟨_,b_ (i_ 2 (bf (x_ (a_ e_ (a_ e_ (a_ e_ (a_ e_ (a_ (n_ u_ e_ (o_ D1 hr η (a_ (pv 0) (a_ e_ d_)))) d_)))))) (o_ D1 hr η (a_ (pv 0) (a_ e_ d_))))) (b_ (qw (h_ xk) ["store","longest","base","parts","way","one","weights","k","any_one","some"] ["store","longest"] [0,1] (i:=3) nd μ (Or.inl μ) μ (z_ η T.range (a_ (bf (x_ (a_ e_ (a_ e_ (a_ e_ (a_ e_ d_))))) (o_ D1 hr η (a_ (pv 0) (a_ e_ d_)))) d_)) (λcl C s H fp=>fm) (λcl C s H fp=>n_ u_ e_ (o_ D1 hr η (a_ (pv 1) (a_ (pv 2) d_)))) ξ η) (b_ (E_ (t_ dI (o_ D1 hr η (a_ (pv 0) (a_ e_ d_))) e_ (aY _)) (g_ (i_ 3 (n_ SR (jH kN (pv 3) qj (gH e_)) (dw T.len η (pv 3))))) q_) (b_ (i_ 4 (o_ D1 hr η (a_ (pv 0) (a_ e_ d_)))) (b_ (i_ 5 (n_ R_ (o_ D1 hr η (a_ (pv 0) (a_ e_ d_))) e_)) (b_ (i_ 6 (x_ d_)) (b_ (B_ PassesOwn.never μ (z_ η T.range (a_ (p_ (TL μ) η T.sum boot_sum (a_ (pv 3) d_)) d_)) (k_ 7) (b_ (i_ 8 (n_ R_ (o_ D1 hr η (a_ (pv 0) (a_ e_ d_))) e_)) (b_ (i_ 9 (x_ (a_ e_ (a_ (pv 5) (a_ (n_ jF (pv 8) e_) (a_ (pv 8) (a_ (n_ Q_ (pv 8) (J_ kI η T.int boot_int (a_ (ge dI (o_ D1 hr η (a_ (pv 0) (a_ e_ d_))) e_ (aY _)) d_))) (a_ (n_ u_ (n_ jF (pv 7) (bf (pv 3) e_)) e_) d_)))))))) (g_ (G_ (fk PySem.F.plainAttrs_list PySem.F.slot_list_append PySem.F.type_list_append K_ (pv 6) (a_ (bf (pv 9) (pv 4)) d_))))))) (g_ (m_ (dJ (a_ (pv 2) (a_ (pv 3) (a_ (pv 6) d_)))))))))))),?_⟩;show⟨_,μ,d,15,μ,D,ζ,ζ,λr1 H1 a1 b1 E1 k1=>⟨_,_,μ,μ,sz θ,λl1 bV=>?_⟩⟩;show⟨_,μ,d,5,μ,E1.keep (f_ bV),ζ,ζ,λr2 H2 a2 b2 E2 k2=>?_⟩;obtain⟨bi,eb,hb⟩:=mL (ns:=[2,3,10,16,2+r1]) (Pr:=λn=>2<=n/\n<=16) a2 b2 (by simp;lia);obtain⟨b,rfl⟩:∃b:Nat,bi=b:=⟨bi.toNat,Z⟩;show bU (k2 l1 _ c_ (E1.eY bV)) eb ?_;have K2:Kp [d] H H2:=k1.trans ((Kp.of (f_ bV)).trans k2);show⟨sz θ,λl3 cv=>⟨_,μ,d,4,μ,E2.keep (f_ cv),ζ,ζ,λr5 H5 a5 b5 E5 k5=>?_⟩⟩;obtain⟨np,en,hnp⟩:=mL (ns:=[2,2,3,4]) (Pr:=λn=>2<=n/\n<=4) a5 b5 θ;have K5:Kp [d] H H5:=K2.trans ((Kp.of (f_ cv)).trans k5);show bU (k5 l3 _ c_ (E2.eY cv)) en ⟨_,μ,Z,Z,wL (lo:=0) (n:=np.toNat) (λi ys H6=>∃ps:List Nat,ys=az ps/\ps.length=i/\(∀x∈ps,1<=x/\x<=6)/\bh H6 d/\Kp [d] H H6) ⟨[],μ,μ,λx hx=>by simp at hx,E5,K5⟩ ?_ ?_⟩
  .rintro i ys H6 hi ⟨ps,rfl,hl,hp,E6,K6⟩;show⟨bK (by simp[az];lia),?_⟩;show⟨_,μ,_,μ,d,L,μ,E6,Z,Z,λr H7 a7 b7 E7 k7=>⟨_,_,μ,μ,ps++[(1+r).toNat],?_,by simp[hl],λx hx=>?_,E7,K6.trans k7⟩⟩
   .have e:(((1+r).toNat:Nat):Int)=1+r:=by lia
    simp[az];lia
   .rcases a2l.mp hx with hx | hx;.show hp x hx
    .have:x=(1+r).toNat:=by simpa using hx
     lia
  rintro ys H6 ⟨ps,rfl,hl,hp,E6,K6⟩ a ha;have CN:a∉[d]:=E6.eY ha;show⟨_,μ,d,3,μ,E6.keep (f_ ha),ζ,ζ,λr6 H7 a6 b6 E7 k7=>⟨μ,_,μ,?_⟩⟩;have K7:Kp [d] H H7:=K6.trans ((Kp.of (f_ ha)).trans k7);have h7:H7 a=some (.lst (az ps)):=k7 a _ c_ CN;show CK (fun σ H'=>∃(a':Addr) (d8:List Nat),σ=[some (.ref d),some (.int L),some (.int b),some (.ref a'),none,none,none,none,none,none]/\bh H' d/\Kp [d] H H'/\H' a'=some (.lst (az d8))/\a'∉[d]/\ H a'=none/\2<=d8.length/\d8.length<=4/\∀x∈d8,1<=x/\x<=6) ?tail (λhT=>?au) ⟨a,ps,μ,E7,K7,h7,CN,K6.free ha CN,Z,Z,hp⟩
  case au =>
   show⟨_,μ,_,μ,a,_,μ,ae.of h7,λl5 Wc=>?_⟩;have s5:af H7 (upd H7 l5 (.lst (dc (az ps) none (some 1)))):=f_ Wc
   obtain⟨x0,rr,ee⟩:∃x0 rr,ps=x0::rr:=by
    cases ps with
    | nil=>simp at hl;lia
    | cons x0 rr=>show⟨x0,rr,μ⟩
   have ec:dc (az ps) none (some 1)=[V.int (x0:Int)]:=by
    rw[show(1:Int)=((1:Nat):Int) from rfl,CL,ee];rfl
   show⟨_,μ,a,_,μ,.inl (ae.of (s5 _ _ h7)),l5,_,_,μ,μ,c_,Z,?_,?_,λl6 gP=>hT _ _ ⟨l6,List.replicate ps.length x0,μ,?_,?_,?_,?_,K7.free (s5.free gP) ((E7.keep s5).eY gP),by simp;lia,by simp;lia,λx hx=>?_⟩⟩;.simp[az];lia
   .rw[ec];show sz (by simp[az];lia)
   .show(E7.keep s5).keep (f_ gP)
   .show K7.same (s5.trans (f_ gP))
   .rw[c_,ec];simp only[az,a1H,Int.toNat_natCast];rw[V5]
   .show(E7.keep s5).eY gP
   .have:=a4e hx;rw[this];show hp x0 (by rw[ee];simp)
  case tail =>
   rintro σ H8 ⟨a',d8,rfl,E8,K8,h8,n8,f8,oY,Wd,xZ⟩;have lm:=Ma.Bw d8 xZ
   obtain⟨p0,pr,ep⟩:∃x0 rr,d8=x0::rr:=by
    cases d8 with
    | nil=>simp at oY
    | cons x0 rr=>show⟨x0,rr,μ⟩
   have gQ:=xZ p0 (by rw[ep];simp);have We:df (az d8) 0=some (.int (p0:Int)):=by rw[ep];show Z_ (j:=0) (by simp[az])
   show⟨_,μ,d,6,μ,E8,ζ,ζ,λwv H9 w0 w1 E9 k9=>⟨_,μ,d,19,μ,E9,ζ,ζ,λov x6 o0 o1 CO Kq=>⟨_,_,μ,μ,sz ζ,λl hl=>?_⟩⟩⟩;have h9:x6 a'=some (.lst (az d8)):=Kq a' _ (k9 a' _ h8 n8) n8;have s9:af x6 (upd x6 l (.lst [])):=f_ hl;have nl:l∉[d]:=CO.eY hl;have Wf:l≠d:=CO.off hl;have al:a'≠l:=l_ h9 hl;have K9:Kp [d] H x6:=(K8.trans k9).trans Kq;show⟨_,μ,a',d8.map λ(p:Nat)=>(p:Int),μ,ae.of (by rw[<-Bz];show s9 _ _ h9),⟨by rw[a1H];lia,V6 xZ⟩,_,μ,?_⟩;rw[Ma.Bx];show⟨Z,Z,?_⟩;have Wg:(((d8.sum:Nat):Int)).toNat=d8.sum:=by lia
   rw[Wg];show H_ (n:=d8.sum) (λi σ H6=>∃(ws:List Int) (v7 v8 v9:Option V),σ=[some (.ref d),some (.int L),some (.int b),some (.ref a'),some (.int wv),some (.int (ov-9)),some (.ref l),v7,v8,v9]/\bh H6 d/\Kp [d] H H6/\H6 a'=some (.lst (az d8))/\ H6 l=some (.lst (ws.map V.int))/\ws.length=i/\∀x∈ws,-9<=x/\x<=9) ⟨[],none,none,none,μ,CO.keep s9,K9.same s9,s9 _ _ h9,c_,μ,λx hx=>by simp at hx⟩ ?_ ?_
   .rintro i σ ik hi ⟨ws,v7,v8,v9,rfl,x8,x9,ud,CP,CQ,CS⟩;show⟨_,μ,d,19,μ,x8,ζ,ζ,λav G1 x1 y1 F1 j1=>⟨_,_,μ,μ,?_⟩⟩;show⟨_,μ,_,μ,_,_,μ,μ,(by change(0:Int)<3;decide),_,μ,_,μ,_,μ,d,4,μ,F1,ζ,ζ,λr3 G3 x3 y3 F3 j3=>?_⟩;have J3:Kp [d] ik G3:=j1.trans j3;have la:G3 a'=some (.lst (az d8)):=J3 a' _ ud n8;have ll:G3 l=some (.lst (ws.map V.int)):=J3 l _ CP nl;show⟨μ,.inr ⟨_,μ,_,_,μ,μ,V7 _,?_⟩⟩;show⟨_,μ,_,μ,_,_,_,_,μ,μ,ae.of la,We,⟨_,_,μ,μ,(by change(0:Int)<p0;lia),_,_,μ,μ,sz θ,λm hm=>?_⟩⟩;have nm:m≠d:=F3.off hm;have q1:=a4i (0+(i:Int)) (show(p0:Int)≠0 by lia);have q2:=a4n (0+(i:Int)) (show(0:Int)<p0 by lia);have q3:=a4i (av-9) (show(3:Int)≠0 by decide);have q4:=a4n (av-9) (show(0:Int)<3 by decide)
    obtain⟨x,ev,hx⟩:=mL (ns:=[1,ov-9,(av-9) % 3,av-9,(av-9)*(if (decide (V.int r3=V.int 0))=true then 1 else 0),(0+(i:Int)) % (p0:Int)+1]) (i:=wv) (Pr:=λn => -9<=n/\n<=9) w0 w1 (by
     intro n hn;simp only[a1L,a1Z,or_false] at hn;rcases hn with rfl | rfl | rfl | rfl | rfl | rfl;.decide
     .lia
     .lia
     .lia
     .split <;> lia
     .lia);show⟨_,μ,.inl ⟨μ,_,ae.of ((f_ hm) _ _ ll)⟩,_,μ,_,μ,_,_,_,_,μ,μ,ae.of c_,ev,⟨l,_,_,μ,μ,(f_ hm) _ _ ll,bK (by rw[a1H];lia),ws++[x],_,_,_,μ,?_,?_,?_,?_,by simp[CQ],λy hy=>?_⟩⟩;.show(F3.keep (f_ hm)).upd Wf
    .show dL ((x9.trans J3).same (f_ hm)) (.inr (K9.free hl nl))
    .rw[j_ al];show(f_ hm) _ _ la
    .rw[c_];simp
    .rcases a2l.mp hy with hy | hy;.show CS y hy
     .have:y=x:=by simpa using hy
      rw[this];show hx
   .rintro σ H6 ⟨ws,v7,v8,v9,rfl,x8,x9,ud,CP,CQ,CS⟩;show⟨_,μ,_,μ,_,μ,sz θ,λf' lr=>?_⟩;have sf:af H6 (upd H6 f' (.tup [.int b,.ref a',.ref l])):=f_ lr;show k f' a' l b d8 ws _ (x8.keep sf) (x9.same sf) ⟨c_,sf _ _ ud,sf _ _ CP,⟨Z,Z,oY,Wd,xZ,CQ,CS⟩⟩ (x9.free lr (x8.eY lr)) f8 (K9.free hl nl)
def Kr{i:Nat}(h:(az ps)[i]?=some x):∃p:Nat,ps[i]?=some p/\x=.int p:=by
 rw[az,a1O] at h
 cases e:ps[i]? with
 | none=>rw[e] at h;cases h
 | some d=>rw[e] at h;show⟨d,μ,(a1Q h).symm⟩
def ya:aS ["frame","found","k"] ["frame"] (h_ Cb):=⟨μ,μ,μ,ξ,μ,ξ,ξ⟩
def Wh(F:aM K "_law_many" "_law_many" Cb f fd)(T:Txt mg):aA P w K mg base aI 1 f fd ["frame"] kX:=by
 show F.ok ya λao A outer s H vs Q E hr h=>?_
 .obtain⟨g,a,c,b,ps,ws,rfl,G,k⟩:=h;have ok:=G.ok;have lm:=ok.sum;have b8:=ok.b8;show⟨_,b_ (i_ 1 (hN:=ya.nd) e_) <|b_ (B_ PassesOwn.never μ (z_ η T.range<|a_ (dw T.len (by rfl)<|aW (pv 0) e_) d_) (k_ 2 (hN:=ya.nd)) <|g_<|i_ 1 (hN:=ya.nd)<|n_ Q_ (pv 1)<|aW (pv 0) e_) <|g_<|m_<|pv 1,(⟨_,μ,_,_,_,_,μ,μ,aB.of G.tp,μ,⟨c,_,μ,.inl (ae.of G.hw),_,μ,(by rw[a1H,ok.wl];lia),(by rw[a1H,ok.wl];lia),?_⟩⟩)⟩;have en:((ws.map V.int).length:Int).toNat=ps.sum:=by rw[a1H,ok.wl];lia
  rw[en];show H_ (λi σ H2=>H2=H/\∃v,σ=[some (.ref g),some (.int ((b ^ i:Nat))),v]) ⟨μ,none,μ⟩ ?_ ?_
  .rintro i σ H2 hi ⟨rfl,v,rfl⟩;show⟨_,μ,_,μ,_,_,_,_,μ,μ,aB.of G.tp,μ,⟨_,_,μ,μ,.inr ⟨Z,Z⟩,μ,some<|.int (0+ i ),?_⟩⟩;rfl
  .rintro σ H2 ⟨rfl,v,rfl⟩;show⟨_,μ,k _<|af.refl _⟩
theorem boot_dict:bootBuiltins "dict"=some (.type "dict"):=PyProof.Rows.boot_dict
theorem boot_sorted:bootBuiltins "sorted"=some (.builtin "sorted"):=PyProof.Rows.boot_sorted
def oZ{i:Nat}(h:(ay f)[i]?=some (k,v)):∃p:Int×Int,f[i]?=some p/\k=Sum.inl p.1/\v=.int p.2:=by
 rw[ay,a1O] at h
 cases e:f[i]? with
 | none=>rw[e] at h;cases h
 | some p =>
  simp_all
def L_(h:Rd H a (.dK (ay f))):eU H a (.int k) ((Me.look f k).map V.int):=.inl ⟨ay f,Sum.inl k,h,μ,(VE f k).symm⟩
def mM(o:Option Int):(o.map V.int).getD (.int 0)=.int (o.getD 0):=by simp
def ue(h:H a=some (.dK (ay f)))(hl:f.length<=100000):kY H a (.int k) (.int v) (upd H a (.dK (ay (Me.put f k v)))):=by
 rw[<-Kg];show kY.k (k:=Sum.inl k) h<|bK<|by rw[ay,a1H];lia
inductive yb(vs:List V)(H:Hp)(Q:VK)(aw:XK):Prop
 | mk:∀(a:Addr) (f:List (Int×Int)) (b:Nat) (w:Int) (m:Nat),(vs=[.ref a,.int b,.int w])->(H a=some (.dK (ay f)))->(Me.Ok f m)->(m<=1000)->(b<=16)->((-9<=w/\w<=9))->(∀p H',H p=none->af H H'->H' p=some (.dK (ay (Me.U_ f b w)))->Q (.ref p) H')->yb vs H Q aw
def Ks:aS ["ways","base","weight","longer","total","figure","reached"] ["ways","base","weight"] (h_ BK):=⟨μ,μ,μ,ξ,μ,ξ,ξ⟩
def Wi(F:aM K "with_one_more_figure" "with_one_more_figure" BK f fd)(T:Txt mg):aA P w K mg base aI 1 f fd ["ways","base","weight"] yb:=by
 show F.ok Ks λao A outer s H vs Q E hr h=>?_
 .obtain⟨a,f,b,wt,m,rfl,ha,ok,hm,hb,hw,k⟩:=h;have nd:=Ks.nd;have hu:=ic hr;show⟨_,b_ (i_ 3 qG) (b_ (B_ PassesOwn.never μ (oM (pv 0)) (k_ 4) (g_ (B_ PassesOwn.never μ (z_ η T.range (a_ (pv 1) d_)) (k_ 5) (b_ (i_ 6 (n_ u_ (pv 4) (n_ Q_ (pv 5) (pv 2)))) (g_ (qF hu (pv 3) (pv 6) (n_ u_ (mE hu (pv 3) (pv 6) e_ ⟨μ,μ,μ,μ⟩) (kZ hu (pv 0) (pv 4) (λ_ _=>rfl))) μ)))))) (qH (g_ (m_ (pv 3))))),?_⟩;intro l hl;have lu:a≠l:=l_ ha hl;show⟨_,μ,a,ay f,μ,(by rw[j_ lu];show ha),λo=>qI (λi σ H2=>∃v4 v5 v6,σ=[some (.ref a),some (.int b),some (.int wt),some (.ref l),v4,v5,v6]/\H2 a=some (.bE o (.dK (ay f)))/\Kp [a] H H2/\H2 l=some (.dK (ay (Me.U_ (f.take i) b wt)))) ⟨none,none,none,μ,c_,dL (dL Kp.refl (.inr hl)) (.inl θ),?_⟩ (λi σ H2 _ h=>by obtain⟨_,_,_,_,z,_⟩:=h;show z) ?_ ?_⟩;.rw[j_ lu.symm,c_];rfl
  .rintro i kk v σ H2 hk ⟨v4,v5,v6,rfl,fa,kp,bz⟩;obtain⟨p,hp,rfl,rfl⟩:=oZ hk;have pm:=a1K hp;have pb:=ok.bd p.1 (a1U.mpr ⟨p,pm,μ⟩);have o0:=Me.qO ok hw hb i;show⟨_,μ,_,μ,Z,Z,H_ (λd σ H3=>∃v5 v6,σ=[some (.ref a),some (.int b),some (.int wt),some (.ref l),some (.int p.1),v5,v6]/\H3 a=some (.bE o (.dK (ay f)))/\Kp [a] H H3/\H3 l=some (.dK (ay (Me.dA p wt d (Me.U_ (f.take i) b wt))))) ⟨v5,v6,μ,fa,kp,bz⟩ ?_ ?_⟩
   .rintro d σ H3 hd ⟨v5,v6,rfl,lw,o7,cv⟩;have eD:d<b:=by lia
    have od:=Me.t8 pb hw hb o0 d Z;have bZ:=Me.Ok.len (by push_cast;show od);show⟨_,μ,_,μ,_,μ,_,_,μ,μ,.inr ⟨Z,Z⟩,_,_,μ,μ,(⟨_,μ,l,μ,.inl ⟨_,.inl cv⟩,_,μ,_,L_ (.inl cv),_,μ,_,μ,a,.int p.2,μ,?_,_,_,mM _,μ,_,μ,_,μ,l,_,μ,ue cv Z,?_⟩)⟩
    .have z:=L_ (k:=p.1) (.inr ⟨o,lw⟩);rw[Me.gN ok.nd pm] at z;show z
    .show⟨_,_,μ,?_,dL o7 (.inr hl),?_⟩;.rw[j_ lu];show lw
     .rw[c_,Me.jP];have e0:(0:Int)+(d:Int)=(d:Int):=a2N _;rw[e0];rfl
   .rintro σ H3 ⟨v5,v6,rfl,lw,o7,cv⟩;show⟨_,_,_,μ,lw,o7,?_⟩;have eb:(b:Int).toNat=b:=by lia
    rw[eb] at cv;rw[Me.xO hp];show cv
  .rintro σ H2 ⟨v4,v5,v6,rfl,fa,kp,bz⟩;have el:(ay f).length=f.length:=by rw[ay,a1H]
   rw[el,a1T] at bz
   show⟨a,o,ay f,fa,(λo' u z=>by
    have z':H a=some (.bE o' u):=z;rw[ha] at z';cases z'),_,μ,k l _ hl (λx ob e=>?_) (by rw[j_ lu.symm];show bz)⟩;by_cases hx:x=a;.rw[hx,c_,<-ha,<-hx];show e
   .rw[j_ hx];show kp x ob e (by simpa using hx)
def Kt(s:af H H')(h:oV H ts kvs):oV H' ts kvs:=Paired.fE h λ_ _ e=>s _ _ e
def Wj(h:H t=some (.tup [kV p.1,p.2]))(q:oV H ts kvs):oV H (ts++[t]) (kvs++[p]):=by
 induction q with
 | nil=>show .cons h .nil
 | cons h0 _ ih=>show .cons h0 ih
inductive uf(vs:List V)(H:Hp)(Q:VK)(aw:XK):Prop
 | mk:∀(b:Nat) (r:Addr) (ws:List Int),(vs=[.int b,.ref r])->(H r=some (.lst (ws.map V.int)))->(b<=16)->((∀x∈ws,-9<=x/\x<=9))->(ws.length<=6)->(∀p H' g,H p=none->af H H'->H' p=some (.dK (ay g))->g.Perm (Me.aN b ws)->Q (.ref p) H')->uf vs H Q aw
def CT{ws:List Int}(hw:∀x∈ws,-9<=x/\x<=9)(hb:b<=16):Me.Ok (Me.aN b (ws.take i)) ((135*i:Nat):Int):=by
 have h:=Me.ua hw hb i;show h
def Ku:aS ["base","weights","ways","weight"] ["base","weights"] (h_ w5):=⟨μ,μ,μ,ξ,μ,ξ,ξ⟩
def Wk(F:aM K "ways_of_weights" "ways_of_weights" w5 f fd)(T:Txt mg)(o8:mg "dict"=none)(o9:mg "sorted"=none)(DO:ak P w K mg base 1 "with_one_more_figure" ["ways","base","weight"] yb) : aA P w K mg base aI 2 f fd ["base","weights"] uf:=by
 show F.ok Ku λao A outer s H vs Q E hr h=>?_
 .obtain⟨b,r,ws,rfl,aT,hb,hw,bZ,k⟩:=h;have nd:=Ku.nd;have hu:=ic hr;show⟨_,b_ (i_ 2 (CB (Cz e_ e_ Cy) μ μ θ ζ)) (b_ (B_ PassesOwn.never μ (I_ (pv 1)) (k_ 3) (g_ (i_ 2 (o_ DO hr η (a_ (pv 2) (a_ (pv 0) (a_ (pv 3) d_))))))) (g_ (m_ (J_ (VC μ) η o8 boot_dict (a_ (jg (h_ w5) ["base","weights","ways","weight"] ["ways"] [2] μ (I_ (p_ (Vl μ) η o9 boot_sorted (a_ (pv 2) d_))) (λcl C s H fp=>fm) (λcl C s H fp=>dJ (a_ (pv 0) (a_ (kZ hu (pv 1) (pv 0) (λ_ _=>rfl)) d_))) ξ) d_))))),?_⟩;show λp0 gQ=>⟨c_,[(Sum.inl 0,.int 1)],μ,ζ,?_⟩;have s0:af H (upd (upd H p0 (.dK [])) p0 (.dK (eV [] [(Sum.inl 0,V.int 1)]))):=N_ (f_ gQ) gQ;have u0:(upd (upd H p0 (.dK [])) p0 (.dK (eV [] [(Sum.inl 0,V.int 1)]))) p0=some (.dK (ay [(0,1)])):=c_;generalize upd (upd H p0 (.dK [])) p0 (.dK (eV [] [(Sum.inl 0,V.int 1)]))=H0 at s0 u0⊢;show⟨_,μ,r,μ,⟨_,ae.of (s0 _ _ aT)⟩,Y_ (K:=K) (a:=r) (xs:=ws.map V.int) (λi σ H2=>∃p v3,σ=[some (.int b),some (.ref r),some (.ref p),v3]/\af H H2/\H p=none/\H2 p=some (.dK (ay (Me.aN b (ws.take i))))) ⟨p0,none,μ,s0,gQ,u0⟩ (λi σ H2 _ h=>by obtain⟨_,_,_,s2,_⟩:=h;show ae.of (s2 _ _ aT)) ?_ ?_⟩
  .rintro i x σ H2 hx ⟨p,v3,rfl,s2,np,hp⟩;have gO:i<ws.length:=by have:=(a1I.mp hx).1;simpa using this
   obtain⟨y,hy,rfl⟩:∃y:Int,ws[i]?=some y/\x=.int y:=by
    rw[a1O] at hx
    cases e:ws[i]? with
    | none=>rw[e] at hx;cases hx
    | some d=>rw[e] at hx;show⟨d,μ,(a1Q hx).symm⟩
   show⟨_,μ,_,μ,_,μ,p,_,b,y,135*i,μ,hp,CT hw hb,Z,hb,hw y (a1K hy),λp' H3 Wl s3 gR=>⟨p',_,μ,s2.trans s3,s2.free Wl,?_⟩⟩;rw[Me.xP hy];show gR
  rintro σ H2 ⟨p,v3,rfl,s2,np,hp⟩
  have oW:Me.Ok (Me.aN b ws) ((135*ws.length:Nat):Int):=by
   have:=CT (i:=ws.length) hw hb;rwa [a1T] at this
  rw[a1H,a1T] at hp;have Wm:=oW.len;generalize Me.aN b ws=W at hp oW Wm k;show⟨_,μ,p,ay W,Me.keys W,μ,.inl hp,by simp[ay,Me.keys],λl b9 hl CU=>?_⟩;have s3:=f_ (o:=.lst (b9.map V.int)) hl;have u3:(upd H2 l (.lst (b9.map V.int))) l=some (.lst (b9.map V.int)):=c_;generalize upd H2 l (.lst (b9.map V.int))=H3 at s3 u3⊢;have gR:=s3 _ _ hp;have hnl:b9.length=W.length:=by rw[CU.length_eq];simp[Me.keys]
  show⟨l,μ,⟨_,ae.of u3⟩,S_ (K:=K) (a:=l) (xs:=b9.map V.int) (λi ys H'=>∃ts,ys=ts.map V.ref/\ts.length=i/\af H3 H'/\oV H' ts (ay ((b9.take i).map λn=>(n,(Me.look W n).getD 0)))) ⟨[],μ,μ,af.refl _,.nil⟩ (λi ys H' _ h=>by obtain⟨_,_,_,s',_⟩:=h;show ae.of (s' _ _ u3)) ?_ ?_⟩
  .rintro i x ys H' hx ⟨ts,rfl,bP,s',pa⟩;have gO:i<b9.length:=by have:=(a1I.mp hx).1;simpa using this
   obtain⟨n,hn,rfl⟩:∃n:Int,b9[i]?=some n/\x=.int n:=by
    rw[a1O] at hx
    cases e:b9[i]? with
    | none=>rw[e] at hx;cases hx
    | some d=>rw[e] at hx;show⟨d,μ,(a1Q hx).symm⟩
   obtain⟨q,hq,eq⟩:=a1U.mp (CU.mem_iff.mp (a1K hn));have qR:Me.look W n=some q.2:=by rw[<-eq];show Me.gN oW.nd hq
   show⟨bK (by rw[a1H];lia),_,μ,_,μ,_,μ,p,.int q.2,μ,?_,sz θ,λt ht=>⟨ts++[t],θ,by simp[bP],s'.trans (f_ ht),?_⟩⟩
   .have z:=L_ (k:=n) (.inl (s' _ _ gR));rw[qR] at z;show z
   .rw[a1P,hn];have e2:ay ((b9.take i++(some n).toList).map λn=>(n,(Me.look W n).getD 0))=ay ((b9.take i).map λn=>(n,(Me.look W n).getD 0))++[(Sum.inl n,V.int q.2)]:=by simp[ay,qR]
    rw[e2];show Wj (p:=(Sum.inl n,V.int q.2)) c_ (Kt (f_ ht) pa)
  rintro ys H' ⟨ts,rfl,bP,s',pa⟩ l2 bz;rw[a1H,a1T] at pa;have hg:=Me.VB oW.nd CU;have Wn:(Me.keys (b9.map λn=>(n,(Me.look W n).getD 0))).Nodup:=(hg.map Prod.fst).nodup_iff.mpr oW.nd;show⟨l2,ts,_,μ,c_,Kt (f_ bz) pa,λq hq=>?_⟩
  have em:eV [] (ay (b9.map λn=>(n,(Me.look W n).getD 0)))=ay (b9.map λn=>(n,(Me.look W n).getD 0)):=by
   have z:=Kh (b9.map λn=>(n,(Me.look W n).getD 0)) [];rw[Me.Kd _ [] (by simpa using Wn)] at z;show z
  rw[em];have S:=s2.trans (s3.trans (s'.trans (f_ (o:=.lst (ts.map V.ref)) bz)));show k q _ _ (S.free hq) (S.trans (f_ hq)) c_ hg
end Hv
namespace Me
abbrev cD(f:List (Int×Int)):Int:=(f.map (·.2)).sum
def Wo(h:k∉keys f):(f.map λp=>if p.1=k then (p.1,v) else p)=f:=by
 induction f with
 | nil=>rfl
 | cons p f ih =>
  have h1:p.1≠k:=λz=>h<|by simp[keys,z]
  have h2:=λz=>h<|a2m _ z;rw[a2f,ih h2,if_neg h1]
def Wp(h:a∉keys f):put ((a,x)::f) a v=(a,v)::f:=by
 unfold put;rw[if_pos θ,a2f,Wo h,if_pos μ]
def Wq(h:a≠k):put ((a,x)::f) k v=(a,x)::put f k v:=by
 unfold put;have e:(((a,x)::f).any λp=>decide (p.1=k))=f.any λp=>decide (p.1=k):=by simp[h]
 rw[e];split;.rw[a2f,if_neg h]
 .rfl
def qS:look ((a,x)::f) a=some x:=by simp[look]
def qT(h:a≠k):look ((a,x)::f) k=look f k:=by simp[look,h]
def yc(h:a∉keys f):d7 ((a,x)::f) a n=(a,x+n)::f:=by
 unfold d7;rw[qS,Wp h];rfl
def yd(h:a≠k):d7 ((a,x)::f) k n=(a,x)::d7 f k n:=by
 unfold d7;rw[qT h,Wq h]
theorem Kv{k n:Int}:∀ {f:List (Int×Int)},(keys f).Nodup->cD (d7 f k n)=cD f+n
 | [],_=>by simp[d7,put,look,cD]
 | (a,x)::f,nd=>by
  have lx:=(a2j.mp nd).1;have fA:=(a2j.mp nd).2;by_cases e:a=k
  .subst e;rw[yc lx];simp only[cD,a2f,a2b];lia
  .have ih:=Kv (k:=k) (n:=n) fA;rw[yd e];simp only[cD,a2f,a2b] at ih⊢;lia
theorem Kx{k n:Int}(hn:0<=n):∀ {f:List (Int×Int)},(keys f).Nodup->(∀p∈f,0<=p.2)->∀p∈d7 f k n,0<=p.2
 | [],_,_=>by
  intro p hp;have:p=(k,0+n):=by simpa [d7,put,look] using hp
  rw[this];lia
 | (a,x)::f,nd,h=>by
  have lx:=(a2j.mp nd).1;have fA:=(a2j.mp nd).2;have hx:=h (a,x) θ;have hf:∀p∈f,0<=p.2:=λp hp=>h p<|by simp[hp]
  by_cases e:a=k
  .subst e;rw[yc lx];intro p hp;rcases a1L.mp hp with rfl | hp;.lia
   .show hf p hp
  .rw[yd e];intro p hp;rcases a1L.mp hp with rfl | hp;.show hx
   .show Kx hn fA hf p hp
def Ky(nd:(keys f).Nodup):(keys (d7 f k n)).Nodup:=Kb nd
structure Tw(f:List (Int×Int))(t:Int):Prop where
 nd:(keys f).Nodup
 nn:∀p∈f,0<=p.2
 tt:cD f=t
def Tw.add(o:Tw f t)(hn:0<=n):Tw (d7 f k n) (t+n):=⟨Ky o.nd,Kx hn o.nd o.nn,by rw[Kv o.nd,o.tt]⟩
theorem Tw.dA{f:List (Int×Int)}{t w:Int}{p:Int×Int}(o:Tw f t)(hp:0<=p.2):∀n:Nat,Tw (dA p w n f) (t+n*p.2)
 | 0=>by
  have e:t+ (0:Nat) *p.2=t:=by simp
  rw[e];show o
 | n+1=>by
  have e:t+ (n+1:Nat) *p.2=(t+n*p.2)+p.2:=by push_cast;rw[a4X];lia
  rw[jP,e];show(Tw.dA o hp n).add hp
theorem Tw.more{b:Nat}{w:Int}:∀ {f:List (Int×Int)} {acc:List (Int×Int)} {t:Int},Tw acc t->(∀p∈f,0<=p.2)->Tw (f.foldl (λacc p=>Me.dA p w b acc) acc) (t+b*cD f)
 | [],acc,t,o,_=>by
  have e:t+ b *cD []=t:=by simp[cD]
  rw[e];show o
 | p::f,acc,t,o,h=>by
  have e:t+ b *cD (p::f)=(t+b*p.2)+b*cD f:=by
   simp only[cD,a2f,a2b];rw[a5p];lia
  rw[e,a2h];show Tw.more (o.dA (h p<|by simp) b)<|λq hq=>h q<|by simp[hq]
def Tw.one(o:Tw f t):Tw (U_ f b w) (b*t):=by
 have z:Tw [] 0:=⟨by simp[keys],λp hp=>by simp at hp,μ⟩;have h:=Tw.more (b:=b) (w:=w) z o.nn;rw[o.tt] at h;have e: 0 +b*t=b*t:=by lia
 rw[e] at h;show h
theorem Kz(b:Nat):∀(ws:List Int) (f:List (Int×Int)) (t:Int),Tw f t->Tw (ws.foldl (λf w=>U_ f b w) f) ((b:Int) ^ ws.length*t)
 | [],f,t,o=>by
  simp_all
 | w::ws,f,t,o=>by
  have e: b  ^ (w::ws).length*t= b  ^ ws.length*(b*t):=by rw[a2s,Int.pow_succ,a4f]
  rw[e];show Kz b ws _ _ o.one
def ye(b:Nat)(ws:List Int):Tw (aN b ws) ((b:Int) ^ ws.length):=by
 have z:Tw [(0,1)] 1:=⟨by simp[keys],λp hp=>by simp_all,μ⟩;have h:=Kz b ws _ _ z;rw[a5n] at h;show h
theorem KA:∀ {f:List (Int×Int)},(∀p∈f,0<=p.2)->0<=cD f/\∀p∈f,p.2<=cD f
 | [],_=>⟨by simp[cD],λp hp=>by simp at hp⟩
 | q::f,h=>by
  obtain⟨i1,i2⟩:=KA (f:=f) λp hp=>h p<|by simp[hp]
  have hq:=h q θ;have e:cD (q::f)=q.2+cD f:=by simp[cD]
  rw[e];show⟨Z,λp hp=>?_⟩;rcases a1L.mp hp with rfl | hp;.lia
  .have:=i2 p hp;lia
def yf(hb:b<=16)(hl:ws.length<=6)(k:Int):0<=(look (aN b ws) k).getD 0/\(look (aN b ws) k).getD 0<=16777216:=by
 have o:=ye b ws;obtain⟨h0,h1⟩:=KA o.nn;rw[o.tt] at h1;have hm:=a2o (a4N hb _) (a4J ζ hl);have jR:((b:Int) ^ ws.length)<=16777216:=by grind
 cases e:(aN b ws).find? λq=>decide (q.1=k) with
 | none =>
  rw[look,e];show⟨ζ,ζ⟩
 | some q =>
  have hq:=a2R e;rw[look,e];show⟨o.nn q hq,a3e (h1 q hq) jR⟩
def KB(h:f.Perm g)(nd:(keys g).Nodup)(k:Int):look f k=look g k:=by
 have Wr:=(h.map _).nodup_iff.mpr nd
 cases e:g.find? λq=>decide (q.1=k) with
 | none =>
  have e2:f.find? (λq=>decide (q.1=k))=none:=by
   rw[List.find?_eq_none] at e⊢;show λx hx=>e x<|h.mem_iff.mp hx
  rw[look,look,e,e2]
 | some q =>
  have hq:=a2R e;have hk:q.1=k:=by simpa using a4j e
  rw[<-hk,gN nd hq,gN Wr (h.mem_iff.mpr hq)]
noncomputable def ce(b:Nat)(rows:List (List Int))(t:Int):Int:=rows.foldl (λm row=>m*(look (aN b row) t).getD 0) 1
def CV{rows:List (List Int)}(h:rows[i]?=some row):ce b (rows.take (i+1)) t=ce b (rows.take i) t*(look (aN b row) t).getD 0:=by
 unfold ce;rw[a1P,h,a3r];rfl
noncomputable def dM(b:Nat)(rows:List (List Int))(ks:List Int):List (Int×Int):=(ks.filter λk=>decide (0<ce b rows k)).map λk=>(k,ce b rows k)
def Ws(b:Nat)(rows:List (List Int))(ks:List Int):keys (dM b rows ks)=ks.filter λk=>decide (0<ce b rows k):=by
 rw[keys,dM,a3i];show List.map_id' _
def Wt(h:ks.Perm ls):(dM b rows ks).Perm (dM b rows ls):=(h.filter _).map _
def Wu(b:Nat)(rows:List (List Int))(ks:List Int):(dM b rows ks).length<=ks.length:=by
 rw[dM,a1H];show List.length_filter_le _ _
def Wv{ks:List Int}(nd:ks.Nodup)(h:ks[i]?=some k)(hp:0<ce b rows k):dM b rows (ks.take (i+1))=put (dM b rows (ks.take i)) k (ce b rows k):=by
 have hk:k∉keys (dM b rows<|ks.take i):=λz=>by
  rw[Ws] at z;have z1:=(a5i.mp z).1;obtain⟨j,hj⟩:=List.mem_iff_getElem?.mp z1;rw[List.getElem?_take] at hj;split at hj
  .have:=(List.getElem?_inj (by have:=(a1I.mp hj).1;show this) nd).mp (hj.trans h.symm);lia
  .cases hj
 rw[Kc hk,dM,a1P,h,List.filter_append,a2i];congr 1;change([k].filter _).map _=_;rw[a4p (by simpa using hp)];rfl
def Ww{ks:List Int}(h:ks[i]?=some k)(hp:¬ 0<ce b rows k):dM b rows (ks.take (i+1))=dM b rows (ks.take i):=by
 rw[dM,dM,a1P,h,List.filter_append,a2i];change _++([k].filter _).map _=_;rw[a4q (by simpa using hp)];simp
end Me
namespace Hv
open PySem L2
abbrev qU(H:Hp)(b:Nat)(qs:List Addr)(rows:List (List Int)):Prop:=Paired (λq row=>∃g,H q=some (.dK (ay g))/\g.Perm (Me.aN b row)) qs rows
def qU.keep(s:af H H')(h:qU H b qs rows):qU H' b qs rows:=L2.Paired.fE h λq row ⟨g,e,p⟩=>⟨g,s _ _ e,p⟩
abbrev KC(H:Hp)(b:Nat)(qs:List Addr)(rows:List (List Int)):Prop:=Paired (λq row=>∃g,Rd H q (.dK (ay g))/\g.Perm (Me.aN b row)) qs rows
inductive ug(vs:List V)(H:Hp)(Q:VK)(aw:XK):Prop
 | mk:∀f a c b ps ws,(vs=[.ref f])->(aU H f a c b ps ws)->(∀(p:Addr) (qs:List Addr) (H':Hp),af H H'->H p=none->H' p=some (.lst (qs.map V.ref))->qU H' b qs (Ma.ar ps ws)->Q (.ref p) H')->ug vs H Q aw
inductive yg(vs:List V)(H:Hp)(Q:VK)(aw:XK):Prop
 | mk:∀(p:Addr) (qs:List Addr) (b:Nat) (rows:List (List Int)) (t:Int),(vs=[.ref p,.int t])->(H p=some (.lst (qs.map V.ref)))->(KC H b qs rows)->(b<=16)->((∀row∈rows,(∀x∈row,-9<=x/\x<=9)/\row.length<=6))->(Q (.int (Me.ce b rows t)) H)->yg vs H Q aw
def Wx:aS ["frame"] ["frame"] (h_ w6):=⟨μ,μ,μ,ξ,μ,ξ,ξ⟩
def Wy(F:aM K "ways_of_parts" "ways_of_parts" w6 f fd)(T:Txt mg)(DC:ak P w K mg base 1 "cut_by_parts" ["frame","row"] qQ)(DV:ak P w K mg base 2 "ways_of_weights" ["base","weights"] uf) : aA P w K mg base aI 3 f fd ["frame"] ug:=by
 show F.ok Wx λao A outer s H vs Q E hr h=>?_
 .obtain⟨g,a,c,b,ps,ws,rfl,G,k⟩:=h;show⟨_,g_ (m_ (jg (h_ w6) ["frame"] ["frame"] [0] μ (I_ (o_ DC hr.mo η (a_ (pv 0) (a_ (aW (pv 0) e_) d_)))) (λcl C s H fp=>fm) (λcl C s H fp=>o_ DV hr η (a_ (wS K μ (pv 1) e_) (a_ (pv 0) d_))) ξ)),⟨_,μ,_,μ,_,_,_,_,μ,μ,aB.of G.tp,μ,g,a,c,b,ps,ws,c,ws,μ,G,G.hw,λp qs H2 s2 hp rows=>?_⟩⟩;have G2:=G.keep s2
  have gw:qs.length=ps.length:=by
   have e:=rows.length;rw[e,Ma.D_]
  have l4:=G.ok.l4;show⟨p,μ,⟨_,ae.of hp⟩,S_ (K:=K) (λi ys H'=>∃ts,ys=ts.map V.ref/\ts.length=i/\af H2 H'/\qU H' b ts ((Ma.ar ps ws).take i)) ⟨[],μ,μ,af.refl _,.nil⟩ (λi ys H' _ h=>by obtain⟨_,_,_,s',_⟩:=h;show ae.of (s' _ _ hp)) ?_ ?_⟩
  .rintro i x ys H' hx ⟨ts,rfl,bP,s',wa⟩;have gO:i<qs.length:=by have:=(a1I.mp hx).1;simpa using this
   obtain⟨q,hq,rfl⟩:∃q:Addr,qs[i]?=some q/\x=.ref q:=by simp_all
   obtain⟨row,hj,aT⟩:=oX rows hq;show⟨bK (by rw[a1H];lia),_,μ,_,_,_,_,μ,μ,aB.of (G2.keep s').tp,μ,_,μ,b,q,row,μ,s' _ _ aT,G.ok.b8,λx hx=>G.ok.wr x (Ma.iK (a1K hj) x hx),Ma.O_ (λp hp=>(G.ok.pr p hp).2) (a1K hj),λp' H3 gg np s3 gR hg=>⟨ts++[p'],θ,by simp[bP],s'.trans s3,?_⟩⟩;rw[a1P,hj];show Paired.snoc (wa.keep s3) ⟨gg,gR,hg⟩
  .rintro ys H' ⟨ts,rfl,bP,s',wa⟩ l hl;have e:(qs.map V.ref).length=(Ma.ar ps ws).length:=by rw[a1H,Ma.D_];show gw
   rw[e,a1T] at wa;have sl:=f_ (o:=.lst (ts.map V.ref)) hl;show k l ts _ (s2.trans (s'.trans sl)) (s2.free (s'.free hl)) c_ (wa.keep sl)
def KD:aS ["ways_by_part","total","many","ways"] ["ways_by_part","total"] (h_ BL):=⟨μ,μ,μ,ξ,μ,ξ,ξ⟩
def Wz(F:aM K "ways_with" "ways_with" BL f fd):aA P w K mg base aI 1 f fd ["ways_by_part","total"] yg:=by
 show F.ok KD λao A outer s H vs Q E hr h=>?_
 .obtain⟨p,qs,b,rows,t,rfl,hp,wa,hb,dk,k⟩:=h;have nd:=KD.nd;have hu:=ic hr;show⟨_,b_ (i_ 2 e_) <|b_ (B_ PassesOwn.never μ (I_<|pv 0) (k_ 3) <|g_<|i_ 2<|n_ Q_ (pv 2)<|mE hu (pv 3) (pv 1) e_ ⟨μ,μ,μ,μ⟩) <|g_<|m_<|pv 2,(⟨_,μ,p,μ,⟨_,ae.of hp⟩,Y_ (K:=K) (a:=p) (xs:=qs.map V.ref) (λi σ H'=>∃v3,σ=[some (.ref p),some (.int t),some (.int (Me.ce b (rows.take i) t)),v3]/\H=H') ⟨none,μ,μ⟩ (λi σ H' _ h=>by obtain⟨_,_,e⟩:=h;rw[<-e];show ae.of hp) ?_ ?_⟩)⟩
  .rintro i x σ H' hx ⟨v3,rfl,rfl⟩
   obtain⟨q,hq,rfl⟩:∃q:Addr,qs[i]?=some q/\x=.ref q:=by
    rw[a1O] at hx
    cases e:qs[i]? with
    | none=>rw[e] at hx;cases hx
    | some d=>rw[e] at hx;show⟨d,μ,(a1Q hx).symm⟩
   obtain⟨row,hj,g,hg,perm⟩:=oX wa hq;obtain⟨hw,hl⟩:=dk row (a1K hj);have pc:=Me.qP hw hb;obtain⟨v0,v1⟩:=Me.yf hb hl t;have KF:=Me.KB perm pc.nd t;have cm:qh (Me.ce b (rows.take i) t) ((Me.look g t).getD 0):=by rw[KF];show .inr ⟨Z,Z⟩
   show⟨_,μ,_,μ,q,μ,.inl ⟨_,hg⟩,_,μ,_,L_ hg,Me.ce b (rows.take i) t,(Me.look g t).getD 0,μ,mM _,cm,some<|.ref q,?_,μ⟩;rw[Me.CV hj,<-KF];rfl
  .rintro σ H' ⟨v3,rfl,rfl⟩;have e:(qs.map V.ref).length=rows.length:=by rw[a1H];show wa.length
   rw[e,a1T];show⟨_,μ,k⟩
inductive yh(vs:List V)(H:Hp)(Q:VK)(aw:XK):Prop
 | mk:∀f a c b ps ws,(vs=[.ref f])->(aU H f a c b ps ws)->(∀(p:Addr) (g:List (Int×Int)) (H':Hp),H p=none->af H H'->H' p=some (.dK (ay g))->(∃row,(Ma.ar ps ws)[0]?=some row/\g.Perm (Me.dM b (Ma.ar ps ws) (Me.keys (Me.aN b row))))->Q (.ref p) H')->yh vs H Q aw
def KG(G:aU H f a c b ps ws):∀row∈Ma.ar ps ws,(∀x∈row,-9<=x/\x<=9)/\row.length<=6 := λrow hr=>⟨λx hx=>G.ok.wr x<|Ma.iK hr x hx,Ma.O_ (λp hp=>(G.ok.pr p hp).2) hr⟩
def KH:aS ["frame","ways_by_part","even","total","many"] ["frame"] (h_ BM):=⟨μ,μ,μ,ξ,μ,ξ,ξ⟩
def WA(F:aM K "even_by_sums" "even_by_sums" BM f fd)(D5:ak P w K mg base 5 "need_frame" ["thing"] kT)(DP:ak P w K mg base 3 "ways_of_parts" ["frame"] ug) (DW:ak P w K mg base 1 "ways_with" ["ways_by_part","total"] yg):aA P w K mg base aI 6 f fd ["frame"] yh:=by
 show F.ok KH λao A outer s H vs Q E hr h=>?_
 .obtain⟨g,a,c,b,ps,ws,rfl,G,k⟩:=h;have nd:=KH.nd;have hu:=ic hr;show⟨_,b_ (G_ (o_ D5 hr η (a_ (pv 0) d_))) (b_ (i_ 1 (o_ DP hr.mo η (a_ (pv 0) d_))) (b_ (i_ 2 qG) (b_ (B_ PassesOwn.never μ (oM (bf (pv 1) e_)) (k_ 3) (b_ (i_ 4 (o_ DW hr.mo η (a_ (pv 1) (a_ (pv 3) d_)))) (g_ (E_ (t_ mh (pv 4) e_ (aY _)) (g_ (qF hu (pv 2) (pv 3) (pv 4) μ)) q_)))) (qH (g_ (m_ (pv 2))))))),⟨_,μ,g,a,c,b,ps,ws,μ,G,λH1 s1=>?_⟩⟩;have G1:=G.keep s1;show⟨_,μ,g,a,c,b,ps,ws,μ,G1,λp qs H2 s2 hp cG wa=>?_⟩;intro l hl;obtain⟨row,aT⟩:∃row,(Ma.ar ps ws)[0]?=some row:=⟨(Ma.ar ps ws)[0]'(by rw[Ma.D_];have:=G.ok.l2;lia),θ⟩;obtain⟨q,hq⟩:∃q,qs[0]?=some q:=⟨qs[0]'(by have e:qs.length=(Ma.ar ps ws).length:=wa.length;rw[e,Ma.D_];have:=G.ok.l2;lia),θ⟩;obtain⟨fB,pd,g0,jS,perm⟩:=oX wa hq;have er:fB=row:=by rw[aT] at pd;show(a1Q pd).symm
  subst er;obtain⟨CW,wF⟩:=KG G fB (a1K aT);have pc:=Me.qP CW G.ok.b8;have wln:=Me.Ok.len (by push_cast at pc⊢;show pc);have uh:(Me.keys g0).Nodup:=(perm.map _).nodup_iff.mpr pc.nd;have KI:g0.length<=2000:=by rw[perm.length_eq];lia
  have s3:af H2 (upd H2 l (.dK [])):=f_ hl;have gw:q≠l:=l_ jS hl;have cu:p≠l:=l_ cG hl;have CY:q≠p:=sD jS cG (by intro z;cases z);have l3:(upd H2 l (.dK [])) l=some (.dK (ay [])):=c_;generalize upd H2 l (.dK [])=H3 at s3 l3⊢;have q3:=s3 _ _ jS;have p3:=s3 _ _ cG;have oo:df (qs.map V.ref) 0=some (.ref q):=Z_ (by rw[a1O,hq];rfl);show⟨_,μ,p,_,0,.ref q,μ,μ,ae.of p3,oo,q,ay g0,μ,q3,λo=>qI (λi σ H'=>∃v3 v4,σ=[some (.ref g),some (.ref p),some (.ref l),v3,v4]/\H' q=some (.bE o (.dK (ay g0)))/\(∀x ob,x≠q->x≠l->H3 x=some ob->H' x=some ob)/\H' l=some (.dK (ay (Me.dM b (Ma.ar ps ws) ((Me.keys g0).take i))))) ⟨none,none,μ,c_,λx ob hx _ e=>by rw[j_ hx];show e,by rw[j_ gw.symm,l3];rfl⟩ (λi σ H' _ h=>by obtain⟨_,_,_,z,_⟩:=h;show z) ?_ ?_⟩
  .rintro i kk v σ H' hk ⟨v3,v4,rfl,fq,kp,cE⟩;obtain⟨pr,jq,rfl,rfl⟩:=oZ hk;have yi:(Me.keys g0)[i]?=some pr.1:=by rw[Me.keys,a1O,jq];rfl
   have p':=kp p _ CY.symm cu p3
   have wr:KC H' b qs (Ma.ar ps ws):=L2.Paired.fE wa λq1 il ⟨g1,e1,KJ⟩=>by
    by_cases e:q1=q
    .subst e;have eg:ay g1=ay g0:=by rw[e1] at jS;injection jS with jS;injection jS
     show⟨g1,.inr ⟨o,by rw[eg];show fq⟩,KJ⟩
    .show⟨g1,.inl (kp q1 _ e (l_ e1 hl) (s3 _ _ e1)),KJ⟩
   have bZ:=Me.Wu b (Ma.ar ps ws) ((Me.keys g0).take i);have WB:((Me.keys g0).take i).length<=2000:=by rw[a2d,Me.keys,a1H];lia
   show⟨_,μ,_,μ,p,qs,b,Ma.ar ps ws,pr.1,μ,p',wr,G.ok.b8,KG G,⟨_,μ,_,_,μ,μ,_,μ,dQ (λh=>?_) (λh=>?_)⟩⟩
   .have h':0<Me.ce b (Ma.ar ps ws) pr.1:=of_decide_eq_true h;show⟨_,μ,_,μ,_,μ,l,_,μ,ue cE Z,_,_,μ,?_,λx ob h1 h2 e=>?_,?_⟩;.rw[j_ gw];show fq
    .rw[j_ h2];show kp x ob h1 h2 e
    .rw[c_,Me.Wv uh yi h']
   .have h':¬ 0<Me.ce b (Ma.ar ps ws) pr.1:=λz=>h (decide_eq_true z);show⟨_,_,μ,fq,kp,?_⟩;rw[Me.Ww yi h'];show cE
  .rintro σ H' ⟨v3,v4,rfl,fq,kp,cE⟩;have el:(ay g0).length=(Me.keys g0).length:=by rw[ay,Me.keys,a1H,a1H]
   rw[el,a1T] at cE;have S3:=s1.trans (s2.trans s3);have lH:H l=none:=s1.free (s2.free hl);show⟨q,o,ay g0,fq,(λo' u z=>?_),_,μ,k l _ _ lH (λx ob e=>?_) (by rw[j_ gw.symm];show cE) ⟨fB,aT,Me.Wt (perm.map _)⟩⟩
   .have z':H q=some (.bE o' u):=z;have:=S3 _ _ z';rw[q3] at this;cases this
   .by_cases hx:x=q
    .have:=S3 _ _ e;rw[hx] at this;rw[hx,c_,<-this,q3]
    .rw[j_ hx];show kp x ob hx (l_ e lH) (S3 _ _ e)
end Hv
namespace Me
abbrev gv(f:List (Int×Int))(k:Int):Int:=(look f k).getD 0
theorem CZ{k n j:Int}:∀ {f:List (Int×Int)},(keys f).Nodup->gv (d7 f k n) j=gv f j+if k=j then n else 0
 | [],_=>by
  by_cases e:k=j <;> simp[gv,d7,put,look,e]
 | (a,x)::f,nd=>by
  have lx:=(a2j.mp nd).1;have fA:=(a2j.mp nd).2;by_cases e:a=k
  .subst e;rw[yc lx];by_cases h:a=j
   .subst h;rw[gv,gv,qS,qS,if_pos μ];rfl
   .rw[gv,gv,qT h,qT h,if_neg h];lia
  .rw[yd e];by_cases h:a=j
   .subst h;rw[gv,gv,qS,qS,if_neg (λz=>e z.symm)];lia
   .have ih:=CZ (k:=k) (n:=n) (j:=j) fA;rw[gv,gv,qT h,qT h];show ih
def KK(nd:(keys f).Nodup)(hn:0<=n):gv f j<=gv (d7 f k n) j:=by
 rw[CZ nd];split <;> lia
theorem ly{p:Int×Int}{w:Int}{acc:List (Int×Int)}(nd:(keys acc).Nodup):∀n:Nat,(keys (dA p w n acc)).Nodup
 | 0=>nd
 | n+1=>by rw[jP];show Ky<|ly nd n
theorem C0{p:Int×Int}{w j:Int}{acc:List (Int×Int)}(nd:(keys acc).Nodup)(hp:0<=p.2):∀n:Nat,gv acc j<=gv (dA p w n acc) j
 | 0=>a2U _
 | n+1=>by
  rw[jP];show a3e (C0 nd hp n)<|KK (ly nd n) hp
theorem KL{p:Int×Int}{w:Int}{acc:List (Int×Int)}(nd:(keys acc).Nodup)(hp:0<=p.2):∀n:Nat,gv acc p.1+p.2<=gv (dA p w (n+1) acc) p.1
 | 0=>by
  rw[jP];have e:p.1+ (0:Nat) *w=p.1:=by simp
  rw[e,CZ (ly nd 0),if_pos μ];show a2U _
 | n+1=>by
  rw[jP];show a3e (KL nd hp n) (KK (ly nd (n+1)) hp)
theorem KM{b:Nat}{w j:Int}:∀ {f acc:List (Int×Int)},(keys acc).Nodup->(∀p∈f,0<=p.2)->gv acc j<=gv (f.foldl (λacc p=>dA p w b acc) acc) j
 | [],_,_,_=>a2U _
 | p::f,acc,nd,h=>by
  show a3e (C0 nd (h p<|by simp) b)<|KM (ly nd b) λq hq=>h q<|by simp[hq]
theorem KN{b:Nat}{w:Int}{p:Int×Int}:∀ {f acc:List (Int×Int)},(keys acc).Nodup->(∀p∈f,0<=p.2)->p∈f->gv acc p.1+p.2<=gv (f.foldl (λacc p=>dA p w (b+1) acc) acc) p.1
 | [],_,_,_,hp=>by simp at hp
 | q::f,acc,nd,h,hp=>by
  rw[a2h];rcases a1L.mp hp with rfl | hp;.show a3e (KL nd (h p<|by simp) b)<|KM (ly nd _) λq hq=>h q<|by simp[hq]
  .have h1:=C0 (w:=w) (j:=p.1) nd (h q<|by simp) (b+1);have h2:=KN (w:=w) (b:=b) (ly (p:=q) (w:=w) nd (b+1)) (λq hq=>h q<|by simp[hq]) hp;lia
def KO(h:1<=gv f k):(k,gv f k)∈f:=by
 cases e:f.find? λq=>decide (q.1=k) with
 | none =>
  have z:gv f k=0:=by rw[gv,look,e];rfl
  lia
 | some q =>
  have hq:=a2R e;have hk:q.1=k:=by simpa using a4j e
  have z:gv f k=q.2:=by rw[gv,look,e];rfl
  rw[z,<-hk];show hq
theorem KP{b:Nat}:∀(ws:List Int) (f:List (Int×Int)) (t:Int),Tw f t->1<=gv f 0->1<=gv (ws.foldl (λf w=>U_ f (b+1) w) f) 0
 | [],_,_,_,h=>h
 | w::ws,f,t,o,h=>by
  show KP ws _ _ o.one ?_;have:=KN (w:=w) (b:=b) (acc:=[]) (by simp[keys]) o.nn (KO h);have e:gv [] 0=0:=rfl;unfold U_;lia
def WC(hb:1<=b)(ws:List Int):1<=gv (aN b ws) 0:=by
 obtain⟨c,rfl⟩:∃c,b=c+1:=⟨b-1,Z⟩;show KP ws [(0,1)] 1 ⟨by simp[keys],λp hp=>by simp_all,μ⟩<|by decide
def WD(b:Nat)(row:List Int)(t:Int):0<=(look (aN b row) t).getD 0:=by
 have o:=ye b row
 cases e:(aN b row).find? λq=>decide (q.1=t) with
 | none=>rw[look,e];show a2U _
 | some q=>rw[look,e];show o.nn q<|a2R e
theorem KQ{b:Nat}{t:Int}:∀(rows:List (List Int)) (m:Int),0<=m->0<=rows.foldl (λm row=>m*(look (aN b row) t).getD 0) m
 | [],_,h=>h
 | row::rows,m,h=>by
  show KQ rows _<|Int.mul_nonneg h<|WD b row t
theorem KR{b:Nat}{t:Int}:∀(rows:List (List Int)),rows.foldl (λm row=>m*(look (aN b row) t).getD 0) 0=0
 | []=>rfl
 | row::rows=>by
  rw[a2h,a4x];show KR _
def yj(h:t∉keys f):look f t=none:=by
 cases e:f.find? λq=>decide (q.1=t) with
 | none=>rw[look,e];rfl
 | some q =>
  exfalso;show h<|a1U.mpr ⟨q,a2R e,by simpa using a4j e⟩
def WE(h:rows[0]?=some row)(ht:t∉keys (aN b row)):ce b rows t=0:=by
 cases rows with
 | nil=>cases h
 | cons r rows =>
  have e:=a1Q h;subst e;unfold ce;rw[a2h,yj ht];show KR _
def KU{l m:List Int}(h:l.Perm m):l.sum=m.sum:=by
 induction h with
 | nil=>rfl
 | cons x _ ih=>rw[a2b,a2b,ih]
 | swap x y l=>simp only[a2b];lia
 | trans _ _ a b=>show a.trans b
def WF(h:f.Perm g):cD f=cD g:=KU (h.map _)
end Me
namespace Mq
noncomputable def sm(f:Int->Int)(a:Int):Nat->Int
 | 0=>0
 | n+1=>sm f a n+f (a+n)
theorem ui(f:Int->Int)(a:Int)(n:Nat):∀m:Nat,sm f a (n+m)=sm f a n+sm f (a+n) m
 | 0=>by simp[sm]
 | m+1=>by
  rw[<-a3c,sm,sm,ui f a n m];have e:a+ (n+m:Nat) =a+n+m:=by push_cast;lia
  rw[e];lia
theorem iQ{f:Int->Int}{a:Int}:∀ {n:Nat},(∀t,a<=t->t<a+n->f t=0)->sm f a n=0
 | 0,_=>rfl
 | n+1,h=>by
  rw[sm,iQ λt h1 h2=>h t h1<|by push_cast;lia,h _ Z (by push_cast;lia)];rfl
theorem jT{f g:Int->Int}{a:Int}:∀ {n:Nat},(∀t,a<=t->t<a+n->f t=g t)->sm f a n=sm g a n
 | 0,_=>rfl
 | n+1,h=>by
  rw[sm,sm,jT λt h1 h2=>h t h1<|by push_cast;lia,h _ Z (by push_cast;lia)]
def yk{a h:Int}{n m:Nat}(hf:∀t,h<t->f t=0)(hn:h<a+n)(hm:h<a+m):sm f a n=sm f a m:=by
 have aZ:∀ {n m:Nat},n<=m->h<a+n->sm f a n=sm f a m:=λ{n m} gq hn=>by
  obtain⟨k,rfl⟩:=Nat.exists_eq_add_of_le gq;rw[ui,iQ (n:=k) λt h1 _=>hf t<|by lia];lia
 rcases a4R n m with z | z;.show aZ z hn
 .show(aZ z hm).symm
def WG{a b:Int}{n m:Nat}(h1:a<=b)(h2:b+m<=a+n)(z1:∀t,a<=t->t<b->g t=0)(z2:∀t,b+m<=t->t<a+n->g t=0):sm g a n=sm g b m:=by
 obtain⟨k,rfl⟩:∃k:Nat,b=a+k:=⟨(b-a).toNat,Z⟩;obtain⟨r,rfl⟩:∃r:Nat,n=k+(m+r):=⟨n-k-m,Z⟩;rw[ui,ui,iQ λt h1 h2=>z1 t h1 h2,iQ (n:=r) λt h1 h2=>z2 t (by lia)<|by push_cast;lia];lia
noncomputable def pr(fs:List (Int->Int))(a:Int)(n:Nat):Int:=fs.foldl (λm f=>m*sm f a n) 1
def WH{fs:List (Int->Int)}:fs.foldl (λm f=>m*sm f a n) 0=0:=by
 induction fs with
 | nil=>rfl
 | cons f r ih=>simpa using ih
def uj(hf:f∈fs)(h:sm f a n=0):pr fs a n=0:=by
 have aZ:∀(fs:List _)  c ,f∈fs->fs.foldl (λm f=>m*sm f a n) c=0:=λfs=>by
  induction fs with
  | nil=>intro c h;simp at h
  | cons q r ih =>
   intro c hq;rcases a1L.mp hq with rfl | hq;.rw[a2h,h,a4y];show WH
   .show ih _ hq
 show aZ fs 1 hf
def yl(h:∀f∈fs,sm f a n=sm f b m):pr fs a n=pr fs b m:=by
 have aZ:∀(fs:List _)  c ,(∀f∈fs,sm f a n=sm f b m)->fs.foldl (λm f=>m*sm f a n) c=fs.foldl (λq f=>q*sm f b m) c:=λfs=>by
  induction fs with
  | nil=>intro c _;rfl
  | cons q r ih =>
   simp_all
 show aZ fs 1 h
noncomputable def cQ(fs:List (Int->Int))(d:Nat)(t:Int):Int:=pr fs t (d+1)-pr fs (t+1) d
def WI{d r:Nat}{t low high:Int}(hs:∀f∈fs,∀u,high<u->f u=0)(ht:low<=t)(hr:(r:Int)=d\/(high-low<=r/\high-low<=d)):cQ fs d t=cQ fs r t:=by
 rcases hr with hr | ⟨h1,h2⟩;.rw[show d=r by lia]
 .unfold cQ;rw[yl (m:=r+1) λf hf=>yk (hs f hf) (by push_cast;lia)<|by push_cast;lia, yl (n:=d) (m:=r) λf hf=>yk (hs f hf) (by lia)<|by lia]
def WJ(hf:f∈fs)(h:∀u,last<u->f u=0)(ht:last<t):cQ fs d t=0:=by
 unfold cQ;rw[uj hf (iQ λu h1 _=>h u<|by lia),uj hf (iQ λu h1 _=>h u<|by lia)];rfl
def WK{d:Nat}{f:Int->Int}(hf:f∈fs)(h:∀u,u<l->f u=0)(ht:t+d<l):cQ fs d t=0:=by
 unfold cQ;rw[uj hf (iQ λu _ h2=>h u<|by push_cast at h2;lia),uj hf (iQ λu _ h2=>h u<|by lia)];rfl
def WL{d:Nat}{fl fg:Int->Int}(hs:∀f∈fs,∀u,high<u->f u=0)(hl:fl∈fs)(cE:∀u,u<pe->fl u=0)(hg:fg∈fs)(qt:∀u,qV<u->fg u=0) (o1:low<=pe) (o2:qV<=high) (o3:low<=high) (o4:low<=qV) (o5:pe<=high) {r:Nat} (hr:(r:Int)=if high-low<d then high-low else d)  (KW:first=if pe-r>low then pe-r else low) : sm (cQ fs d) low (high-low+1).toNat=sm (cQ fs r) first (qV-first+1).toNat:=by
 have mO:(r:Int)=d\/(high-low<=r/\high-low<=d):=by split at hr <;> lia
 have e:sm _ low (high-low+1).toNat=sm _ low (high-low+1).toNat:=jT λt h1 _=>WI hs h1 mO;rw[e];have up:∀t,qV<t->cQ fs r t=0:=λt h=>WJ hg qt h;have dn:∀t,t+r<pe->cQ fs r t=0:=λt h=>WK hl cE h;have f1:low<=first:=by rw[KW];split <;> lia
 have f2:∀t,low<=t->t<first->t+r<pe:=λt a b=>by rw[KW] at b;split at b <;> lia
 by_cases hc:first<=qV+1;.show WG f1 Z (λt a b=>dn t<|f2 t a b) λt a b=>up t<|by lia
 .rw[iQ λt a b=>?_,iQ λt a b=>up t<|by lia];by_cases q:t<first;.show dn t<|f2 t a q
  .show up t<|by lia
end Mq
namespace Me
noncomputable def fw(b:Nat)(row:List Int):Int->Int:=λt=>gv (aN b row) t
noncomputable def pf(b:Nat)(rows:List (List Int)):List (Int->Int):=rows.map (fw b)
noncomputable def C1(b:Nat)(row:List Int):Int:=Ma.aK (keys (aN b row))
noncomputable def C2(b:Nat)(row:List Int):Int:=Ma.aP (keys (aN b row))
noncomputable def jU(b:Nat)(rows:List (List Int)):List Int:=rows.map (C1 b)
noncomputable def ph(b:Nat)(rows:List (List Int)):List Int:=rows.map (C2 b)
noncomputable def ym(b:Nat)(rows:List (List Int))(d:Nat):Int:=Mq.sm (Mq.cQ (pf b rows) d) (Ma.aK (jU b rows)) (Ma.aP (ph b rows)-Ma.aK (jU b rows)+1).toNat
def C3(hb:1<=b)(row:List Int):0<(keys (aN b row)).length:=by
 have h:=KO (WC hb row);have: 0 ∈keys _:=a1U.mpr ⟨_,h,μ⟩;show a3f this
theorem yn{f:Int->Int}(h:∀t,0<=f t/\f t<=16777216)(a:Int):∀n:Nat,0<=Mq.sm f a n/\Mq.sm f a n<=16777216*n
 | 0=>⟨a2U _,a2U _⟩
 | n+1=>by
  have ih:=yn h a n;have:=h (a+n);simp only[Mq.sm];push_cast;lia
end Me
namespace Me
structure fM(g:List (Int×Int)):Prop where
 ne:0<(keys g).length
 nd:(keys g).Nodup
 bd:∀k∈keys g,-810<=k/\k<=810
 val:∀t,0<=gv g t/\gv g t<=16777216
noncomputable def bq(gs:List (List (Int×Int))):List Int:=gs.map λg=>Ma.aK (keys g)
noncomputable def bx(gs:List (List (Int×Int))):List Int:=gs.map λg=>Ma.aP (keys g)
noncomputable def fG(gs:List (List (Int×Int))):List (Int->Int):=gs.map λg t=>gv g t
noncomputable def mP(gs:List (List (Int×Int)))(d:Nat):Int:=Mq.sm (Mq.cQ (fG gs) d) (Ma.aK (bq gs)) (Ma.aP (bx gs)-Ma.aK (bq gs)+1).toNat
def WM(o:fM g)(h:t<Ma.aK (keys g)):gv g t=0:=by
 have n:t∉keys g:=λz=>by
  have:=(Ma.v_ _ o.ne).2 t z;lia
 unfold gv;rw[yj n];rfl
def C4(o:fM g)(h:Ma.aP (keys g)<t):gv g t=0:=by
 have n:t∉keys g:=λz=>by
  have:=(Ma.w_ _ o.ne).2 t z;lia
 unfold gv;rw[yj n];rfl
def yo(o:fM g) : -810<=Ma.aK (keys g)/\Ma.aK (keys g)<=Ma.aP (keys g)/\Ma.aP (keys g)<=810:=by
 have h1:=o.bd _ (Ma.v_ _ o.ne).1;have h2:=o.bd _ (Ma.w_ _ o.ne).1;have h3:=(Ma.v_ _ o.ne).2 _ (Ma.w_ _ o.ne).1;lia
def C5(ba:0<gs.length)(hg:∀g∈gs,fM g) : -810<=Ma.aK (bq gs)/\Ma.aK (bq gs)<=Ma.aP (bq gs)/\Ma.aP (bq gs)<=Ma.aP (bx gs)/\Ma.aK (bq gs)<=Ma.aK (bx gs)/\Ma.aK (bx gs)<=Ma.aP (bx gs)/\Ma.aP (bx gs)<=810:=by
 have nl:0<(bq gs).length:=by rw[bq,a1H];show ba
 have nh:0<(bx gs).length:=by rw[bx,a1H];show ba
 obtain⟨m1,m2⟩:=Ma.v_ _ nl;obtain⟨m3,m4⟩:=Ma.w_ _ nl;obtain⟨m5,m6⟩:=Ma.v_ _ nh;obtain⟨m7,m8⟩:=Ma.w_ _ nh;obtain⟨rl,cW,WN⟩:=a1U.mp m3;obtain⟨rg,uk,WO⟩:=a1U.mp m5;obtain⟨r1,fY,er1⟩:=a1U.mp m1;obtain⟨r7,WP,er7⟩:=a1U.mp m7;have a1:=yo (hg r1 fY);have a2:=yo (hg rl cW);have a3:=yo (hg rg uk);have a4:=yo (hg r7 WP);have b1:=m8 _ (a1U.mpr ⟨rl,cW,μ⟩);have b2:=m2 _ (a1U.mpr ⟨rg,uk,μ⟩);show⟨Z,m2 _ m3,Z,Z,m6 _ m7,Z⟩
def WQ(ba:0<gs.length)(hg:∀g∈gs,fM g){d r:Nat}(hr:(r:Int)=if Ma.aP (bx gs)-Ma.aK (bq gs)<d then Ma.aP (bx gs)-Ma.aK (bq gs) else d) (hf:first=if Ma.aP (bq gs)-r>Ma.aK (bq gs) then Ma.aP (bq gs)-r else Ma.aK (bq gs)) : Mq.sm (Mq.cQ (fG gs) r) first (Ma.aK (bx gs)-first+1).toNat=mP gs d:=by
 have nl:0<(bq gs).length:=by rw[bq,a1H];show ba
 have nh:0<(bx gs).length:=by rw[bx,a1H];show ba
 have B:=C5 ba hg;obtain⟨m1,m2⟩:=Ma.v_ _ nl;obtain⟨m3,m4⟩:=Ma.w_ _ nl;obtain⟨m5,m6⟩:=Ma.v_ _ nh;obtain⟨m7,m8⟩:=Ma.w_ _ nh;obtain⟨rl,cW,WN⟩:=a1U.mp m3;obtain⟨rg,uk,WO⟩:=a1U.mp m5
 show(Mq.WL (λf hf u hu=>by
   obtain⟨g,pi,rfl⟩:=a1U.mp hf;show C4 (hg g pi)<|by have:=m8 _ (a1U.mpr ⟨g,pi,μ⟩);lia)
  (a1U.mpr ⟨rl,cW,μ⟩) (λu hu=>WM (hg rl cW)<|by lia) (a1U.mpr ⟨rg,uk,μ⟩) (λu hu=>C4 (hg rg uk)<|by lia) Z Z Z Z Z hr hf).symm
end Me
namespace L2
open PySem PySem.Spec PyProof.Rows
def yp{vs:List (aD×Value)}{ns:List Int}(hk:vs.map (·.1)=ns.map Sum.inl){i:Nat}(h:∃k x,vs[i]?=some (k,x)/\(C_ P w).is k v=true):∃n t,ns[i]?=some n/\v=Value.int n t:=by
 obtain⟨k,x,h1,h2⟩:=h;have h3:(vs.map (·.1))[i]?=some k:=by rw[a1O,h1];rfl
 rw[hk,a1O] at h3
 cases q:ns[i]? with
 | none=>rw[q] at h3;cases h3
 | some m =>
  rw[q] at h3;have h4:=a1Q h3;subst h4;have h5:kh (Sum.inl m) v=true:=h2;rcases M_ h5 with⟨i',t,e1,e2⟩ | ⟨y,t,e1,_⟩;.cases e1;show⟨m,t,μ,e2⟩
  .cases e1
def KY(hc:X.calm=true):cZ X (.builtin "max") (λxs H Q=>∃(a:Addr) (kvs:List (aD×V)) (ns:List Int),xs=[.ref a]/\Rd H a (.dK kvs)/\kvs.map (·.1)=ns.map Sum.inl/\0<ns.length/\Q (.int (Ma.aP ns)) H):=by
 intro aa s σ H xs us Q I r h;obtain⟨a,kvs,ns,rfl,e,hk,ba,q⟩:=h;obtain⟨u,rfl,ru⟩:=vals1 r;cases ru;obtain⟨z,hd,vs,bA,o,es,ep,ho,dd⟩:=iN I.am e;have dj:vs.map (·.1)=ns.map Sum.inl:=by rw[<-bA.keys];show hk
 have hn:vs.length=ns.length:=by simpa using congrArg List.length dj
 have KS:=a4F (ep:=ep) (kvs:=vs) (knd:=C_ X.prog X.w) hd
 have jn:∀(i:Nat)  v ,(∃k x,vs[i]?=some (k,x)/\(C_ X.prog X.w).is k v=true)->∃t,v=.int ((λi=>(ns[i]?).getD 0) i) t:=λi v hP=>by
  obtain⟨n,t,e,rfl⟩:=yp dj hP;show⟨t,by simp[e]⟩
 obtain⟨oI,St,cg,W,st⟩:=KS.iter X.A.in1 s (I.ok.hd hc) ⟨o,es,ho,dd⟩;show call_max_walk (cg _ _ ⟨_,_,_,_,_,_,_,μ,W,st,λb cj=>?_,by omega,CmpOf.ints_gt (λi=>(ns[i]?).getD 0) jn,λv h' tk hP hk=>?_⟩)
 .rw[a2w];rcases a1L.mp cj with rfl | cj;.show a2T _
  .rw[a1X.mp cj];show a3d (a1N ho)
 .rw[hn] at hP;have ab:=argBest_gt (λi=>(ns[i]?).getD 0) (ns.length-1);obtain⟨n,t,e,rfl⟩:=yp dj hP
  have em:=Ma.wQ (a1K e) λm hm=>by
   obtain⟨j,hj⟩:=a2H hm;have CC:=(a1I.mp hj).1;have a2:=ab.2 j (by omega);simp only[hj,e,a4E] at a2;show a2
  subst em;show⟨.int _,H,I.kept (λb o e=>hk b o (λhI=>absurd (a1N e) (by rw[a1X.mp hI];show a2O _)) (a1J _ e)),⟨_,μ⟩,q⟩
def KZ(hc:X.calm=true):cZ X (.builtin "min") (λxs H Q=>∃(a:Addr) (kvs:List (aD×V)) (ns:List Int),xs=[.ref a]/\Rd H a (.dK kvs)/\kvs.map (·.1)=ns.map Sum.inl/\0<ns.length/\Q (.int (Ma.aK ns)) H):=by
 intro aa s σ H xs us Q I r h;obtain⟨a,kvs,ns,rfl,e,hk,ba,q⟩:=h;obtain⟨u,rfl,ru⟩:=vals1 r;cases ru;obtain⟨z,hd,vs,bA,o,es,ep,ho,dd⟩:=iN I.am e;have dj:vs.map (·.1)=ns.map Sum.inl:=by rw[<-bA.keys];show hk
 have hn:vs.length=ns.length:=by simpa using congrArg List.length dj
 have KS:=a4F (ep:=ep) (kvs:=vs) (knd:=C_ X.prog X.w) hd
 have jn:∀(i:Nat)  v ,(∃k x,vs[i]?=some (k,x)/\(C_ X.prog X.w).is k v=true)->∃t,v=.int ((λi=>(ns[i]?).getD 0) i) t:=λi v hP=>by
  obtain⟨n,t,e,rfl⟩:=yp dj hP;show⟨t,by simp[e]⟩
 obtain⟨oI,St,cg,W,st⟩:=KS.iter X.A.in1 s (I.ok.hd hc) ⟨o,es,ho,dd⟩;show call_min_walk<|cg _ _ ⟨_,_,_,_,_,_,_,μ,W,st,λb cj=>?_,by omega,CmpOf.ints_lt (λi=>(ns[i]?).getD 0) jn,λv h' tk hP hk=>?_⟩
 .rw[a2w];rcases a1L.mp cj with rfl | cj;.show a2T _
  .rw[a1X.mp cj];show a3d<|a1N ho
 .rw[hn] at hP;have ab:=argBest_lt (λi=>(ns[i]?).getD 0) (ns.length-1);obtain⟨n,t,e,rfl⟩:=yp dj hP
  have em:=Ma.wR (a1K e) λm hm=>by
   obtain⟨j,hj⟩:=a2H hm;have CC:=(a1I.mp hj).1;have a2:=ab.2 j (by omega);simp only[hj,e,a4E] at a2;show a2
  subst em;show⟨.int _,H,I.kept<|λb o e=>hk b o (λhI=>absurd (a1N e)<|by rw[a1X.mp hI];show a2O _)<|a1J _ e,⟨_,μ⟩,q⟩
end L2
namespace Hv
open PySem L2
noncomputable def iR(f:Int->Int)(lo:Int)(n:Nat):List V:=(List.range (n+1)).map λk=>V.int (Mq.sm f lo k)
def La(f:Int->Int)(lo:Int)(n:Nat):(iR f lo n).length=n+1:=by simp[iR]
def C6(f:Int->Int)(lo:Int)(n:Nat):iR f lo (n+1)=iR f lo n++[.int (Mq.sm f lo (n+1))]:=by
 unfold iR;rw[a3P,a2i];rfl
def pw(h:k<=n):(iR f lo n)[k]?=some (.int (Mq.sm f lo k)):=by
 unfold iR;rw[a1O,a4O (by lia)];rfl
def Lb(f:Int->Int)(lo:Int):∀n:Nat,df (iR f lo n) (-1)=some (.int (Mq.sm f lo n))
 | 0=>wm [] _
 | n+1=>by rw[C6];show wm _ _
def lz{α β:Type}{R:α->β->Prop}{as:List α}{bs:List β}(h:Paired R as bs):∀ {i:Nat} {a:α},as[i]?=some a->∃b,bs[i]?=some b/\R a b:=by
 induction h with
 | nil=>
  intro i a e;cases e
 | cons h t ih=>
  intro i a e
  cases i with
  | zero=>
   cases e;show⟨_,μ,h⟩
  | succ i=>show ih e
inductive yq(vs:List V)(H:Hp)(Q:VK)(aw:XK):Prop
 | mk:∀(q:Addr) (g:List (Int×Int)) (lo hi:Int),(vs=[.ref q,.int lo,.int hi])->(H q=some (.dK (ay g)))->(-5000<=lo)->(lo<=5000)->(-5000<=hi)->(hi<=5000)->(∀r H',H r=none->af H H'->H' r=some (.lst (iR (Me.gv g) lo (hi+1-lo).toNat))->Q (.ref r) H')->yq vs H Q aw
abbrev jr(H:Hp)(lo:Int)(n:Nat)(rs:List Addr)(rows:List (List (Int×Int))):Prop:=Paired (λr row=>H r=some (.lst (iR (λt=>Me.gv row t) lo n))) rs rows
def jr.keep(s:af H H')(h:jr H lo n rs rows):jr H' lo n rs rows:=L2.Paired.fE h λq row e=>s _ _ e
abbrev mQ(H:Hp)(qs:List Addr)(gs:List (List (Int×Int))):Prop:=Paired (λq g=>H q=some (.dK (ay g))) qs gs
def mQ.keep(h:mQ H qs gs)(s:af H H'):mQ H' qs gs:=L2.Paired.fE h λq g e=>s _ _ e
inductive yr(vs:List V)(H:Hp)(Q:VK)(aw:XK):Prop
 | mk:∀(p:Addr) (rs:List Addr) (rows:List (List (Int×Int))) (lo:Int) (n s e:Nat),(vs=[.ref p,.int s,.int e])->(H p=some (.lst (rs.map V.ref)))->(jr H lo n rs rows)->((∀row∈rows,Me.fM row))->(n<=20000)->(s<=e)->(e<=n)->(Q (.int (Mq.pr (Me.fG rows) (lo+s) (e-s))) H)->yr vs H Q aw
def Lc:aS ["ways","low","high","counts","total"] ["ways","low","high"] (h_ BP):=⟨μ,μ,μ,ξ,μ,ξ,ξ⟩
def WR(F:aM K "running_counts" "running_counts" BP f fd)(T:Txt mg):aA P w K mg base aI 1 f fd ["ways","low","high"] yq:=by
 show F.ok Lc λao A outer s H vs Q E hr h=>?_
 .obtain⟨q,g,lo,hi,rfl,hq,a1,a2,a3,a4,k⟩:=h;have nd:=Lc.nd;have hu:=ic hr;show⟨_,b_ (i_ 3<|x_<|a_ e_ d_) <|b_ (B_ PassesOwn.never μ (RL η T.range<|a_ (pv 1)<|a_ (n_ u_ (pv 2) e_) d_) (k_ 4) <|g_<|G_<|fk PySem.F.plainAttrs_list PySem.F.slot_list_append PySem.F.type_list_append K_ (pv 3)<|a_ (n_ u_ (bf (pv 3)<|eO eQ e_)<|mE hu (pv 0) (pv 4) e_ ⟨μ,μ,μ,μ⟩) d_) <|g_<|m_<|pv 3,⟨sz θ,λr cf=>?_⟩⟩;have s0:=f_ (o:=.lst [.int 0]) cf;show⟨_,μ,_,μ,_,_,μ,μ,_,_,μ,⟨Z,Z,Z,Z⟩,(H_ (n:=(hi+1-lo).toNat) (λi σ H2=>∃v4,σ=[some (.ref q),some (.int lo),some (.int hi),some (.ref r),v4]/\af H H2/\H2 r=some (.lst (iR (Me.gv g) lo i))) ⟨none,μ,s0,c_⟩ ?_ ?_)⟩
  .rintro i σ H2 dh ⟨v4,rfl,s2,h2⟩;show⟨_,μ,.inl ⟨μ,_,ae.of h2⟩,_,μ,1,μ,?_⟩;have e1:=Lb (Me.gv g) lo i;show bU h2 e1 ⟨_,μ,q,μ,.inl ⟨_,.inl<|s2 _ _ hq⟩,_,μ,_,L_<|.inl<|s2 _ _ hq,_,_,μ,mM _,⟨r,_,_,μ,μ,h2,bK<|by rw[La];lia,_,μ,N_ s2 cf,?_⟩⟩;rw[c_,C6];rfl
  .rintro σ H2 ⟨v4,rfl,s2,h2⟩;show⟨_,μ,k r H2 cf s2 h2⟩
def C7{qs:List Addr}{i:Nat}(hx:(qs.map V.ref)[i]?=some x):∃q:Addr,qs[i]?=some q/\x=.ref q:=by
 rw[a1O] at hx
 cases e:qs[i]? with
 | none=>rw[e] at hx;cases hx
 | some d=>rw[e] at hx;show⟨d,μ,(a1Q hx).symm⟩
def C9(f:Int->Int)(lo:Int)(h:s<=e):Mq.sm f lo e-Mq.sm f lo s=Mq.sm f (lo+s) (e-s):=by
 obtain⟨k,rfl⟩:=Nat.exists_eq_add_of_le h;rw[Mq.ui,a3L];lia
def Da{rows:List (List (Int×Int))}(h:rows[i]?=some row)(a:Int)(n:Nat):Mq.pr (Me.fG (rows.take (i+1))) a n=Mq.pr (Me.fG (rows.take i)) a n*Mq.sm (λt=>Me.gv row t) a n:=by
 unfold Mq.pr Me.fG;rw[a1P,h];simp
def Ld:aS ["running_by_part","start","end","many","running"] ["running_by_part","start","end"] (h_ BQ):=⟨μ,μ,μ,ξ,μ,ξ,ξ⟩
def WS(F:aM K "ways_within" "ways_within" BQ f fd):aA P w K mg base aI 1 f fd ["running_by_part","start","end"] yr:=by
 show F.ok Ld λao A outer s H vs Q E hr h=>?_
 .obtain⟨p,rs,rows,lo,n,st,e,rfl,hp,ra,dk,hn,WT,hen,k⟩:=h;have nd:=Ld.nd;show⟨_,b_ (i_ 3 e_) (b_ (B_ PassesOwn.never μ (I_ (pv 0)) (k_ 4) (g_ (i_ 3 (n_ Q_ (pv 3) (n_ R_ (bf (pv 4) (pv 2)) (bf (pv 4) (pv 1))))))) (g_ (m_ (pv 3)))),(⟨_,μ,p,μ,⟨_,ae.of hp⟩,Y_ (K:=K) (a:=p) (xs:=rs.map V.ref) (λi σ H'=>∃v4,σ=[some (.ref p),some (.int st),some (.int e),some (.int (Mq.pr (Me.fG (rows.take i)) (lo+st) (e-st))),v4]/\H=H') ⟨none,μ,μ⟩ (λi σ H' _ h=>by obtain⟨_,_,e⟩:=h;rw[<-e];show ae.of hp) ?_ ?_⟩)⟩
  .rintro i x σ H' hx ⟨v4,rfl,rfl⟩
   obtain⟨q,hq,rfl⟩:∃q:Addr,rs[i]?=some q/\x=.ref q:=by
    rw[a1O] at hx
    cases e:rs[i]? with
    | none=>rw[e] at hx;cases hx
    | some d=>rw[e] at hx;show⟨d,μ,(a1Q hx).symm⟩
   obtain⟨row,hj,aT⟩:=lz ra hq;have hl:=dk row (a1K hj);have bd:=Me.yn hl.val (lo+st) (e-st);show⟨_,μ,_,μ,_,μ,bU aT (Z_ (pw Z)) ⟨_,μ,_,μ,bU aT (Z_ (pw Z)) ⟨_,_,μ,μ,?_⟩⟩⟩;show (C9 _ _ WT)▸?_;show⟨_,_,μ,μ,.inr ⟨Z,Z⟩,some (.ref q),?_,μ⟩;rw[Da hj];rfl
  .rintro σ H' ⟨v4,rfl,rfl⟩;have el:(rs.map V.ref).length=rows.length:=by rw[a1H];show ra.length
   rw[el,a1T];show⟨_,μ,k⟩
inductive ul(vs:List V)(H:Hp)(Q:VK)(aw:XK):Prop
 | mk:∀(p:Addr) (qs:List Addr) (rows:List (List (Int×Int))) (d:Nat),(vs=[.ref p,.int d])->(H p=some (.lst (qs.map V.ref)))->(mQ H qs rows)->(0<rows.length)->(rows.length<=4)->((∀row∈rows,Me.fM row))->(∀H',af H H'->Q (.int (Me.mP rows d)) H')->ul vs H Q aw
def Lf:aS ["ways_by_part","width","leasts","greatests","reach","first","last","running_by_part","count","start","end"] ["ways_by_part","width"] (h_ qC):=⟨μ,μ,μ,ξ,μ,ξ,ξ⟩
def WU(F:aM K "count_spread_within" "count_spread_within" qC f fd)(T:Txt mg)(DR:ak P w K mg base 1 "running_counts" ["ways","low","high"] yq)(DW:ak P w K mg base 1 "ways_within" ["running_by_part","start","end"] yr) : aA P w K mg base aI 2 f fd ["ways_by_part","width"] ul:=by
 show F.ok Lf λao A outer s H vs Q E hr h=>?_
 .obtain⟨p,qs,rows,d,rfl,hp,wa,ba,h4,dk,k⟩:=h;have nd:=Lf.nd;show⟨_,b_ (qw (h_ qC) ["ways_by_part","width","leasts","greatests","reach","first","last","running_by_part","count","start","end"] [] [] (i:=2) nd μ (Or.inl μ) μ (I_ (pv 0)) (λcl C s H fp=>fm) (λcl C s H fp=>p_ (KZ μ) η T.min boot_min (a_ (pv 0) d_)) ξ η) (b_ (qw (h_ qC) ["ways_by_part","width","leasts","greatests","reach","first","last","running_by_part","count","start","end"] [] [] (i:=3) nd μ (Or.inl μ) μ (I_ (pv 0)) (λcl C s H fp=>fm) (λcl C s H fp=>p_ (KY μ) η T.max boot_max (a_ (pv 0) d_)) ξ η) (b_ (i_ 4 (p_ (sL μ) η T.min boot_min (a_ (pv 1) (a_ (n_ R_ (p_ (xE μ) η T.max boot_max (a_ (pv 3) d_)) (p_ (tP μ) η T.min boot_min (a_ (pv 2) d_))) d_)))) (b_ (i_ 5 (p_ (AR μ) η T.max boot_max (a_ (p_ (tP μ) η T.min boot_min (a_ (pv 2) d_)) (a_ (n_ R_ (p_ (xE μ) η T.max boot_max (a_ (pv 2) d_)) (pv 4)) d_)))) (b_ (i_ 6 (p_ (tP μ) η T.min boot_min (a_ (pv 3) d_))) (b_ (qw (h_ qC) ["ways_by_part","width","leasts","greatests","reach","first","last","running_by_part","count","start","end"] ["first","last","reach"] [5,6,4] (i:=7) nd μ (Or.inl μ) μ (I_ (pv 0)) (λcl C s H fp=>fm) (λcl C s H fp=>o_ DR hr η (a_ (pv 0) (a_ (pv 1) (a_ (n_ u_ (pv 2) (pv 3)) d_)))) ξ η) (b_ (i_ 8 e_) (b_ (B_ PassesOwn.never μ (z_ η T.range (a_ (n_ u_ (n_ R_ (pv 6) (pv 5)) e_) d_)) (k_ 9) (b_ (i_ 10 (n_ u_ (n_ u_ (pv 9) (pv 4)) e_)) (g_ (Rx (i:=8) nd μ (Or.inl μ) (n_ R_ (o_ DW hr η (a_ (pv 7) (a_ (pv 9) (a_ (pv 10) d_)))) (o_ DW hr η (a_ (pv 7) (a_ (n_ u_ (pv 9) e_) (a_ (pv 10) d_))))) Rz)))) (g_ (m_ (pv 8)))))))))),?_⟩;have gw:qs.length=rows.length:=wa.length;show⟨_,μ,p,μ,⟨_,ae.of hp⟩,S_ (K:=K) (a:=p) (xs:=qs.map V.ref) (λi ys H2=>ys=(Me.bq (rows.take i)).map V.int/\H=H2) ⟨μ,μ⟩ (λi ys H2 _ h=>by show h.2▸?_;show ae.of hp) ?_ ?_⟩
  .rintro i x ys H2 hx ⟨rfl,rfl⟩;obtain⟨q,hq,rfl⟩:=C7 hx;have gO:i<qs.length:=(a1I.mp hq).1;obtain⟨g,hj,hg⟩:=lz wa hq;have kl:=(dk g (a1K hj)).ne;show⟨bK (by simp[Me.bq];lia),_,μ,q,ay g,Me.keys g,μ,.inl hg,by simp[ay,Me.keys],kl,?_,μ⟩;rw[a1P,hj];simp[Me.bq]
  rintro ys H2 ⟨rfl,rfl⟩ l1 h1;rw[a1H,gw,a1T];have s1:=f_ (o:=.lst ((Me.bq rows).map V.int)) h1;have u1:upd H l1 (.lst ((Me.bq rows).map V.int)) l1=some (.lst ((Me.bq rows).map V.int)):=c_;generalize upd H l1 (.lst ((Me.bq rows).map V.int))=H1 at s1 u1⊢;have iS:=s1 _ _ hp;have WV:=wa.keep s1;show⟨_,μ,p,μ,⟨_,ae.of iS⟩,S_ (K:=K) (a:=p) (xs:=qs.map V.ref) (λi ys H2=>ys=(Me.bx (rows.take i)).map V.int/\H1=H2) ⟨μ,μ⟩ (λi ys H2 _ h=>by show h.2▸?_;show ae.of iS) ?_ ?_⟩
  .rintro i x ys H2 hx ⟨rfl,rfl⟩;obtain⟨q,hq,rfl⟩:=C7 hx;have gO:i<qs.length:=(a1I.mp hq).1;obtain⟨g,hj,hg⟩:=lz WV hq;have kl:=(dk g (a1K hj)).ne;show⟨bK (by simp[Me.bx];lia),_,μ,q,ay g,Me.keys g,μ,.inl hg,by simp[ay,Me.keys],kl,?_,μ⟩;rw[a1P,hj];simp[Me.bx]
  rintro ys H2 ⟨rfl,rfl⟩ l2 h2;rw[a1H,gw,a1T];have s2:=s1.trans (f_ (o:=.lst ((Me.bx rows).map V.int)) h2);have u2:upd H1 l2 (.lst ((Me.bx rows).map V.int)) l2=some (.lst ((Me.bx rows).map V.int)):=c_;have yt:=f_ (o:=.lst ((Me.bx rows).map V.int)) h2 _ _ u1;generalize upd H1 l2 (.lst ((Me.bx rows).map V.int))=H2 at s2 u2 yt⊢;have nl:0<(Me.bq rows).length:=by rw[Me.bq,a1H];show ba
  have nh:0<(Me.bx rows).length:=by rw[Me.bx,a1H];show ba
  have B:=Me.C5 ba dk;obtain⟨B1,B2,B3,B4,B5,B6⟩:=B;show⟨_,μ,_,μ,l2,_,μ,ae.of u2,nh,_,μ,l1,_,μ,ae.of yt,nl,_,_,μ,μ,_,_,μ,?_⟩;try dsimp only
  obtain⟨r,cf⟩:∃r:Nat,(r:Int)=if Ma.aP (Me.bx rows)-Ma.aK (Me.bq rows)<(d:Int) then Ma.aP (Me.bx rows)-Ma.aK (Me.bq rows) else (d:Int):=⟨(if Ma.aP (Me.bx rows)-Ma.aK (Me.bq rows)<(d:Int) then Ma.aP (Me.bx rows)-Ma.aK (Me.bq rows) else (d:Int)).toNat,by split <;> lia⟩;show cf▸?_;have rb:(r:Int)<=1620:=by split at cf <;> lia
  show⟨_,μ,l1,_,μ,ae.of yt,nl,_,μ,l1,_,μ,ae.of yt,nl,_,μ,_,_,μ,μ,_,_,μ,?_⟩;try dsimp only
  generalize hf:(if Ma.aP (Me.bq rows)-(r:Int)>Ma.aK (Me.bq rows) then Ma.aP (Me.bq rows)-(r:Int) else Ma.aK (Me.bq rows))=first;have fb : -2430<=first/\first<=810:=by rw[<-hf];split <;> lia
  show⟨_,μ,l2,_,μ,ae.of u2,nh,?_⟩;generalize jS:Ma.aK (Me.bx rows)=last;rw[jS] at B4 B5;have cG:=s2 _ _ hp;have WW:=wa.keep s2;obtain⟨n,hn⟩:∃n:Nat,n=(last+(r:Int)+1-first).toNat:=⟨_,μ⟩;show⟨_,μ,p,μ,⟨_,ae.of cG⟩,S_ (K:=K) (a:=p) (xs:=qs.map V.ref) (λi ys H3=>∃ts,ys=ts.map V.ref/\ts.length=i/\af H2 H3/\jr H3 first n ts (rows.take i)) ⟨[],μ,μ,af.refl _,.nil⟩ (λi ys H3 _ h=>by obtain⟨_,_,_,s',_⟩:=h;show ae.of (s' _ _ cG)) ?_ ?_⟩
  .rintro i x ys H3 hx ⟨ts,rfl,bP,s3,ra⟩;obtain⟨q,hq,rfl⟩:=C7 hx;have gO:i<qs.length:=(a1I.mp hq).1;obtain⟨g,hj,hg⟩:=lz WW hq;show⟨bK (by rw[a1H];lia),_,μ,_,μ,_,μ,_,μ,_,_,μ,μ,q,g,first,last+(r:Int),μ,s3 _ _ hg,Z,Z,Z,Z,λr' H4 yu s4 h4=>⟨ts++[r'],θ,by simp[bP],s3.trans s4,?_⟩⟩;rw[a1P,hj];rw[<-hn] at h4;show Paired.snoc (ra.keep s4) h4
  rintro ys H3 ⟨ts,rfl,bP,s3,ra⟩ l3 h3;rw[a1H,gw,a1T] at ra;have s4:=(s2.trans s3).trans (f_ (o:=.lst (ts.map V.ref)) h3);have Db:=ra.keep (f_ (o:=.lst (ts.map V.ref)) h3);have u3:upd H3 l3 (.lst (ts.map V.ref)) l3=some (.lst (ts.map V.ref)):=c_;generalize upd H3 l3 (.lst (ts.map V.ref))=H4 at s4 Db u3⊢;show⟨_,μ,_,μ,_,_,μ,μ,_,_,μ,μ,_,μ,Z,Z,?_⟩;have en:(last-first+1).toNat=(Ma.aK (Me.bx rows)-first+1).toNat:=by rw[jS]
  show H_ (lo:=0) (n:=(last-first+1).toNat) (λi σ H5=>∃v9 bW,σ=[some (.ref p),some (.int d),some (.ref l1),some (.ref l2),some (.int r),some (.int first),some (.int last),some (.ref l3),some (.int (Mq.sm (Mq.cQ (Me.fG rows) r) first i)),v9,bW]/\H4=H5) ⟨none,none,?_,μ⟩ ?_ ?_;.rfl
  .rintro i σ H5 hi ⟨v9,bW,rfl,rfl⟩;show⟨_,μ,_,μ,_,_,μ,μ,_,_,μ,μ,?_⟩;try dsimp only
   show⟨_,μ,_,μ,_,μ,_,μ,l3,ts,rows,first,n,i,i+r+1,?_,u3,Db,dk,Z,Z,Z,?_⟩
   .change[V.ref l3,V.int (0+(i:Int)),V.int (0+(i:Int)+(r:Int)+1)]=_;rw[a2N];push_cast;rfl
   show⟨_,μ,_,μ,_,_,μ,μ,_,μ,l3,ts,rows,first,n,i+1,i+r+1,?_,u3,Db,dk,Z,Z,Z,?_⟩
   .change[V.ref l3,V.int (0+(i:Int)+1),V.int (0+(i:Int)+(r:Int)+1)]=_;rw[a2N];push_cast;rfl
   show⟨_,_,μ,μ,_,_,μ,μ,some (.int (0+(i:Int))),some (.int (0+(i:Int)+(r:Int)+1)),?_,μ⟩;have e1:i+r+1-i=r+1:=by lia
   have e2:i+r+1-(i+1)=r:=by lia
   have e3:first+((i+1:Nat):Int)=first+(i:Int)+1:=by push_cast;lia
   rw[e1,e2,e3];rfl
  .rintro σ H5 ⟨v9,bW,rfl,rfl⟩;show⟨_,μ,?_⟩;rw[en,Me.WQ ba dk cf hf.symm];show k _ s4
end Hv
namespace Ma
noncomputable def num(b:Nat)(ds:List Nat):Nat:=ds.foldl (λx d=>x*b+d) 0
def WX(b d:Nat)(l:List Nat):num b (l++[d])=num b l*b+d:=by
 unfold num;rw[a3r];rfl
def Lg{ds:List Nat}(h:ds[i]?=some d):num b (ds.take (i+1))=num b (ds.take i)*b+d:=by
 rw[a1P,h];show WX b d _
noncomputable def a1r(b n L:Nat):Nat:=num b (aO b n L L).reverse
def WY(hb:0<b)(hn:n<b ^ L):num b (aO b n L L)=n:=by
 have:∀i,i<=L->num b ((aO b n L L).take i)=n / b ^ (L-i):=by
  intro i
  induction i with
  | zero=>intro _;rw[a5q,a3O,a3l hn];rfl
  | succ i ih =>
   intro hi;have dh:i<L:=hi;have g:(aO b n L L)[i]?=some (n / b ^ (L-1-i) % b):=by simp[aO,dh]
   rw[Lg g,ih (by lia)];have e1:L-i=(L-1-i)+1:=by lia
   have e2:L-(i+1)=L-1-i:=by lia
   rw[e1,e2,a2S,<-a2E,a2D];show a3F _ _
 have h:=this L (a1M _);rw[a3n,a3u,a4Z,a2t (by rw[fL];show a1M _)] at h;show h
end Ma
namespace Hv
open PySem L2
def Dc{i:Nat}(h:(az ds)[i]?=some x):∃y:Nat,ds[i]?=some y/\x=.int (y:Int):=by
 simp only[az,a1O] at h
 cases e:ds[i]? with
 | none=>rw[e] at h;cases h
 | some d=>rw[e] at h;show⟨d,μ,(a1Q h).symm⟩
inductive yv(vs:List V)(H:Hp)(Q:VK)(aw:XK):Prop
 | mk:∀(b:Nat) (r:Addr) (ds:List Nat),(vs=[.int b,.ref r])->(b<=16)->(H r=some (.lst (az ds)))->(Q (.int ((Ma.num b ds:Nat):Int)) H)->yv vs H Q aw
def Lh:aS ["base","figures","number","figure"] ["base","figures"] (h_ BS):=⟨μ,μ,μ,ξ,μ,ξ,ξ⟩
def WZ(F:aM K "number_of" "number_of" BS f fd):aA P w K mg base aI 1 f fd ["base","figures"] yv:=by
 show F.ok Lh λao A outer s H vs Q E hr h=>?_
 .obtain⟨b,r,ds,rfl,hb,hd,k⟩:=h;have nd:=Lh.nd;show⟨_,b_ (i_ 2 e_) <|b_ (B_ PassesOwn.never μ (I_<|pv 1) (k_ 3)<|g_<|i_ 2<|n_ u_ (n_ Q_ (pv 2)<|pv 0)<|pv 3) <|g_<|m_<|pv 2,(⟨_,μ,r,μ,⟨_,ae.of hd⟩,Y_ (K:=K) (a:=r) (xs:=az ds) (λi σ H'=>H=H'/\∃v3,σ=[some (.int b),some (.ref r),some (.int ((Ma.num b (ds.take i):Nat):Int)),v3]) ⟨μ,none,μ⟩ (λi σ H' _ h=>by rw[<-h.1];show ae.of hd) ?_ ?_⟩)⟩
  .rintro i x σ H' hx ⟨rfl,v3,rfl⟩;obtain⟨y,hy,rfl⟩:=Dc hx;show⟨_,μ,_,μ,_,_,μ,μ,.inr ⟨Z,Z⟩,_,μ,_,_,μ,μ,μ,some<|.int  y ,?_⟩;rw[Ma.Lg hy];rfl
  .rintro σ H' ⟨rfl,v3,rfl⟩;show⟨_,μ,?_⟩;have e:(az ds).length=ds.length:=by simp[az]
   rw[e,a1T];show k
end Hv
namespace L2
open PySem PySem.Spec PyProof.Rows
abbrev dl(h:Heap)(T:Addr)(a b c:Value):Prop:=h.get? T=some {cls:=.type "tuple",data:=.seq #[a,b,c]}
def W8(a b c:Value):checkTypeCall "zip" ⟨[a,b,c],[]⟩=pure ():=by kernel_rfl
def W'(a b c:Value):checkBuiltinCall "zip.__new__" ⟨[.type "zip",a,b,c],[]⟩=pure ():=by kernel_rfl
def Xa(a b c d:Value):argsOk "object.__init__" ⟨[a,b,c,d],[]⟩:=by unfold argsOk;kernel_rfl
structure Zd(z TI TO i1 i2 i3 l1 l2 l3:Addr):Prop where
 nd:[z,TI,TO,i1,i2,i3].Nodup
 f1:l1∉[z,TO,i1,i2,i3]
 f2:l2∉[z,TO,i1,i2,i3]
 f3:l3∉[z,TO,i1,i2,i3]
def Dd(hT:dl s.heap T a b c) (h:∀h',h'.get? T=some {cls:=.type "tuple",data:=.seq ((#[a,b,c]:Array Value).setIfInBounds k x)}->Heap.SameBut T s.heap h'->Q () {s with heap:=h'}) : wpAny (model prog w) A (updateSeq T (·.setIfInBounds k x)) Q E s:=by
 show wpAny_updateSeq hT μ<|h _ ?_<|Heap.SameBut.update ..;rw[a3A _ hT μ];simp[Obj.mapSeq]
def Xb{z TI TO i1 i2 i3 l1 l2 l3:Addr}{Q:Value->Shared->Prop}(D:Zd z TI TO i1 i2 i3 l1 l2 l3) (hz:IsZip s.heap z TI TO .none) (pz:dl s.heap TI (.ref i1) (.ref i2) (.ref i3)) (qW:dl s.heap TO a b c) (h1:s.heap.IsListIter i1 l1 k1) (h2:s.heap.IsListIter i2 l2 k2) (h3:s.heap.IsListIter i3 l3 k3) (bV:s.heap.IsList l1 xs) (bz:s.heap.IsList l2 ys) (cv:s.heap.IsList l3 zs) (hx:xs[k1]?=some x) (hy:ys[k2]?=some y) (hu:zs[k3]?=some u) (hQ:∀h',IsZip h' z TI TO (rawInt s.heap.objs.size)->dl h' TO x y u->h'.IsListIter i1 l1 (k1+1)->h'.IsListIter i2 l2 (k2+1)->h'.IsListIter i3 l3 (k3+1)->dl h' s.heap.objs.size x y u->h'.objs.size=s.heap.objs.size+1-> (∀c o,c∉[z,TO,i1,i2,i3]->s.heap.get? c=some o->h'.get? c=some o)->Q (.ref s.heap.objs.size) {s with heap:=h'}) : wpAny (model prog w) A (Builtin.«zip.__next__» ⟨[.ref z],[]⟩) (λfin s'=>∃v,fin=.done (.ret v)/\Q v s') E s:=by
 have nd:=D.nd;simp only[a2j,a1L,a1Z,or_false,not_or,not_false_eq_true,a4v,and_true] at nd;obtain⟨⟨yw,mR,mS,qX,qY⟩,⟨TITO,TIi1,TIi2,De⟩,⟨qZ,q9,um⟩,⟨pA,pB⟩,pC⟩:=nd;have f1:=D.f1;have f2:=D.f2;have f3:=D.f3;simp only[a1L,a1Z,or_false,not_or] at f1 f2 f3;obtain⟨Df,Xc,Xd,Xe,Xf⟩:=f1;obtain⟨Xg,Xh,Xi,a1s,a1t⟩:=f2;obtain⟨Xj,Xk,Xl,Xm,a1u⟩:=f3;change wpAny _ _ (field (.ref z) 2>>=_) _ _ _;show wpAny_bind (wpAny_field hz μ (x:=.bool false) μ ?_);show wpAny_bind (wpAny_field hz μ μ (wpAny_bind (wpAny_seqItems pz μ ?_)));show wpAny_bind ?_;show wpAny_bind (wpAny_field hz μ μ (wpAny_pure ?_));show wpAny_bind (wpAny_rule ?_);show wpAny_bind (wpAny_field hz μ μ (wpAny_bind (wpAny_setField_rec hz θ λH1 jp s1=>?_)));replace jp:IsZip H1 z TI TO .ellipsis:=jp;show wpAny_bind ?_;show wpAny_bind (wpAny_bind (wpAny_onRaise ?_));show wpAny_bind (wpAny_nextOf_list_item (h1.extBut s1.extBut (Ne.symm mS)) (bV.extBut s1.extBut Df) hx λH2 q2 s2=>wpAny_pure ?_);have t2:dl H2 TO a b c:=s2.extBut _ _ qZ (s1.extBut _ _ (Ne.symm mR) qW);show wpAny_bind (wpAny_seqItems t2 μ (wpAny_bind (Dd t2 λH3 t3 s3=>?_)));replace t3:dl H3 TO x b c:=t3;show wpAny_bind (wpAny_letGo (wpAny_pure (wpAny_bind (wpAny_bind (wpAny_onRaise ?_)))));change wpAny _ _ (Builtin.SmallTypes.nextOf (.ref i2)>>=_) _ _ _;have Dg:∀c o,c≠z->c≠TO->c≠i1->s.heap.get? c=some o->H3.get? c=some o:=λc o c1 c2 c3 e=>s3.extBut _ _ c2 (s2.extBut _ _ c3 (s1.extBut _ _ c1 e));show wpAny_bind (wpAny_nextOf_list_item (h2.at λo e=>Dg _ o (Ne.symm qX) (Ne.symm q9) (Ne.symm pA) e) (Heap.IsList.at bz λo e=>Dg _ o Xg Xh Xi e) hy λH4 q4 s4=>wpAny_pure ?_);have t4:dl H4 TO x b c:=s4.extBut _ _ q9 t3;show wpAny_bind (wpAny_seqItems t4 μ (wpAny_bind (Dd t4 λH5 t5 s5=>?_)));replace t5:dl H5 TO x y c:=t5;show wpAny_bind (wpAny_letGo (wpAny_pure (wpAny_bind (wpAny_bind (wpAny_onRaise ?_)))));change wpAny _ _ (Builtin.SmallTypes.nextOf (.ref i3)>>=_) _ _ _;have pD:∀c o,c≠z->c≠TO->c≠i1->c≠i2->s.heap.get? c=some o->H5.get? c=some o:=λc o c1 c2 c3 c4 e=>s5.extBut _ _ c2 (s4.extBut _ _ c4 (Dg c o c1 c2 c3 e));show wpAny_bind (wpAny_nextOf_list_item (h3.at λo e=>pD _ o (Ne.symm qY) (Ne.symm um) (Ne.symm pB) (Ne.symm pC) e) (Heap.IsList.at cv λo e=>pD _ o Xj Xk Xl Xm e) hu λH6 q6 s6=>wpAny_pure ?_);have t6:dl H6 TO x y c:=s6.extBut _ _ um t5;show wpAny_bind (wpAny_seqItems t6 μ (wpAny_bind (Dd t6 λH7 t7 s7=>?_)));replace t7:dl H7 TO x y u:=t7;show wpAny_bind (wpAny_letGo (wpAny_pure (wpAny_pure (wpAny_bind (wpAny_seqItems t7 μ ?_)))));show wpAny_bind (wpAny_newTuple ?_);have hsz:H7.objs.size=s.heap.objs.size:=by rw[s7.1,s6.1,s5.1,s4.1,s3.1,s2.1,s1.1]
 have z3:IsZip H3 z TI TO .ellipsis:=s3.extBut _ _ mR (s2.extBut _ _ mS jp);have z7:IsZip H7 z TI TO .ellipsis:=s7.extBut _ _ mR (s6.extBut _ _ qY (s5.extBut _ _ mR (s4.extBut _ _ qX z3)))
 have Xn:∀c o,c∉[z,TO,i1,i2,i3]->s.heap.get? c=some o->H7.get? c=some o:=λc o hc e=>by
  simp only[a1L,a1Z,or_false,not_or] at hc;obtain⟨c1,c2,c3,c4,c5⟩:=hc;show s7.extBut _ _ c2 (s6.extBut _ _ c5 (pD c o c1 c2 c3 c4 e))
 have r1:H7.IsListIter i1 l1 (k1+1):=q2.at λo e=>s7.extBut _ _ (Ne.symm qZ) (s6.extBut _ _ pB (s5.extBut _ _ (Ne.symm qZ) (s4.extBut _ _ pA (s3.extBut _ _ (Ne.symm qZ) e))));have r2:H7.IsListIter i2 l2 (k2+1):=q4.at λo e=>s7.extBut _ _ (Ne.symm q9) (s6.extBut _ _ pC (s5.extBut _ _ (Ne.symm q9) e));have r3:H7.IsListIter i3 l3 (k3+1):=q6.at λo e=>s7.extBut _ _ (Ne.symm um) e;have Li:z<H7.objs.size:=a1N z7;change wpAny _ _ (Builtin.SmallTypes.ownedTupleHandOut (.ref z) (.ref H7.objs.size)>>=_) _ _ _;show wpAny_bind ?_;unfold Builtin.SmallTypes.ownedTupleHandOut;have z8:IsZip (H7.push {cls:=.type "tuple",data:=.seq #[x,y,u]}) z TI TO .ellipsis:=a1J _ z7;show wpAny_bind (wpAny_setField_rec z8 θ λH8 w8 s8=>?_);replace w8:IsZip H8 z TI TO (rawInt H7.objs.size):=w8;show wpAny_setField_rec w8 θ λH9 w9 s9=>?_;replace w9:IsZip H9 z TI TO (rawInt H7.objs.size):=w9;have up:∀c o,c≠z->H7.get? c=some o->H9.get? c=some o:=λc o c1 e=>s9.extBut _ _ c1 (s8.extBut _ _ c1 (a1J _ e));have t9:dl H9 H7.objs.size x y u:=s9.extBut _ _ (a2K Li) (s8.extBut _ _ (a2K Li) (a1S _ μ));have zz:H9.objs.size=H7.objs.size+1:=by rw[s9.1,s8.1,a2w]
 rw[hsz] at w9 t9 zz;show wpAny_pure ⟨_,μ,?_⟩;change Q (.ref H7.objs.size) _;rw[hsz];show hQ H9 w9 (up _ _ (Ne.symm mR) t7) (r1.at λo e=>up _ o (Ne.symm mS) e) (r2.at λo e=>up _ o (Ne.symm qX) e) (r3.at λo e=>up _ o (Ne.symm qY) e) t9 zz λc o hc e=>up c o (λq=>hc (by simp[q])) (Xn c o hc e)
def Xo{z TI TO i1 i2 i3 l1 l2 l3:Addr}(hh:A.handled=none)(D:Zd z TI TO i1 i2 i3 l1 l2 l3) (hz:IsZip s.heap z TI TO .none) (pz:dl s.heap TI (.ref i1) (.ref i2) (.ref i3)) (qW:dl s.heap TO a b c) (h1:s.heap.IsListIter i1 l1 k1) (bV:s.heap.IsList l1 xs) (rc:xs[k1]?=none) (hE:∀h' e,(∀c o,c∉[z,TO,i1,i2,i3]->s.heap.get? c=some o->h'.get? c=some o)->(∃o,h'.get? e=some o/\o.cls=.type "StopIteration")->E (.ref e) {s with heap:=h'}) : wpAny (model prog w) A (Builtin.«zip.__next__» ⟨[.ref z],[]⟩) Q E s:=by
 have nd:=D.nd;simp only[a2j,a1L,a1Z,or_false,not_or,not_false_eq_true,a4v,and_true] at nd;obtain⟨⟨yw,mR,mS,qX,qY⟩,⟨TITO,TIi1,TIi2,De⟩,⟨qZ,q9,um⟩,⟨pA,pB⟩,pC⟩:=nd;have f1:=D.f1;simp only[a1L,a1Z,or_false,not_or] at f1;obtain⟨Df,Xc,Xd,Xe,Xf⟩:=f1;change wpAny _ _ (field _ 2>>=_) _ _ _;show wpAny_bind<|wpAny_field hz μ (x:=.bool _) μ ?_;show wpAny_bind<|wpAny_field hz μ μ (wpAny_bind (wpAny_seqItems pz μ ?_));show wpAny_bind ?_;show wpAny_bind<|wpAny_field hz μ μ<|wpAny_pure ?_;show wpAny_bind<|wpAny_rule ?_;show wpAny_bind<|wpAny_field hz μ μ (wpAny_bind (wpAny_setField_rec hz θ λH1 jp s1=>?_));show wpAny_bind ?_;show wpAny_bind<|wpAny_bind<|wpAny_onRaise ?_;show wpAny_bind<|wpAny_nextOf_list_end hh (h1.extBut s1.extBut<|Ne.symm mS) (bV.extBut s1.extBut Df) rc λH2 e s2 he=>?_;obtain⟨oe,Dh,Lj⟩:=he;have oS:=s2 _ _ mS jp;have Xp:e≠z:=λx=>by grind
 show wpAny_setField_rec oS θ λH3 _ s3=>hE H3 e (λc o hc x=>?_) ⟨oe,s3.extBut _ _ Xp Dh,Lj⟩;simp only[a1L,a1Z,or_false,not_or] at hc;show s3.extBut _ _ hc.1<|s2 _ _ hc.2.2.1<|s1.extBut _ _ hc.1 x
def Xq{z TI TO i1 i2 i3 l1 l2 l3:Addr}(D:Zd z TI TO i1 i2 i3 l1 l2 l3) (hz:IsZip s.heap z TI TO .none) (pz:dl s.heap TI (.ref i1) (.ref i2) (.ref i3)) (qW:dl s.heap TO a b c) (h1:s.heap.IsListIter i1 l1 k1) (h2:s.heap.IsListIter i2 l2 k2) (h3:s.heap.IsListIter i3 l3 k3) (bV:s.heap.IsList l1 xs) (bz:s.heap.IsList l2 ys) (cv:s.heap.IsList l3 zs) (hx:xs[k1]?=some x) (hy:ys[k2]?=some y) (hu:zs[k3]?=some u) (hQ:∀h',IsZip h' z TI TO (rawInt s.heap.objs.size)->dl h' TO x y u->h'.IsListIter i1 l1 (k1+1)->h'.IsListIter i2 l2 (k2+1)->h'.IsListIter i3 l3 (k3+1)->dl h' s.heap.objs.size x y u->h'.objs.size=s.heap.objs.size+1-> (∀c o,c∉[z,TO,i1,i2,i3]->s.heap.get? c=some o->h'.get? c=some o)->Q (some (.ref s.heap.objs.size)) {s with heap:=h'}) : wpAny (model prog w) A (pyNext (.ref z)) Q E s:=by
 have hT:s.TypeIs (.ref z) "zip":=⟨_,hz,μ⟩;show wpAny_bind<|wpAny_attempt<|wpAny_callSpecial?_slot hT F.slot_zip_next <|wpAny_call_entry F.slot_zip_next hT F.entry_zip_next (Xb D hz pz qW h1 h2 h3 bV bz cv hx hy hu λh' a1 a2 a3 a4 a5 a6 a7 a8=>wpAny_pure<|hQ h' a1 a2 a3 a4 a5 a6 a7 a8)<|F.args_zip_next_1 _
def Xr{z TI TO i1 i2 i3 l1 l2 l3:Addr}(hh:A.handled=none)(D:Zd z TI TO i1 i2 i3 l1 l2 l3) (hz:IsZip s.heap z TI TO .none) (pz:dl s.heap TI (.ref i1) (.ref i2) (.ref i3)) (qW:dl s.heap TO a b c) (h1:s.heap.IsListIter i1 l1 k1) (bV:s.heap.IsList l1 xs) (rc:xs[k1]?=none) (hQ:∀h',(∀c o,c∉[z,TO,i1,i2,i3]->s.heap.get? c=some o->h'.get? c=some o)->Q none {s with heap:=h'}):wpAny (model prog w) A (pyNext (.ref z)) Q E s:=by
 have hT:s.TypeIs (.ref z) "zip":=⟨_,hz,μ⟩;show wpAny_bind<|wpAny_attempt<|wpAny_callSpecial?_slot hT F.slot_zip_next <|wpAny_call_entry F.slot_zip_next hT F.entry_zip_next (Xo hh D hz pz qW h1 bV rc λh' e hk he=>?_)<|F.args_zip_next_1 _;obtain⟨o,ho,hc⟩:=he;show wpAny_bind<|wpAny_isInstance ⟨o,ho,hc⟩ isSubtype_stop (wpAny_pure (hQ _ hk))
noncomputable abbrev yx(h:Heap)(l1:Addr):Heap:=h.push {cls:=.type "list_iterator",data:=.fields #[.ref l1,.int 0 0]}
noncomputable abbrev yy(h:Heap)(l1 l2:Addr):Heap:=(yx h l1).push {cls:=.type "list_iterator",data:=.fields #[.ref l2,.int 0 0]}
noncomputable abbrev yz(h:Heap)(l1 l2 l3:Addr):Heap:=(yy h l1 l2).push {cls:=.type "list_iterator",data:=.fields #[.ref l3,.int 0 0]}
noncomputable abbrev yA(h:Heap)(l1 l2 l3:Addr):Heap:=(yz h l1 l2 l3).push {cls:=.type "tuple",data:=.seq #[.ref h.objs.size,.ref (yx h l1).objs.size,.ref (yy h l1 l2).objs.size]}
noncomputable abbrev yB(h:Heap)(l1 l2 l3:Addr):Heap:=(yA h l1 l2 l3).push {cls:=.type "tuple",data:=.seq #[.none,.none,.none]}
noncomputable abbrev pE(h:Heap)(l1 l2 l3:Addr):Heap:=(yB h l1 l2 l3).push {cls:=.type "zip",data:=.fields #[.none,.bool false,.bool false,.ref (yz h l1 l2 l3).objs.size,.ref (yA h l1 l2 l3).objs.size]}
def Xs(l1 l2 l3:Addr)(xs ys zs:Array Value) : Meets (Builtin.«zip.__new__» ⟨[.type "zip",.ref l1,.ref l2,.ref l3],[]⟩) (λ_ R s=>s.heap.IsList l1 xs/\s.heap.IsList l2 ys/\s.heap.IsList l3 zs/\ R (.ok (.ret (.ref (yB s.heap l1 l2 l3).objs.size))) {s with heap:=pE s.heap l1 l2 l3}) :=
 .of_wp λprog w A R s h=>by
  obtain⟨hp,g,d,tk,os⟩:=s;obtain⟨bV,bz,cv,h⟩:=h;have qN:=sub_zip;have Xt:Heap.IsList (Shared.heap ⟨hp,g,d,tk,os⟩) l1 xs:=bV;have Xu:Heap.IsList (Shared.heap ⟨hp.push {cls:=.type "list_iterator",data:=.fields #[.ref l1,.int 0 0]},g,d,tk,os⟩) l2 ys:=Heap.IsList.push bz _;have Xv:Heap.IsList (Shared.heap ⟨(hp.push {cls:=.type "list_iterator",data:=.fields #[.ref l1,.int 0 0]}).push {cls:=.type "list_iterator",data:=.fields #[.ref l2,.int 0 0]},g,d,tk,os⟩) l3 zs:=Heap.IsList.push (Heap.IsList.push cv _) _;wp_walk using wpAny_pyIter_list Xt,wpAny_pyIter_list Xu,wpAny_pyIter_list Xv;show⟨_,μ,h⟩
def Xw(n:Nat):List.Nodup [n+5,n+3,n+4,n,n+1,n+2]:=by simp
def Xx(h1:l1<n)(h2:l2<n)(h3:l3<n):Zd (n+5) (n+3) (n+4) n (n+1) (n+2) l1 l2 l3:=by
 have aZ:∀l:Nat,l<n->l∉[ n +5,n+4,n,n+1,n+2]:=λl hl z=>by grind
 show⟨(Xw n),aZ l1 h1,aZ l2 h2,aZ l3 h3⟩
section
variable{s:Shared}
def Xy(bV:s.heap.IsList l1 xs)(bz:s.heap.IsList l2 ys)(cv:s.heap.IsList l3 zs) (h:∀h',IsZip h' (s.heap.objs.size+5) (s.heap.objs.size+3) (s.heap.objs.size+4) .none->dl h' (s.heap.objs.size+3) (.ref s.heap.objs.size) (.ref (s.heap.objs.size+1)) (.ref (s.heap.objs.size+2))-> dl h' (s.heap.objs.size+4) .none .none .none->h'.IsListIter s.heap.objs.size l1 0->h'.IsListIter (s.heap.objs.size+1) l2 0->h'.IsListIter (s.heap.objs.size+2) l3 0-> (∀c o,s.heap.get? c=some o->h'.get? c=some o)->Q (.ref (s.heap.objs.size+5)) {s with heap:=h'}) : wpAny (model prog w) A (call (.type "zip") [.ref l1,.ref l2,.ref l3]) Q E s:=by
 show callType_new F.called_zip ζ (W8 _ _ _) (W' _ _ _) (λobj=>Xa obj _ _ _) F.entry_zip_new (Xs l1 l2 l3 xs ys zs) ⟨bV,bz,cv,?_⟩;have e1:(yx s.heap l1).objs.size=s.heap.objs.size+1:=a2w ..;have e2:(yy s.heap l1 l2).objs.size=s.heap.objs.size+2:=by rw[a2w,e1]
 have e3:(yz s.heap l1 l2 l3).objs.size=s.heap.objs.size+3:=by rw[a2w,e2]
 have e4:(yA s.heap l1 l2 l3).objs.size=s.heap.objs.size+4:=by rw[a2w,e3]
 have e5:(yB s.heap l1 l2 l3).objs.size=s.heap.objs.size+5:=by rw[a2w,e4]
 have g6:(pE s.heap l1 l2 l3).get? (yB s.heap l1 l2 l3).objs.size=some _:=a1S _ μ;have g5:(pE s.heap l1 l2 l3).get? (yA s.heap l1 l2 l3).objs.size=some _:=a1J _ (a1S _ μ);have g4:(pE s.heap l1 l2 l3).get? (yz s.heap l1 l2 l3).objs.size=some _:=a1J _ (a1J _ (a1S _ μ));have g3:(pE s.heap l1 l2 l3).get? (yy s.heap l1 l2).objs.size=some _:=a1J _ (a1J _ (a1J _ (a1S _ μ)));have g2:(pE s.heap l1 l2 l3).get? (yx s.heap l1).objs.size=some _:=a1J _ (a1J _ (a1J _ (a1J _ (a1S _ μ))));have g1:(pE s.heap l1 l2 l3).get? s.heap.objs.size=some _:=a1J _ (a1J _ (a1J _ (a1J _ (a1J _ (a1S _ μ)))));rw[e3,e4,e5] at g6;rw[e1,e2,e3] at g4;rw[e4] at g5;rw[e2] at g3;rw[e1] at g2;rw[e5];show⟨⟨_,g6,μ⟩,h _ g6 g4 g5 ⟨_,g1,μ,μ⟩ ⟨_,g2,μ,μ⟩ ⟨_,g3,μ,μ⟩ λc o x => a1J _ (a1J _ (a1J _ (a1J _ (a1J _ (a1J _ x)))))⟩
end
noncomputable def uo(K:PySem.W.Frag)(a b c:Addr):It := ⟨λi H=>∃xs ys zs x y u,ae K H a xs/\ae K H b ys/\ae K H c zs/\xs[i]?=some x/\ys[i]?=some y/\zs[i]?=some u, λi H v H'=>∃t x y u,v=.ref t/\H t=none/\(∀xs,ae K H a xs->xs[i]?=some x)/\(∀ys,ae K H b ys->ys[i]?=some y)/\(∀zs,ae K H c zs->zs[i]?=some u)/\H'=upd H t (.tup [x,y,u]), λi H=>∃xs,ae K H a xs/\xs.length<=i⟩
def Xz{K:PySem.W.Frag}(a b c z TI TO i1 i2 i3:Addr)(D:Zd z TI TO i1 i2 i3 a b c):jC P w K (.Tuple elts x1 pos) (uo K a b c) [z,TI,TO,i1,i2,i3] z (λi h=>IsZip h z TI TO .none/\dl h TI (.ref i1) (.ref i2) (.ref i3)/\(∃u v t,dl h TO u v t)/\h.IsListIter i1 a i/\h.IsListIter i2 b i/\h.IsListIter i3 c i) where
 mem:=by simp
 obj:=λi h st e hb=>by
  obtain⟨h1,h2,⟨u,v,t,h3⟩,⟨o4,h4,_,d4⟩,⟨o5,h5,_,d5⟩,⟨o6,h6,_,d6⟩⟩:=st;simp only[a1L,a1Z,or_false] at hb;rcases hb with rfl | rfl | rfl | rfl | rfl | rfl;.simp_all
  .simp_all
  .simp_all
  .simp_all
  .simp_all
  .simp_all
 keep:=λi h h' st k=>by
  obtain⟨h1,h2,⟨u,v,t,h3⟩,h4,h5,h6⟩:=st;show⟨k z θ _ h1,k TI θ _ h2,⟨u,v,t,k TO θ _ h3⟩,h4.at λo q=>k i1 θ o q,h5.at λo q=>k i2 θ o q,h6.at λo q=>k i3 θ o q⟩
 item:=by
  intro X hP hw hK hc i aa s σ H E I hf st hg;subst hP hw hK;have nd:=D.nd;simp only[a2j,a1L,a1Z,or_false,not_or,not_false_eq_true,a4v,and_true] at nd;obtain⟨⟨yw,mR,mS,qX,qY⟩,⟨TITO,TIi1,TIi2,De⟩,⟨qZ,q9,um⟩,⟨pA,pB⟩,pC⟩:=nd;obtain⟨h1,h2,⟨u0,v0,t0,h3⟩,h4,h5,h6⟩:=st;obtain⟨xs,ys,zs,x,y,y3,ig,jj,yC,hx,hy,tX⟩:=hg;obtain⟨ad,rv,p,hz⟩:=I.list ig;obtain⟨wO,fJ,p',cU⟩:=I.list jj;obtain⟨XB,XC,p3,XE⟩:=I.list yC;obtain⟨u,hu,ru⟩:=rv.get hx;obtain⟨v,hv,tH⟩:=fJ.get hy;obtain⟨t,ht,XF⟩:=XC.get tX;have e1:=a1N h1
  have Bu:∀e∈[z,TI,TO,i1,i2,i3],∃o,s.heap.get? e=some o:=λe hb=>by
   obtain⟨o4,q4,_⟩:=h4;obtain⟨o5,q5,_⟩:=h5;obtain⟨o6,q6,_⟩:=h6;simp only[a1L,a1Z,or_false] at hb;rcases hb with rfl | rfl | rfl | rfl | rfl | rfl;.show⟨_,h1⟩
   .show⟨_,h2⟩
   .show⟨_,h3⟩
   .show⟨_,q4⟩
   .show⟨_,q5⟩
   .show⟨_,q6⟩
  show Xq D h1 h2 h3 h4 h5 h6 p.isList p'.isList p3.isList (by simpa using hu) (by simpa using hv) (by simpa using ht) λh' g1 g2 g3 g4 XG g5 g6 g7=>⟨_,μ,(wpAny_letOwnedTupleGo_zip g1 λkS g8 g9=>?_)⟩
  have kk:∀e o,e∉[z,TI,TO,i1,i2,i3]->s.heap.get? e=some o->kS.get? e=some o:=λe o hb q=>by
   simp only[a1L,a1Z,or_false,not_or] at hb;show g9.extBut e o hb.1 (g7 e o (by simp only[a1L,a1Z,or_false,not_or];show⟨hb.1,hb.2.2.1,hb.2.2.2.1,hb.2.2.2.2.1,hb.2.2.2.2.2⟩) q)
  have tT:=g9.extBut _ _ (a2K e1) g5;have I1:=I.Bs (t':=s.toks) (o:=.tup [x,y,y3]) kk hf (a1M _) ⟨by change 3<=sizeLine;decide,[u,v,t],.cons ru (.cons tH (.cons XF .nil)),⟨_,tT,μ,_,μ⟩⟩;have hn:=I.am.fresh (a1M _);show⟨.ref s.heap.objs.size,_,I1,μ,⟨_,x,y,y3,μ,hn,λzs dq=>by rw[I.nR dq ig];show hx,λzs dq=>by rw[I.nR dq jj];show hy,λzs dq=>by rw[I.nR dq yC];show tX,μ⟩,⟨g8,?_,⟨u,v,t,?_⟩,?_,?_,?_⟩,λe hb=>?_⟩;.show g9.extBut _ _ (Ne.symm yw) (g7 _ _ (by simp only[a1L,a1Z,or_false,not_or];show⟨Ne.symm yw,TITO,TIi1,TIi2,De⟩) h2)
  .show g9.extBut _ _ (Ne.symm mR) g2
  .show g3.extBut g9.extBut (Ne.symm mS)
  .show g4.extBut g9.extBut (Ne.symm qX)
  .show XG.extBut g9.extBut (Ne.symm qY)
  .obtain⟨f0,_⟩:=hf e hb;obtain⟨o,q⟩:=Bu e hb;rw[j_ (a2e (a1N q))];show f0
 done:=by
  intro X hP hw hK hc i aa s σ H E I hf st hg;subst hP hw hK;obtain⟨h1,h2,⟨u0,v0,t0,h3⟩,h4,h5,h6⟩:=st;obtain⟨xs,ig,hx⟩:=hg;obtain⟨ad,rv,p,hz⟩:=I.list ig;have hl:=rv.length;show Xr (I.ok.hd hc) D h1 h2 h3 h4 p.isList (by simp;lia) λh' eb=>⟨μ,I.Bt (λe o hb q=>eb e o (λz'=>hb ?_) q) hf⟩;simp only[a1L,a1Z,or_false] at z'⊢;rcases z' with r | r | r | r | r <;> simp[r]
 self:=λ_ _ _ _ _ st h=>wpAny_pyIter_zip st.1 h
section
variable{elts:List Expr}{p pos kJ:Pos}
inductive Lk(K:PySem.W.Frag)(R:It->Hp->Prop)(x:V)(y:V)(u:V)(H3:Hp):Prop
 | mk:∀a b c,(x=.ref a)->(y=.ref b)->(u=.ref c)->((∃xs,ae K H3 a xs))->((∃ys,ae K H3 b ys))->((∃zs,ae K H3 c zs))->(R (uo K a b c) H3)->Lk K R x y u H3
def XH(K:PySem.W.Frag)(tl jL yD:TE):TI:=fun σ H R=>tl σ H λx H1=>jL σ H1 λy H2=>yD σ H2 (Lk K R x y)
def XI{x1}(hg:Gl X "zip")(hm:X.mg "zip"=none)(hl:PE X l tl)(bz:PE X l2 jL)(cv:PE X l3 yD)(hs:starEach [l,l2,l3] X.env=[(false,eval l X.env),(false,eval l2 X.env),(false,eval l3 X.env)]:=by rfl)(cr:starEach [l2,l3] X.env=[(false,eval l2 X.env),(false,eval l3 X.env)]:=by rfl) : PI X (.Tuple elts x1 kJ) (.Call (.Name "zip" p) [l,l2,l3] [] pos) (XH X.K tl jL yD):=by
 show λaa s σ H R I h=>Call_<|hU I hg hm boot_zip<|PyProof.Rows.callWith_type1 ?_ (by rw[hs,cr])<|by rw[cr];rfl
 show hs▸?_;show Calls.spliced_cons<|au (hl aa s σ H _ I h) λu s1 ⟨x,H1,I1,r1,q1⟩=>Calls.spliced_cons<|au (bz aa s1 σ H1 _ I1 q1) λu2 s2 ⟨y,H2,I2,r2,q2⟩=>Calls.spliced_cons<|au (cv aa s2 σ H2 _ I2 q2) λu3 s3 ⟨y3,H3,I3,r3,q3⟩=>Calls.spliced_nil ?_;obtain⟨a,b,c,rfl,rfl,rfl,⟨xs,ig⟩,⟨ys,jj⟩,⟨zs,yC⟩,q⟩:=q3;cases r1;cases r2;cases r3;obtain⟨ad,rv,pl,hz⟩:=I3.list ig;obtain⟨wO,tH,oA,cU⟩:=I3.list jj;obtain⟨XB,rv3,Ll,XE⟩:=I3.list yC;have la:a<s3.heap.objs.size:=by obtain⟨_,e,_⟩:=pl.isList;show a1N e
 have lb:b<s3.heap.objs.size:=by obtain⟨_,e,_⟩:=oA.isList;show a1N e
 have lc:c<s3.heap.objs.size:=by obtain⟨_,e,_⟩:=Ll.isList;show a1N e
 show Xy pl.isList oA.isList Ll.isList λh' g1 g2 g3 g4 g5 g6 g7=>?_;have D:=Xx la lb lc;have T:=Xz (P:=X.prog) (w:=X.w) (K:=X.K) (elts:=elts) (x1:=x1) (pos:=kJ) a b c _ _ _ _ _ _ D;show T.self _ 0 _ _ _ ⟨g1,g2,⟨_,_,_,g3⟩,g4,g5,g6⟩ (⟨s3.heap.objs.size+5,_,_,_,H3,μ,I3.kept (t':=s3.toks) g7,T,⟨g1,g2,⟨_,_,_,g3⟩,g4,g5,g6⟩,λe hb=>?_,q⟩)
 have cj:s3.heap.objs.size<=e:=by
  simp only[a1L,a1Z,or_false] at hb;rcases hb with rfl | rfl | rfl | rfl | rfl | rfl;.show a3b _ _
  .show a3b _ _
  .show a3b _ _
  .show a1M _
  .show a3b _ _
  .show a3b _ _
 show I3.nW cj<|I3.am.fresh cj
end
def XJ{K:PySem.W.Frag}{g:TG}{tb:TS}{D:Ends}(Pv:Nat->St->Hp->Prop)(bZ:xs.length=ys.length)(WB:xs.length=zs.length)(h0:Pv 0 σ H)(hl:∀i σ H,i<=xs.length->Pv i σ H->ae K H a xs/\ae K H b ys/\ae K H c zs) (hs:∀i x y u σ H t,xs[i]?=some x->ys[i]?=some y->zs[i]?=some u->Pv i σ H->H t=none->g (.ref t) σ (upd H t (.tup [x,y,u])) λbJ H2=>tb {D with nx:=Pv (i+1),ct:=Pv (i+1),bk:=D.nx} bJ H2) (hd:∀ σ H,Pv xs.length σ H->D.nx σ H) : ∃W:Nat->Nat->St->Hp->Prop,(∃m,W 0 m σ H)/\∀i m σ H,W i m σ H-> ((uo K a b c).stop i H/\D.nx σ H)\/((uo K a b c).go i H/\∃N:St->Hp->Prop,(∀ aJ H',N aJ H'->∃m',m'<m/\W (i+1) m' aJ H')/\∀x H',(uo K a b c).gc i H x H'->g x σ H' λbJ H2=>tb {D with nx:=N,ct:=N,bk:=D.nx} bJ H2):=by
 show⟨λi m σ H=>m=xs.length-i/\i<=xs.length/\Pv i σ H,⟨xs.length,θ,a2u _,h0⟩,?_⟩;rintro i m σ H ⟨rfl,hi,p⟩;obtain⟨q1,q2,q3⟩:=hl i σ H hi p;by_cases aL:i<xs.length
 .have e1:xs[i]?=some xs[i]:=by simp[aL]
  have e2:ys[i]?=some (ys[i]'(by lia)):=by simp
  have e3:zs[i]?=some (zs[i]'(by lia)):=by simp
  show .inr ⟨⟨xs,ys,zs,_,_,_,q1,q2,q3,e1,e2,e3⟩,Pv _,λaJ H' p'=>⟨xs.length-(i+1),Z,μ,aL,p'⟩,λv H' y=>?_⟩;obtain⟨t,x,y,u,rfl,ht,y1,y2,y3,rfl⟩:=y;show hs i x y u σ H t (y1 xs q1) (y2 ys q2) (y3 zs q3) p ht
 .have e:i=xs.length:=by lia
  subst e;show .inl ⟨⟨xs,q1,a1M _⟩,hd σ H p⟩
def XL{K:PySem.W.Frag}{G:V->Hp->(List V->Hp->Prop)->List V->Prop}{Fin:List V->Hp->Prop}(Pv:Nat->List V->Hp->Prop)(bZ:xs.length<=ys.length)(h0:Pv 0 [] H) (hl:∀i zs H,i<=xs.length->Pv i zs H->ae K H a xs/\ae K H b ys) (hz:∀i zs H,i<xs.length->Pv i zs H->zs.length<sizeLine) (hs:∀i x y zs H t,xs[i]?=some x->ys[i]?=some y->Pv i zs H->H t=none->G (.ref t) (upd H t (.tup [x,y])) (Pv (i+1)) zs) (hd:∀zs H,Pv xs.length zs H->Fin zs H) : ∃W:Nat->Nat->List V->Hp->Prop,(∃m,W 0 m [] H)/\∀i m zs H,W i m zs H-> ((my K a b).stop i H/\Fin zs H)\/((my K a b).go i H/\zs.length<sizeLine/\∃Nx:List V->Hp->Prop,(∀cF H',Nx cF H'->∃m',m'<m/\W (i+1) m' cF H')/\∀x H',(my K a b).gc i H x H'->G x H' Nx zs):=by
 show⟨λi m zs H=>m=xs.length-i/\i<=xs.length/\Pv i zs H,⟨xs.length,θ,a2u _,h0⟩,?_⟩;rintro i m zs H ⟨rfl,hi,p⟩;obtain⟨q1,q2⟩:=hl i zs H hi p;by_cases aL:i<xs.length
 .have e1:xs[i]?=some xs[i]:=by simp[aL]
  have e2:ys[i]?=some (ys[i]'(by lia)):=by simp
  show .inr ⟨⟨xs,ys,_,_,q1,q2,e1,e2⟩,hz i zs H aL p,Pv _,λcF H' p'=>⟨xs.length-(i+1),Z,μ,aL,p'⟩,λv H' y=>?_⟩;obtain⟨t,x,y,rfl,ht,y1,y2,rfl⟩:=y;show hs i x y zs H t (y1 xs q1) (y2 ys q2) p ht
 .have e:i=xs.length:=by lia
  subst e;show .inl ⟨⟨xs,ys,q1,q2,.inl<|a1M _⟩,hd zs H p⟩
end L2
namespace Hv
open PySem L2
abbrev wz(ds:List Nat)(ws:List Int):List Int:=List.zipWith (λ(d:Nat) (x:Int)=>(d:Int)*x) ds ws
def XM{i d:Nat}(h1:ds[i]?=some d)(h2:ws[i]?=some x):(wz ds ws)[i]?=some ((d:Int)*x):=by simp[wz,a4D,h1,h2]
def Di{ws:List Int}{i:Nat}(h:(ws.map V.int)[i]?=some x):∃y:Int,ws[i]?=some y/\x=.int y:=by
 rw[a1O] at h
 cases e:ws[i]? with
 | none=>rw[e] at h;cases h
 | some d=>rw[e] at h;show⟨d,μ,(a1Q h).symm⟩
inductive yE(vs:List V)(H:Hp)(Q:VK)(aw:XK):Prop
 | mk:∀(r c:Addr) (ds:List Nat) (ws:List Int),(vs=[.ref r,.ref c])->(H r=some (.lst (az ds)))->(H c=some (.lst (ws.map V.int)))->((∀x∈ws,-9<=x/\x<=9))->(ds.length<=ws.length)->(ws.length<=6)->(∀H',af H H'->Q (.int (wz ds ws).sum) H')->yE vs H Q aw
def XN:aS ["figures","weights"] ["figures","weights"] (h_ tJ):=⟨μ,μ,μ,ξ,μ,ξ,ξ⟩
def XO(F:aM K "weighted_sum" "weighted_sum" tJ f fd)(T:Txt mg):aA P w K mg base aI 1 f fd ["figures","weights"] yE:=by
 show F.ok XN λao A outer s H vs Q E hr h=>?_
 .obtain⟨r,c,ds,ws,rfl,h1,h2,hw,hl,gP,k⟩:=h;have fA:List.Nodup (["figure","weight"]:List Str):=by decide +kernel
  show⟨_,g_<|m_<|p_ (xS μ) η T.sum boot_sum<|a_ (wJ (fr:=[]) (qu (sc:=h_ tJ) (NX:=["figures","weights"]) (k:=2) (fr:=[]) μ μ<|by decide +kernel) (qv (sc:=h_ tJ) (NX:=["figures","weights"]) μ<|by decide +kernel) μ (Je η T.zip (pv 0)<|pv 1) (λcl C s H fp=>wT K μ μ<|r_ (k_ 0 (hN:=fA))<|r_ (k_ 1 (hN:=fA)) fj) By (λcl C s H fp=>fm)<|λcl C s H fp=>n_ Q_ (pv 0)<|pv 1) d_,(⟨_,μ,_,μ,r,c,μ,μ,⟨_,ae.of h1⟩,⟨_,ae.of h2⟩,XL (K:=K) (a:=r) (b:=c) (xs:=az ds) (ys:=ws.map V.int) (λi zs H'=>zs=((wz ds ws).take i).map V.int/\af H H') (by simp[az];lia) ⟨θ,af.refl _⟩ (λi zs H' _ p=>⟨ae.of (p.2 _ _ h1),ae.of (p.2 _ _ h2)⟩) (λi zs H' hi p=>bK (by rw[p.1,a1H,a2d];simp[az] at hi;lia)) ?_ ?_⟩)⟩
  .rintro i x y zs H' t hx hy ⟨rfl,s2⟩ ht;obtain⟨d,hd,rfl⟩:=Dc hx;obtain⟨x,mT,rfl⟩:=Di hy;have hx9:=hw x (a1K mT);show⟨t,_,μ,aB.of c_,μ,_,_,μ,_,_,μ,μ,_,μ,_,μ,_,_,μ,μ,.inr ⟨Z,Z⟩,?_,N_ s2<|s2.free ht⟩;rw[a1P,XM hd mT];simp
  rintro zs H' ⟨rfl,s2⟩ wl cO;have e1:(az ds).length=(wz ds ws).length:=by simp[az,wz];lia
  show e1▸a1T▸?_;show⟨wl,_,μ,ae.of c_,k _<|N_ s2<|s2.free cO⟩
end Hv
namespace Mq
theorem Lm{f:Int->Int}{a k:Int}:∀ {n:Nat},a<=k->k<a+n->sm f a n=sm (λt=>if t=k then 0 else f t) a n+f k
 | 0,h1,h2=>by lia
 | n+1,h1,h2=>by
  simp only[sm];by_cases e:a+ n =k
  .rw[if_pos e,e];have:sm f a n=sm (λt=>if t=k then 0 else f t) a n:=jT λt _ h=>by rw[if_neg (by lia)]
   show this▸?_;lia
  .rw[if_neg e,Lm h1 (by push_cast at h2;lia)];lia
theorem uq{a:Int}{n:Nat}:∀ {ks:List Int} {f:Int->Int},ks.Nodup->(∀k∈ks,a<=k/\k<a+n)->(∀t,t∉ks->f t=0)->(ks.map f).sum=sm f a n
 | [],f,_,_,z=>by
  rw[iQ λt _ _=>z t (by simp)];rfl
 | k::ks,f,nd,h,z=>by
  obtain⟨n1,n2⟩:=a2j.mp nd;rw[Lm (h k θ).1 (h k θ).2]
  have ih:=uq (f:=λt=>if t=k then 0 else f t) n2 (λq hq=>h q (by simp[hq])) (λt ht=>by
   by_cases e:t=k;.rw[if_pos e]
   .rw[if_neg e];show z t (by simp[e,ht]));rw[<-ih,a2f,a2b];have e:ks.map (λt=>if t=k then 0 else f t)=ks.map f:=a2G λt ht=>if_neg (λ z =>n1 (by show z▸?_;show ht));rw[e];lia
end Mq
namespace Me
open Mq
def Ln(b:Nat)(rows:List (List Int))(t:Int):0<=ce b rows t:=KQ _ 1 ζ
theorem Lo{b:Nat}{rows:List (List Int)}:∀ks:List Int,((ks.filter λk=>decide (0<ce b rows k)).map (ce b rows)).sum=(ks.map (ce b rows)).sum
 | []=>rfl
 | k::ks=>by
  have ih:=Lo (b:=b) (rows:=rows) ks;by_cases h:0<ce b rows k;.simp_all
  .have:ce b rows k=0:=by have:=Ln b rows k;lia
   rw[a4q (by simpa using h),a2f,a2b,ih,this];lia
def XQ(b:Nat)(rows:List (List Int))(ks:List Int):cD (dM b rows ks)=(ks.map (ce b rows)).sum:=by
 rw[<-Lo];unfold cD dM;rw[a3i];rfl
theorem Lp{b:Nat}(t:Int):∀(rows:List (List Int)) (c:Int),(pf b rows).foldl (λm f=>m*sm f t 1) c=rows.foldl (λm row=>m*(look (aN b row) t).getD 0) c
 | [],_=>rfl
 | r::rows,c=>by
  have e:sm (fw b r) t 1=(look (aN b r) t).getD 0:=by simp[sm,fw]
  change(pf b _).foldl _ (c*sm _ t 1)=_;rw[Lp t _,a2h,e]
def Lq(hb:1<=b)(hr:row∈rows):∀k∈keys (aN b row),Ma.aK (jU b rows)<=k/\k<=Ma.aP (ph b rows):=λk hk=>by
 have h1:=(Ma.v_ _<|C3 hb row).2 k hk;have h2:=(Ma.w_ _<|C3 hb row).2 k hk;have nl:0<(jU b rows).length:=by rw[jU,a1H];show a3f hr
 have nh:0<(ph b rows).length:=by rw[ph,a1H];show a3f hr
 have h3:=(Ma.v_ _ nl).2 _ (a1U.mpr ⟨row,hr,μ⟩);have h4:=(Ma.w_ _ nh).2 _ (a1U.mpr ⟨row,hr,μ⟩);unfold C1 at h3;unfold C2 at h4;lia
def XR(hb:1<=b)(h0:rows[0]?=some row):ym b rows 0=cD (dM b rows (keys (aN b row))):=by
 have hm:=a1K h0;rw[XQ];have mH:=Lq hb hm;rw[uq (a:=Ma.aK (jU b rows)) (n:=(Ma.aP (ph b rows)-Ma.aK (jU b rows)+1).toNat) (ye b row).nd (λk hk=>by have:=mH k hk;lia) λt ht=>WE h0 ht];apply jT;intro t _ _;unfold cQ;rw[uj (fs:=pf b _) (n:=0) (a1U.mpr ⟨row,hm,μ⟩) μ];have:pr _ t _=ce b _ t:=Lp t rows 1;rw[this];lia
def Lr(ps:List Nat):∀ws:List Int,ws.length=ps.sum->(Ma.ar ps ws).map List.length=ps:=by
 induction ps with
 | nil=>intro ws _;rfl
 | cons p ps ih =>
  intro ws h;rw[a2b] at h;rw[Ma.ar,a2f,ih _ (by rw[a2k];lia),a2d];lia
end Me
namespace Mg
open Me Mq
noncomputable def ns(g:Nat->Int):Nat->Int
 | 0=>0
 | n+1=>ns g n+g n
theorem X_{g h:Nat->Int}:∀ {n:Nat},(∀i,i<n->g i=h i)->ns g n=ns h n
 | 0,_=>rfl
 | n+1,e=>by rw[ns,ns,X_ λi hi=>e i<|by lia,e n (by lia)]
theorem re(g:Nat->Int)(n:Nat):∀m:Nat,ns g (n+m)=ns g n+ns (λi=>g (n+i)) m
 | 0=>by simp[ns]
 | m+1=>by
  rw[<-a3c,ns,ns,re g n m];lia
theorem Ls(g h:Nat->Int):∀n:Nat,ns (λi=>g i+h i) n=ns g n+ns h n
 | 0=>rfl
 | n+1=>by simp only[ns];show (Ls g h n)▸?_;lia
theorem Lu:∀n:Nat,ns (λ_=>0) n=0
 | 0=>rfl
 | n+1=>by rw[ns,Lu n];rfl
theorem ur(g:Nat->Int)(b:Nat):∀a:Nat,ns g (a*b)=ns (λi=>ns (λj=>g (i*b+j)) b) a
 | 0=>by simp[ns]
 | a+1=>by
  rw[Nat.succ_mul,re,ns,ur g b a]
noncomputable def tg(f:List (Int×Int))(G:Int->Int):Int:=(f.map λq=>q.2*G q.1).sum
def gx(p:Int×Int)(f:List (Int×Int))(G:Int->Int):tg (p::f) G=p.2*G p.1+tg f G:=by simp[tg]
theorem Dj{k n:Int}{G:Int->Int}:∀ {f:List (Int×Int)},(keys f).Nodup->tg (d7 f k n) G=tg f G+n*G k
 | [],_=>by simp[d7,put,look,tg]
 | (a,x)::f,nd=>by
  have lx:=(a2j.mp nd).1;have fA:=(a2j.mp nd).2;by_cases e:a=k
  .subst e;rw[yc lx,gx,gx];simp only;rw[a4X];lia
  .rw[yd e,gx,gx,Dj fA];lia
theorem Lv{p:Int×Int}{w:Int}{G:Int->Int}{acc:List (Int×Int)}(nd:(keys acc).Nodup):∀n:Nat,tg (dA p w n acc) G=tg acc G+p.2*ns (λ(d:Nat)=>G (p.1+(d:Int)*w)) n
 | 0=>by simp[ns,dA]
 | n+1=>by
  rw[jP,Dj (ly nd n),Lv nd n,ns,a5p];lia
theorem Lw{b:Nat}{w:Int}{G:Int->Int}:∀(f acc:List (Int×Int)),(keys acc).Nodup->tg (f.foldl (λacc p=>dA p w b acc) acc) G=tg acc G+tg f λx=>ns (λ(d:Nat)=>G (x+(d:Int)*w)) b
 | [],acc,_=>by simp[tg]
 | p::f,acc,nd=>by
  rw[a2h,Lw f _ (ly nd b),Lv nd b,gx];lia
def Lx(f:List (Int×Int)):tg (U_ f b w) G=tg f λx=>ns (λ(d:Nat)=>G (x+(d:Int)*w)) b:=by
 have:=Lw (b:=b) (w:=w) (G:=G) f [] (by simp[keys]);have e:tg [] G=0:=rfl;rw[e,a2N] at this;show this
noncomputable def bt(b d:Nat)(row:List Int):Int:=(Ma.dR b d row.length row).sum
def Dk(b d e L:Nat)(he:e<b):Ma.aO b (d*b+e) (L+1) (L+1)=Ma.aO b d L L++[e]:=by
 rw[Ma.Bv];congr 1
 .apply a2G;intro j hj;have Dl:=a3T.mp hj;have e1:L+1-1-j=(L-1-j)+1:=by lia
  rw[e1,a3Q,<-a2E];have e2:(d*b+e) / b=d:=by rw[a2D d b,a4k Z,a3l he,a3h]
  rw[e2]
 .have e1:L+1-1-L=0:=by lia
  rw[e1,a3u,a4Z,a2D d b,Nat.mul_add_mod,a5g he]
def Dm(b d e:Nat)(row:List Int)(w:Int)(he:e<b):bt b (d*b+e) (row++[w])=bt b d row+e*w:=by
 unfold bt Ma.dR;rw[a2p,a2X,Dk b d e _ he,a4c (by rw[Ma.fL]),a2q];simp
def Dn(b:Nat)(G:Int->Int)(row:List Int):ns (λd=>G (bt b d row)) (b ^ row.length)=tg (aN b row) G:=by
 have aZ:∀ n   row ,row.length=n->∀G:Int->Int,ns (λd=>G<|bt b d row) (b ^ row.length)=tg (aN b row) G:=λn=>by
  induction n with
  | zero =>
   intro row h G;have:=a2y h;subst this;simp[ns,tg,aN,bt,Ma.dR]
  | succ n ih =>
   intro row h G;obtain⟨r,w,rfl⟩:∃r w,row=r++[w]:=by show⟨row.dropLast,row.getLast<|by intro z;rw[z] at h;simp at h,((a3a _).symm)⟩
   have hr:r.length=n:=by simpa using h
   have e1:aN b (r++[w])=U_ (aN b r) b w:=by
    unfold aN;rw[a3r];rfl
   rw[e1,Lx,<-ih r hr,a2p,a2X,a2S,ur];apply X_;intro d _;apply X_;intro e he;rw[Dm b d e r w he]
 show aZ _ row μ G
def Ly(b d m p L:Nat)(hb:0<b)(hm:m<b ^ L):Ma.aO b (d*b ^ L+m) (p+L) (p+L)=Ma.aO b d p p++Ma.aO b m L L:=by
 have gen:∀i,i<=L->Ma.aO b (d*b ^ L+m) (p+L) (p+i)=Ma.aO b d p p++Ma.aO b m L i:=λi=>by
  induction i with
  | zero =>
   intro _;unfold Ma.aO;simp only[a3h,List.range_zero,a4s,a2Y];apply a2G;intro j hj;have Dl:=a3T.mp hj;have e1:p+L-1-j=(p-1-j)+L:=by lia
   rw[e1,a2x,a2D (b ^ (p-1-j)),<-a2E];have e2:(d*b ^ L+m) / b ^ L=d:=by rw[a2D d,a4k (a2J hb),a3l hm,a3h]
   rw[e2]
  | succ i ih =>
   intro hi;rw[<-a3c,Ma.Bv,Ma.Bv,ih Z,a2A];congr 3;have e1:p+L-1-(p+i)=L-1-i:=by lia
   rw[e1]
   have e3:b ^ L=b ^ (L-1-i)*b*b ^ i:=by
    rw[<-a2S,<-a2x];congr 1;lia
   have e4:d*b ^ L+m=b ^ (L-1-i)*(d*b ^ i*b)+m:=by
    rw[e3];congr 1;rw[a2P (b ^ (L-1-i)),<-a2P d,a2D d,a2P (b ^ (L-1-i))];congr 1;rw[a2D b,<-a2P]
   rw[e4,a4k (a2J hb),a4r,Nat.add_mul_mod_self_right]
 show gen L (a1M _)
abbrev bG(b n:Nat)(ps:List Nat)(ws:List Int):List Int:=Ma.jk ps (Ma.dR b n ps.sum ws)
def ut(hb:0<b)(hm:m<b ^ ps.sum)(hw:ws.length=p+ps.sum):bG b (d*b ^ ps.sum+m) (p::ps) ws=bt b d (ws.take p)::bG b m ps (ws.drop p):=by
 have hl:(ws.take p).length=p:=by rw[a2d];lia
 have e:Ma.dR b (d*b ^ ps.sum+m) (p::ps).sum ws=Ma.dR b d p (ws.take p)++Ma.dR b m ps.sum (ws.drop p):=by
  unfold Ma.dR;rw[a2b,Ly b d m p ps.sum hb hm];conv=>lhs;rw[<-a2r p ws]
  rw[a4c (by rw[Ma.fL,hl])]
 change Ma.jk (p::ps) (Ma.dR b (d*b ^ ps.sum+m) (p::ps).sum ws)=_;rw[e];have l1:(Ma.dR b d p (ws.take p)).length=p:=Ma.Jf _ _ _ _ hl;unfold Ma.jk;rw[Ma.ar,a2f];congr 1
 .rw[List.take_left' l1];unfold bt;rw[hl]
 .rw[List.drop_left' l1];rfl
noncomputable def tr(b:Nat):List (List Int)->(List Int->Int)->Int
 | [],F=>F []
 | row::rows,F=>tg (aN b row) λx=>tr b rows λv=>F (x::v)
theorem yF{b:Nat}(hb:0<b):∀(ps:List Nat) (ws:List Int) (F:List Int->Int),ws.length=ps.sum->ns (λn=>F (bG b n ps ws)) (b ^ ps.sum)=tr b (Ma.ar ps ws) F
 | [],ws,F,_=>by
  change ns _ (b ^ 0)=F [];rw[a3u];simp only[ns,a2N];rfl
 | p::ps,ws,F,h=>by
  rw[a2b] at h;have hl:(ws.take p).length=p:=by rw[a2d];lia
  rw[a2b,a2x,ur,Ma.ar,tr,<-Dn,hl];apply X_;intro d _;rw[<-yF hb ps _ _ (by rw[a2k];lia)];apply X_;intro m hm;rw[ut hb hm h]
def F_(h:∀x,G x=H x):tg f G=tg f H:=by
 unfold tg;congr 1;show a2G λp _=>by rw[h]
theorem lA{b:Nat}:∀ {rows:List (List Int)} {F G:List Int->Int},(∀v,v.length=rows.length->F v=G v)->tr b rows F=tr b rows G
 | [],_,_,h=>h [] μ
 | _::rows,_,_,h=>F_ λx=>lA λv hv=>h _<|by simp[hv]
def rf(c:Int)(f:List (Int×Int))(G:Int->Int):tg f (λx=>c*G x)=c*tg f G:=by
 induction f with
 | nil=>simp[tg]
 | cons p f ih=>rw[gx,gx,ih,a5p,<-a4f,<-a4f,a4z p.2 c]
def Lz(f:List (Int×Int))(G H:Int->Int):tg f (λx=>G x-H x)=tg f G-tg f H:=by
 induction f with
 | nil=>simp[tg]
 | cons p f ih=>rw[gx,gx,gx,ih,Int.mul_sub];lia
def yG(f:List (Int×Int))(G H:Int->Int):tg f (λx=>G x+H x)=tg f G+tg f H:=by
 induction f with
 | nil=>simp[tg]
 | cons p f ih=>rw[gx,gx,gx,ih,a5p];lia
theorem Do{b:Nat}(c:Int):∀(rows:List (List Int)) (F:List Int->Int),tr b rows (λv=>c*F v)=c*tr b rows F
 | [],_=>rfl
 | row::rows,F=>by
  change tg _ _=c*tg _ _;rw[<-rf];show F_ λx=>Do c _ _
theorem LA{b:Nat}:∀(rows:List (List Int)) (F G:List Int->Int),tr b rows (λv=>F v-G v)=tr b rows F-tr b rows G
 | [],_,_=>rfl
 | row::rows,F,G=>by
  change tg _ _=tg _ _-tg _ _;rw[<-Lz];show F_ λx=>LA _ _ _
theorem LB{b:Nat}:∀(rows:List (List Int)) (F G:List Int->Int),tr b rows (λv=>F v+G v)=tr b rows F+tr b rows G
 | [],_,_=>rfl
 | row::rows,F,G=>by
  change tg _ _=tg _ _+tg _ _;rw[<-yG];show F_ λx=>LB _ _ _
def yH(rows:List (List Int)):tr b rows (λ_=>0)=0:=by
 have:=Do (b:=b) 0 rows λ_=>0;simp only[a4x] at this;show this
theorem LC{b:Nat}(rows:List (List Int))(F:Int->List Int->Int)(a:Int):∀n:Nat,tr b rows (λv=>sm (λt=>F t v) a n)=sm (λt=>tr b rows (F t)) a n
 | 0=>yH _
 | n+1=>by
  simp only[sm];rw[LB,LC _ F a n]
noncomputable def fp(h:Int->Int)(v:List Int):Int:=v.foldl (λm x=>m*h x) 1
theorem uu(h:Int->Int):∀(v:List Int) (c:Int),v.foldl (λm x=>m*h x) c=c*v.foldl (λm x=>m*h x) 1
 | [],c=>by simp
 | x::v,c=>by
  rw[a2h,a2h,uu h v _,uu h v (1*h x),a3Y,a4f]
theorem LD{b:Nat}(h:Int->Int):∀rows:List (List Int),tr b rows (fp h)=rows.foldl (λm row=>m*tg (aN b row) h) 1
 | []=>rfl
 | row::rows=>by
  have e:∀(rs:List _)  c ,rs.foldl _ c=c*rs.foldl (λm row=>m*tg (aN b row) h) 1:=λrs=>by
   induction rs with
   | nil=>intro c;simp
   | cons r rs ih=>intro c;rw[a2h,a2h,ih _,ih (1*_),a3Y,a4f]
  rw[a2h,e _,a3Y,<-LD h _];change tg _ _=_
  have e2:∀x,tr b _ (λv=>fp h _)=tr b rows (fp h)*h x:=λx=>by
   rw[a4z,<-Do]
   show lA λv _=>by
    unfold fp;rw[a2h,uu,a3Y]
  rw[F_ e2,rf,a4z]
noncomputable def iv(a:Int)(n:Nat)(x:Int):Int:=if a<=x/\x<a+n then 1 else 0
theorem yI(x a:Int):∀n:Nat,sm (λt=>if x=t then 1 else 0) a n=iv a n x
 | 0=>by
  unfold iv;rw[if_neg (by lia)];rfl
 | n+1=>by
  simp only[sm];rw[yI x a n];unfold iv;by_cases h1:a<=x/\x<a+n
  .rw[if_pos h1,if_neg Z,if_pos (by push_cast;lia)];rfl
  .by_cases h2:x=a+n
   .rw[if_neg h1,if_pos h2,if_pos (by push_cast;lia)];rfl
   .rw[if_neg h1,if_neg h2,if_neg (by push_cast;lia)];rfl
theorem uv{t:Int}:∀ {f:List (Int×Int)},(keys f).Nodup->tg f (λx=>if x=t then 1 else 0)=gv f t
 | [],_=>rfl
 | (a,x)::f,nd=>by
  have lx:=(a2j.mp nd).1;have fA:=(a2j.mp nd).2;rw[gx,uv fA];unfold gv;by_cases e:a=t
  .subst e;rw[qS,yj lx,if_pos μ];simp
  .rw[qT e,if_neg e];simp
theorem Dp(f:List (Int×Int))(F:Int->Int->Int)(a:Int):∀n:Nat,tg f (λx=>sm (λt=>F t x) a n)=sm (λt=>tg f (F t)) a n
 | 0=>by
  have:=rf 0 f λ_=>0;simp only[a4x] at this;show this
 | n+1=>by
  simp only[sm];rw[yG,Dp f F a n]
def XS(row:List Int)(a:Int)(n:Nat):tg (aN b row) (iv a n)=sm (fw b row) a n:=by
 have e:=λx=>(yI x a n).symm;rw[F_ e,Dp _ _];apply jT;show λt _ _=>uv (ye b row).nd
def LE(rows:List (List Int))(a:Int)(n:Nat):tr b rows (fp (iv a n))=pr (pf b rows) a n:=by
 rw[LD];unfold pr pf;rw[List.foldl_map];congr 1;funext m row;rw[XS]
def LF(h:∀x∈keys f,G x=H x):tg f G=tg f H:=by
 unfold tg;congr 1;show a2G λp hp=>by rw[h p.1 (a1U.mpr ⟨p,hp,μ⟩)]
theorem LG{b:Nat}{lo hi:Int}:∀ {rows:List (List Int)} {F G:List Int->Int},(∀row∈rows,∀k∈keys (aN b row),lo<=k/\k<=hi)->(∀v,v.length=rows.length->(∀x∈v,lo<=x/\x<=hi)->F v=G v)->tr b rows F=tr b rows G
 | [],_,_,_,h=>h [] μ λ_ z=>by simp at z
 | row::rows,_,_,hk,h=>LF λx hx=>LG (λr hr=>hk r<|by simp[hr]) λv hv hb=>h _ (by simp[hv]) λy hy=>by
   rcases a1L.mp hy with rfl | hy;.show hk row θ _ hx
   .show hb y hy
theorem LJ(q:Int->Prop)[DecidablePred q]:∀v:List Int,fp (λx=>if q x then 1 else 0) v=if ∀x∈v,q x then 1 else 0
 | []=>by simp[fp]
 | x::v=>by
  have e:fp (λx=>if q x then 1 else 0) (x::v)=(if q x then 1 else 0)*fp (λx=>if q x then 1 else 0) v:=by
   unfold fp;rw[a2h,uu,a3Y]
  rw[e,LJ q v];by_cases h1:q x;.simp_all
  .simp_all
noncomputable def fN(v:List Int):Int:=Ma.aP v-Ma.aK v
def LK(hv:0<v.length){a:Int}{n:Nat}:(∀x∈v,a<=x/\x<a+n)↔a<=Ma.aK v/\Ma.aP v<a+n:=by
 obtain⟨m1,m2⟩:=Ma.v_ v hv;obtain⟨m3,m4⟩:=Ma.w_ v hv;constructor;.simp_all
 .rintro⟨h1,h2⟩ x hx;have:=m2 x hx;have:=m4 x hx;lia
def LL(hv:0<v.length)(a:Int)(n:Nat):fp (iv a n) v=if a<=Ma.aK v/\Ma.aP v<a+n then 1 else 0:=by
 have:=LJ (λx=>a<=x/\x<a+n) v;have e:iv a n=λx=>if a<=x/\x<a+ n  then 1 else 0:=rfl;rw[e,this];by_cases h:∀x∈v,a<=x/\x<a+n;.rw[if_pos h,if_pos ((LK hv).mp h)]
 .rw[if_neg h,if_neg λz=>h<|(LK hv).mpr z]
def LM(hv:0<v.length){d:Nat}{N:Nat}(h1:A<=Ma.aK v)(h2:Ma.aK v<A+N):(if fN v<=d then 1 else 0)=sm (λa=>fp (iv a (d+1)) v-fp (iv (a+1) d) v) A N:=by
 have e:sm (λa=>fp (iv a (d+1)) v-fp (iv (a+1) d) v) A N=sm (λa=>if Ma.aK v=a then (if fN v<=d then 1 else 0) else 0) A N:=by
  apply jT;intro a _ _;rw[LL hv,LL hv];unfold fN;obtain⟨m1,m2⟩:=Ma.v_ v hv;obtain⟨m3,m4⟩:=Ma.w_ v hv;push_cast;by_cases q1:Ma.aK v=a;.grind
  .rw[if_neg q1];by_cases q2:a<=Ma.aK v/\Ma.aP v<a+(d+1);.lia
   .rw[if_neg q2,if_neg (by lia)];rfl
 rw[e];by_cases q:fN v<=d
 .rw[if_pos q,yI];unfold iv;rw[if_pos ⟨h1,h2⟩]
 .rw[if_neg q];show(iQ λt _ _=>?_).symm;split <;> rfl
def XT(hb:0<b)(hw:ws.length=ps.sum)(hp:0<ps.length)(d:Nat):ns (λn=>if fN (bG b n ps ws)<=d then 1 else 0) (b ^ ps.sum)=ym b (Ma.ar ps ws) d:=by
 rw[yF hb ps ws (λv=>if fN v<=d then 1 else 0) hw];have ba:0<(Ma.ar ps ws).length:=by rw[Ma.D_];show hp
 rw[LG (λrow hr k hk=>Lq hb hr k hk) λv hv hx=>?_]
 .rw[LC _ λa v=>fp (iv a _) v-fp (iv (a+1) d) v];apply jT;intro a _ _;rw[LA,LE,LE];rfl
 .have lB:0<v.length:=by lia
  have m1:=hx _ (Ma.v_ v lB).1;show LM lB (by lia)<|by lia
def LN(f:List (Int×Int))(c:Int):tg f (λ_=>c)=cD f*c:=by
 induction f with
 | nil=>simp[tg,cD]
 | cons p f ih =>
  rw[gx,ih];simp only[cD,a2f,a2b];rw[a4X]
noncomputable def cd(w:Nat->Bool)(k:Nat->Int):Nat->List (Int×Int)
 | 0=>[]
 | n+1=>if w n=true then d7 (cd w k n) (k n) 1 else cd w k n
structure Pos(f:List (Int×Int)):Prop where
 nd:(keys f).Nodup
 ps:∀p∈f,1<=p.2
end Mg
namespace Mu
open Me Mg
abbrev yJ:=List (Int×Int×Int)
abbrev a1v(h:yJ):List Int:=h.map (·.1)
noncomputable def XU(h:yJ)(k:Int):Option (Int×Int):=(h.find? λq=>decide (q.1=k)).map (·.2)
abbrev gT(h:yJ)(k:Int):Int×Int:=(XU h k).getD (0,0)
noncomputable def TT(h:yJ)(A B:Int->Int):Int:=(h.map λq=>q.2.1*A q.1+q.2.2*B q.1).sum
theorem Dq{g:Nat->Int}:∀ {n:Nat},(∀i,i<n->0<=g i)->0<=ns g n
 | 0,_=>a2U _
 | n+1,h=>by
  rw[ns];have:=Dq (n:=n) λi hi=>h i<|by lia
  have:=h n Z;lia
theorem Dr{g h:Nat->Int}:∀ {n:Nat},(∀i,i<n->g i<=h i)->ns g n<=ns h n
 | 0,_=>a2U _
 | n+1,e=>by
  rw[ns,ns];have:=Dr (n:=n) λi hi=>e i<|by lia
  have:=e n Z;lia
theorem yK(x:Int):∀n:Nat,ns (λ_=>x) n=n*x
 | 0=>by simp[ns]
 | n+1=>by rw[ns,yK x n];push_cast;rw[a4X];lia
def LO(hb:0<b)(hi:i<b ^ r2.length):bt b (d*b ^ r2.length+i) (r1++r2)=bt b d r1+bt b i r2:=by
 unfold bt Ma.dR;rw[a2p,Ly b d i _ _ hb hi,a4c (by rw[Ma.fL]),a2q]
end Mu
namespace Hv
open PySem L2
def XV(hj:j<=ws.length):(wz (Ma.aO b q j j) ws).sum=Mg.bt b q (ws.take j):=by
 unfold Mg.bt Ma.dR;rw[a2d,a3s hj];have e:=(a2r j ws).symm;conv=>lhs;rw[e]
 unfold wz;rw[<-a2Y (Ma.aO b q j j),a4c (by rw[Ma.fL,a2d,a3s hj])];simp
def LP(qx:0<b)(hb:b<=16)(hw:∀x∈r,-9<=x/\x<=9) : -(135*(r.length:Int))<=Mg.bt b q r/\Mg.bt b q r<=135*(r.length:Int):=by
 have gen:∀l:List Int,(∀y∈l,-135<=y/\y<=135)->-(135*(l.length))<=l.sum/\l.sum<=135*(l.length):=λl=>by
  induction l with
  | nil=>intro _;simp
  | cons a t ih =>
   intro h;have h1:=h a θ;have h2:=ih λy hy=>h y<|by simp[hy]
   simp only[a2b,a2s];push_cast;lia
 have g:=gen (Ma.dR b q _ r) λy hy=>by
  unfold Ma.dR at hy;obtain⟨i,hi⟩:=a2H hy;rw[a4D] at hi
  cases e1:(Ma.aO b q _ r.length)[i]? with
  | none=>rw[e1] at hi;simp at hi
  | some d =>
   cases e2:r[i]? with
   | none=>rw[e1,e2] at hi;simp at hi
   | some x =>
    rw[e1,e2] at hi;have dq:y= d *x:=by simpa using hi.symm
    have hd:=Ma.Jg qx (a1K e1);have hx:=hw x (a1K e2);have:=Me.xQ (m:=0) (x:=0) ⟨ζ,ζ⟩ hx hb hd;rw[dq];lia
 rw[Ma.Jf _ _ _ _ μ] at g;show g
def mU(H:Hp)(b j q:Nat)(rs:List Addr):Prop:=∀k a,rs[k]?=some a->H a=some (.lst (az (Ma.aO b (q+k) j j)))/\q+k<b ^ j
def mU.keep(h:mU H b j q rs)(s:af H H'):mU H' b j q rs:=λk a e=>⟨s _ _ (h k a e).1,(h k a e).2⟩
end Hv
namespace Mu
open Me Mg
def XW(g:Nat->Int)(hr:(n=1)\/(Ds=0/\n2=st)):ns (λi=>ns (λj=>g ((lo+i)*st+(Ds+j))) n2) n=ns (λi=>g (lo*st+Ds+i)) (n*n2):=by
 rcases hr with rfl | ⟨rfl,rfl⟩
 .rw[a3J];simp only[ns,a2N,a3h];show X_ λj _=>by rw[a3c]
 .rw[ur];show X_ λi _=>X_ λj _=>?_;rw[a3I,a2F,a3h,a3c]
def XX{b x m t:Nat}(ht:t<m):x % b ^ m / b ^ (m-1-t) % b=x / b ^ (m-1-t) % b:=by
 have e:b ^ m=b ^ (m-1-t)*(b*b ^ t):=by
  rw[<-a3Q,<-a2x];congr 1;lia
 rw[e,Nat.mod_mul_right_div_self,Nat.mod_mul_right_mod]
def Dt(h:i<L):(Ma.aO b n L L)[i]?=some (n / b ^ (L-1-i) % b):=by
 unfold Ma.aO;rw[a1O,a4O h];rfl
def Du(h:o+l<=pl):((Ma.aO b a pl pl).drop o).take l=Ma.aO b (a / b ^ (pl-o-l) % b ^ l) l l:=by
 apply a4t;intro t;by_cases ht:t<l
 .rw[List.getElem?_take_of_lt ht,a4m,Dt Z,Dt ht,XX ht,a2E,<-a2x];have:pl-1-(o+t)=pl-o-l+(l-1-t):=by lia
  rw[this]
 .rw[a3B (by rw[a2d,a2k,Ma.fL];lia),a3B (by rw[Ma.fL];lia)]
def XY(h:o<=pl)(h2:pl<=o+l):((Ma.aO b a pl pl).drop o).take l=Ma.aO b (a % b ^ (pl-o)) (pl-o) (pl-o):=by
 have e:((Ma.aO b a pl pl).drop o).take l=((Ma.aO b a pl pl).drop o).take (pl-o):=by rw[a2t (by rw[a2k,Ma.fL];lia),a2t (by rw[a2k,Ma.fL];lia)]
 rw[e,Du (by lia)];have:pl-o-(pl-o)=0:=by lia
 rw[this,a3u,a4Z]
def XZ(h:pl<=o):((Ma.aO b a pl pl).drop o).take l=[]:=by
 rw[a3v (by rw[Ma.fL];show h)];simp
noncomputable def pj(pl o l:Nat):Nat:=if o+l<=pl then l else if o<=pl then pl-o+1 else 0
noncomputable def pq(b a pl o l:Nat):Nat:=if o+l<=pl then a / b ^ (pl-o-l) % b ^ l else if o<=pl then a % b ^ (pl-o)*b else 0
noncomputable def pn(pl e o l:Nat):Nat:=if o+l<=pl then 1 else if o<=pl then e else 1
def X0:pj pl o l<=l:=by
 unfold pj;split;.show a1M _
 .split <;> lia
end Mu
namespace Hv
open PySem L2
def pF(H:Hp)(p:Addr)(b a pl e:Nat)(ps:List Nat)(bs:List Addr):Prop:=∀i l r,ps[i]?=some l->bs[i]?=some r->r≠p/\∃rs,H r=some (.lst (rs.map V.ref))/\rs.length=Mu.pn pl e (ps.take i).sum l/\(∀x∈rs,x≠p)/\mU H b (Mu.pj pl (ps.take i).sum l) (Mu.pq b a pl (ps.take i).sum l) rs
def pF.up(h:pF H p b a pl e ps bs)(k:∀x o,H x=some o->x≠p->H' x=some o):pF H' p b a pl e ps bs:=λi l r h1 h2=>by
 obtain⟨n1,rs,g1,g2,g3,g4⟩:=h i l r h1 h2;show⟨n1,rs,k _ _ g1 n1,g2,g3,λm x e=>⟨k _ _ (g4 m x e).1<|g3 x<|a1K e,(g4 m x e).2⟩⟩
inductive yL(vs:List V)(H:Hp)(Q:VK)(aw:XK):Prop
 | mk:∀f A c b ps ws,∀(hd:Addr) (a pl e:Nat),(vs=[.ref f,.ref hd,.int e])->(aU H f A c b ps ws)->(H hd=some (.lst (az (Ma.aO b a pl pl))))->(e<=b)->(pl<=24)->(∀(p:Addr) (bs:List Addr) (H':Hp),H p=none->af H H'->H' p=some (.lst (bs.map V.ref))->bs.length=ps.length->pF H' p b a pl e ps bs->Q (.ref p) H')->yL vs H Q aw
def LQ:aS ["frame","head","end","beginnings","start","length","given"] ["frame","head","end"] (h_ xg):=⟨μ,μ,μ,ξ,μ,ξ,ξ⟩
def X1(F:aM K "part_beginnings" "part_beginnings" xg f fd)(T:Txt mg):aA P w K mg base aI 1 f fd ["frame","head","end"] yL:=by
 show F.ok LQ λao A outer s H vs Q E hr h=>?_
 .obtain⟨g,A',c,b,ps,ws,hd,a,pl,e,rfl,G,rh,heb,cu,k⟩:=h;have nd:=LQ.nd;have ok:=G.ok;have l4:=ok.l4;have b2:=ok.b2;show⟨_,b_ (i_ 3 (x_ d_)) (b_ (i_ 4 e_) (b_ (B_ PassesOwn.never μ (I_ (aW (pv 0) e_)) (k_ 5) (b_ (i_ 6 (jH kN (pv 1) (gH (pv 4)) (gH (n_ u_ (pv 4) (pv 5))))) (b_ (E_ (AQ jG kH (pv 4) (dw T.len η (pv 1)) (n_ u_ (pv 4) (pv 5))) (g_ (G_ (fk PySem.F.plainAttrs_list PySem.F.slot_list_append PySem.F.type_list_append K_ (pv 3) (a_ (jg (h_ xg) ["frame","head","end","beginnings","start","length","given"] ["given"] [6] μ (z_ η T.range (a_ (pv 2) d_)) (λcl C s H fp=>fm) (λcl C s H fp=>n_ mt (pv 1) (x_ (a_ (pv 0) d_))) ξ) d_)))) (g_ (G_ (fk PySem.F.plainAttrs_list PySem.F.slot_list_append PySem.F.type_list_append K_ (pv 3) (a_ (x_ (a_ (pv 6) d_)) d_))))) (g_ (i_ 4 (n_ u_ (pv 4) (pv 5))))))) (g_ (m_ (pv 3))))),⟨sz ζ,λp hp=>?_⟩⟩;have s1:af H (upd H p (.lst [])):=f_ hp;have G1:=G.keep s1;show⟨_,μ,_,_,_,_,μ,μ,aB.of G1.tp,μ,A',μ,⟨_,ae.of G1.hp⟩,Y_ (K:=K) (a:=A') (xs:=az ps) (λi σ H2=>∃(bs:List Addr) (v5 v6:Option V),σ=[some (.ref g),some (.ref hd),some (.int e),some (.ref p),some (.int (((ps.take i).sum:Nat):Int)),v5,v6]/\af H H2/\H2 p=some (.lst (bs.map V.ref))/\bs.length=i/\pF H2 p b a pl e ps bs) ⟨[],none,none,μ,s1,c_,μ,λi l r _ h=>by simp at h⟩ (λi σ H2 _ h=>by obtain⟨_,_,_,_,s2,_⟩:=h;show ae.of (s2 _ _ G.hp)) ?_ ?_⟩
  .rintro i x σ H2 hx ⟨bs,v5,v6,rfl,s2,cG,bz,B2⟩;obtain⟨l,hl,rfl⟩:=Dc hx;have hi4:i<4:=by have:=(a1I.mp hl).1;lia
   generalize eo:(ps.take i).sum=o;have es:(ps.take (i+1)).sum=o+l:=by rw[a1P,hl,a2q,eo];simp
   have eg:dc (az (Ma.aO b a pl pl)) (some ((o:Nat):Int)) (some (((o:Nat):Int)+((l:Nat):Int)))=az (((Ma.aO b a pl pl).drop o).take l):=by
    rw[xV];simp[az,a5b,a4H]
   show⟨_,μ,_,μ,_,μ,_,μ,_,μ,_,_,μ,μ,_,μ,hd,_,μ,ae.of (s2 _ _ rh),λq hq=>?_⟩;have eg':dc (az (Ma.aO b a pl pl)) (some ((o:Nat):Int)) (some ((λi j=>i+j) ((o:Nat):Int) ((l:Nat):Int)))=az (((Ma.aO b a pl pl).drop o).take l):=eg;have s3:=f_ (o:=.lst (az (((Ma.aO b a pl pl).drop o).take l))) hq;have u3:(upd H2 q (.lst (az (((Ma.aO b a pl pl).drop o).take l)))) q=_:=c_;have X3:p≠q:=l_ cG hq;rw[show(upd H2 q (.lst (dc (az (Ma.aO b a pl pl)) (some ((o:Nat):Int)) (some (((o:Nat):Int)+((l:Nat):Int))))))=upd H2 q (.lst (az (((Ma.aO b a pl pl).drop o).take l))) from by rw[eg]];generalize upd H2 q (.lst (az (((Ma.aO b a pl pl).drop o).take l)))=H3 at s3 u3⊢;have p3:=s3 _ _ cG
   have LR:∀(r:Addr) (rs:List Addr) (H4:Hp),af H3 H4->H4 r=some (.lst (rs.map V.ref))->r≠p->rs.length=Mu.pn pl e o l->(∀x∈rs,x≠p)->mU H4 b (Mu.pj pl o l) (Mu.pq b a pl o l) rs->
     af H (upd H4 p (.lst (bs.map V.ref++[V.ref r])))/\(upd H4 p (.lst (bs.map V.ref++[V.ref r]))) p=some (.lst ((bs++[r]).map V.ref))/\(bs++[r]).length=i+1/\pF (upd H4 p (.lst (bs.map V.ref++[V.ref r]))) p b a pl e ps (bs++[r]):=λr rs H4 s4 yu nr hn ba RD=>by
    show⟨N_ ((s2.trans s3).trans s4) hp,by rw[c_,a2i];rfl,by simp[bz],λm l' r' h1 h2=>?_⟩;have Dv:∀x ob,H4 x=some ob->x≠p->(upd H4 p (.lst (bs.map V.ref++[V.ref r]))) x=some ob:=λx ob e n=>by rw[j_ n];show e
    by_cases hm:m<bs.length
    .rw[a1R hm] at h2;show pF.up B2 (λx ob e n=>Dv x ob ((s3.trans s4) _ _ e) n) m l' r' h1 h2
    .have jR:m=bs.length:=by
      have:=(a1I.mp h2).1;simp at this;lia
     have X4:m=i:=by lia
     subst X4;rw[a1V Z,jR,a3n] at h2;have er:r=r':=by simpa using h2
     subst er;rw[hl] at h1;have el:l=l':=a1Q h1;subst el;rw[eo];show⟨nr,rs,Dv _ _ yu nr,hn,ba,λt x e=>⟨Dv _ _ (RD t x e).1 (ba x (a1K e)),(RD t x e).2⟩⟩
   have one:∀H4,af H3 H4->((Ma.aO b a pl pl).drop o).take l=Ma.aO b (Mu.pq b a pl o l) (Mu.pj pl o l) (Mu.pj pl o l)->Mu.pq b a pl o l<b ^ Mu.pj pl o l->mU H4 b (Mu.pj pl o l) (Mu.pq b a pl o l) [q]:=λH4 s4 e1 e2 t x e=>by
    have ht:t=0:=by have:=(a1I.mp e).1;simp at this;show this
    subst ht;have ex:q=x:=by simpa using e
    subst ex;rw[a3h,<-e1];show⟨s4 _ _ u3,e2⟩
   have X5:(((az (Ma.aO b a pl pl)).length:Nat):Int)=(pl:Int):=by rw[az,a1H,Ma.fL]
   show⟨_,μ,_,μ,hd,_,μ,.inl (ae.of (s3 _ _ (s2 _ _ rh))),_,_,μ,μ,_,μ,?_⟩;show X5▸?_;have b0:0<b:=by lia
   have LS:∀(_:((Ma.aO b a pl pl).drop o).take l=Ma.aO b (Mu.pq b a pl o l) (Mu.pj pl o l) (Mu.pj pl o l)) (_:Mu.pq b a pl o l<b ^ Mu.pj pl o l) (_:1=Mu.pn pl e o l) (d:Addr) (eD:H3 d=none),_:=λe1 e2 e3 d eD=>LR d [q] _ (f_ (o:=.lst [.ref q]) eD) c_ (Ne.symm (l_ p3 eD)) e3 (λx hx=>(show x=q by simpa using hx)▸Ne.symm X3) (one _ (f_ eD) e1 e2);by_cases hA:o+l<=pl
   .have j1:Mu.pj pl o l=l:=by unfold Mu.pj;rw[if_pos hA]
    have j2:Mu.pq b a pl o l=a / b ^ (pl-o-l) % b ^ l:=by unfold Mu.pq;rw[if_pos hA]
    have j3:Mu.pn pl e o l=1:=by unfold Mu.pn;rw[if_pos hA]
    rw[decide_eq_true (show((o:Nat):Int)<=(pl:Int) by lia)];show bI ⟨_,μ,_,μ,_,_,μ,μ,_,_,μ,μ,_,μ,?_⟩;rw[decide_eq_false (show ¬ (pl:Int)<(o:Int)+(l:Int) by lia)];show aG ⟨_,μ,.inl ⟨μ,_,ae.of p3⟩,_,μ,sz θ,λd eD=>?_⟩;obtain⟨c1,c2,c3,c4⟩:=LS (by rw[j1,j2];show Mu.Du hA) (by rw[j1,j2];show a3N _ (a2J b0)) j3.symm d eD;show⟨p,_,_,μ,μ,(f_ eD) _ _ p3,bK (by rw[a1H];lia),⟨_,μ,_,μ,_,_,μ,μ,bs++[d],some (.int (l:Int)),some (.ref q),?_,c1,c2,c3,c4⟩⟩;rw[es];push_cast;rfl
   by_cases hC:pl<o
   .have j1:Mu.pj pl o l=0:=by unfold Mu.pj;rw[if_neg hA,if_neg (by lia)]
    have j2:Mu.pq b a pl o l=0:=by unfold Mu.pq;rw[if_neg hA,if_neg (by lia)]
    have j3:Mu.pn pl e o l=1:=by unfold Mu.pn;rw[if_neg hA,if_neg (by lia)]
    rw[decide_eq_false (show ¬ ((o:Nat):Int)<=(pl:Int) by lia)];show aG ⟨_,μ,aG ⟨_,μ,.inl ⟨μ,_,ae.of p3⟩,_,μ,sz θ,λd eD=>?_⟩⟩;obtain⟨c1,c2,c3,c4⟩:=LS (by rw[j1,j2];show Mu.XZ Z) (by rw[j1,j2];show a2J b0) j3.symm d eD;show⟨p,_,_,μ,μ,(f_ eD) _ _ p3,bK (by rw[a1H];lia),⟨_,μ,_,μ,_,_,μ,μ,bs++[d],some (.int (l:Int)),some (.ref q),?_,c1,c2,c3,c4⟩⟩;rw[es];push_cast;rfl
   .have j1:Mu.pj pl o l=pl-o+1:=by unfold Mu.pj;rw[if_neg hA,if_pos (by lia)]
    have j2:Mu.pq b a pl o l=a % b ^ (pl-o)*b:=by unfold Mu.pq;rw[if_neg hA,if_pos (by lia)]
    have j3:Mu.pn pl e o l=e:=by unfold Mu.pn;rw[if_neg hA,if_pos (by lia)]
    rw[decide_eq_true (show((o:Nat):Int)<=(pl:Int) by lia)];show bI ⟨_,μ,_,μ,_,_,μ,μ,_,_,μ,μ,_,μ,?_⟩;rw[decide_eq_true (show(pl:Int)<(o:Int)+(l:Int) by lia)];have LT:=Mu.XY (b:=b) (a:=a) (pl:=pl) (o:=o) (l:=l) Z Z;have b8:=ok.b8;show bI ⟨_,μ,.inl ⟨μ,_,ae.of p3⟩,_,μ,_,μ,Z,Z,wL (lo:=0) (n:=(e:Int).toNat) (λm ys H4=>∃rs:List Addr,ys=rs.map V.ref/\rs.length=m/\(∀x∈rs,x≠p)/\af H3 H4/\mU H4 b (pl-o+1) (a % b ^ (pl-o)*b) rs) ⟨[],μ,μ,λx hx=>by simp at hx,af.refl _,λt x h=>by simp at h⟩ ?_ ?_⟩
    .rintro m ys H4 hm ⟨rs,rfl,cW,ba,s4,RD⟩;have hme:m<e:=by lia
     show⟨bK (by rw[a1H];lia),_,μ,_,μ,sz θ,λt ht=>?_⟩;have Dw:af H4 _:=f_ (o:=.lst [.int (0+(m:Int))]) ht;have s5:=s4.trans Dw;have u5:(upd H4 t (.lst [.int (0+(m:Int))])) t=_:=c_;generalize upd H4 t (.lst [.int (0+(m:Int))])=H5 at Dw s5 u5⊢;show⟨q,t,_,_,μ,μ,s5 _ _ u3,u5,sz (by rw[LT,az,a1H,Ma.fL];simp;lia),λr cf=>?_⟩;have s6:=f_ (o:=.lst (az (((Ma.aO b a pl pl).drop o).take l)++[.int (0+(m:Int))])) cf;have u6:(upd H5 r (.lst (az (((Ma.aO b a pl pl).drop o).take l)++[.int (0+(m:Int))]))) r=_:=c_;have LU:af H4 (upd H5 r (.lst (az (((Ma.aO b a pl pl).drop o).take l)++[.int (0+(m:Int))]))):=Dw.trans s6;show⟨rs++[r],by rw[a2i];rfl,by simp[cW],λx hx=>?_,s4.trans LU,λt' x h=>?_⟩
     .rcases a2l.mp hx with hx | hx;.show ba x hx
      .have:x=r:=by simpa using hx
       rw[this];show Ne.symm (l_ (s5 _ _ p3) cf)
     .by_cases js:t'<rs.length
      .rw[a1R js] at h;show RD.keep LU t' x h
      .have e1:t'=m:=by
        have:=(a1I.mp h).1;simp at this;lia
       subst e1;rw[a1V Z,cW,a3n] at h;have e2:r=x:=by simpa using h
       subst e2;have X6:t'<b:=by lia
       show⟨?_,?_⟩
       .rw[u6,LT,Mg.Dk b _ t' (pl-o) X6];simp[az]
       .rw[a2S];have h1:a % b ^ (pl-o)<b ^ (pl-o):=a3N _ (a2J b0);have h2:(a % b ^ (pl-o)+1)*b<=b ^ (pl-o)*b:=a2z b h1;rw[a2F] at h2;lia
    .rintro ys H4 ⟨rs,rfl,cW,ba,s4,RD⟩ D hD;have s5:=s4.trans (f_ (o:=.lst (rs.map V.ref)) hD);obtain⟨c1,c2,c3,c4⟩:=LR D rs _ s5 c_ (Ne.symm (l_ (s4 _ _ p3) hD)) (by rw[j3,cW];lia) ba (by rw[j1,j2];show RD.keep (f_ hD));show⟨p,_,_,μ,μ,s5 _ _ p3,bK (by rw[a1H];lia),⟨_,μ,_,μ,_,_,μ,μ,bs++[D],some (.int (l:Int)),some (.ref q),?_,c1,c2,c3,c4⟩⟩;rw[es];push_cast;rfl
  .rintro σ H2 ⟨bs,v5,v6,rfl,s2,cG,bz,B2⟩;show⟨_,μ,k p bs H2 hp s2 cG (by rw[bz];simp[az]) B2⟩
end Hv
namespace Mu
open Me Mg
abbrev fO:=Nat×Nat×Nat
abbrev rj(b S:Nat)(x:fO):Nat:=x.1*b ^ (S-x.2.1)
abbrev sN(b S:Nat)(x:fO):Nat:=x.2.2*b ^ (S-x.2.1-1)
noncomputable def jt(b S:Nat)(L:List fO)(g:Nat->Int):Int:=(L.map λx=>ns (λi=>g (rj b S x+i)) (sN b S x)).sum
structure uw(b S:Nat)(x:fO):Prop where
 pl:x.2.1<S
 e1:1<=x.2.2
 eb:x.2.2<=b
 ha:x.1<b ^ x.2.1
noncomputable def upTo(b S n:Nat):Nat->List fO
 | 0=>[]
 | i+1=>upTo b S n i++if 0<n / b ^ (S-1-i) % b then [(n / b ^ (S-i),i,n / b ^ (S-1-i) % b)] else []
theorem LV{b S n:Nat}(hb:0<b)(hn:n<b ^ S):∀i,i<=S->∀x∈upTo b S n i,uw b S x
 | 0,_,x,hx=>by simp[upTo] at hx
 | i+1,hi,x,hx=>by
  rcases a2l.mp hx with hx | hx;.show LV hb hn i Z x hx
  .split at hx
   .rename_i h;have e:x=(n / b ^ (S-i),i,n / b ^ (S-1-i) % b):=by simpa using hx
    subst e;show⟨by simp only;lia,h,a4Q<|a3N _ hb,?_⟩;change n / b ^ (S-i)<b ^ i;rw[Nat.div_lt_iff_lt_mul (a2J hb),<-a2x];have:i+(S-i)=S:=by lia
    rw[this];show hn
   .simp at hx
theorem Dx(b S n:Nat):∀i,(upTo b S n i).length<=i
 | 0=>by simp[upTo]
 | i+1=>by
  rw[upTo,a2p];have:=Dx b S n i;split <;> simp <;> lia
def X7(b S:Nat)(L M:List fO)(g:Nat->Int):jt b S (L++M) g=jt b S L g+jt b S M g:=by simp[jt]
theorem LW{b S n:Nat}(hb:0<b)(hn:n<b ^ S)(g:Nat->Int):∀i,i<=S->jt b S (upTo b S n i) g=ns g (n / b ^ (S-i)*b ^ (S-i))
 | 0,_=>by
  rw[a3O,a3l hn,a3j];rfl
 | i+1,hi=>by
  rw[upTo,X7,LW hb hn g i (by lia)];have e1:S-(i+1)=S-1-i:=by lia
  have e2:S-i=S-1-i+1:=by lia
  rw[e1];generalize hk:S-1-i=k at *
  have e3:n / b ^ k*b ^ k=n / b ^ (k+1)*b ^ (k+1)+n / b ^ k % b*b ^ k:=by
   have h1:=a3F (n / b ^ k) b;rw[a2E,<-a2S] at h1
   have h2:n / b ^ (k+1)*b ^ (k+1)=b*(n / b ^ (k+1))*b ^ k:=by
    rw[a3Q];rw[a2D b (n / _),a2P]
   rw[h2,<-a2F,h1]
  rw[e2,e3,re];split
  .simp only[jt,rj,sN,a2f,a4s,a2b,List.sum_nil,e2,a5h];have e5:k+1-1=k:=by lia
   rw[e5]
  .have e6:n / b ^ k % b=0:=by lia
   rw[e6,a3j];rfl
def X8(hb:0<b)(hn:n<b ^ S)(g:Nat->Int):jt b S (upTo b S n S) g=ns g n:=by rw[LW hb hn g S (a1M _),a3n,a3u,a4Z,a5r]
def X9(hS:0<S)(g:Nat->Int):jt b S [(0,0,b)] g=ns g (b ^ S):=by
 have e:b*b ^ (S-1)=b ^ S:=by
  rw[<-a3Q];congr 1;lia
 simp only[jt,rj,sN,a2f,a4s,a2b,List.sum_nil,a3O,a3j,a3I,a5h,e]
def Ya(hb:0<b)(hn:n<b ^ S)(hi:i<=S):(Ma.aO b n S S).take i=Ma.aO b (n / b ^ (S-i)) i i:=by
 have:=Du (b:=b) (a:=n) (pl:=S) (o:=0) (l:=i) Z;rw[a3X,a3O] at this;rw[this,a5g];rw[Nat.div_lt_iff_lt_mul (a2J hb),<-a2x];have:i+(S-i)=S:=by lia
 rw[this];show hn
end Mu
namespace Hv
open PySem L2
def pG(H:Hp)(b:Nat)(t:Addr)(x:Mu.fO):Prop:=∃h,H t=some (.tup [.ref h,.int (x.2.2:Int)])/\H h=some (.lst (az (Ma.aO b x.1 x.2.1 x.2.1)))
def pG.keep(h:pG H b t x)(s:af H H'):pG H' b t x:=let ⟨a,h1,h2⟩:=h;⟨a,s _ _ h1,s _ _ h2⟩
inductive yM(vs:List V)(H:Hp)(Q:VK)(aw:XK):Prop
 | mk:∀f a c b ps ws,∀n:Nat,(vs=[.ref f,.int n])->(aU H f a c b ps ws)->(n<=b ^ ps.sum)->(∀(p:Addr) (ts:List Addr) (L:List Mu.fO) (H':Hp),H p=none->af H H'->H' p=some (.lst (ts.map V.ref))->Paired (pG H' b) ts L->L.length<=24->(∀x∈L,Mu.uw b ps.sum x)->(∀g,Mu.jt b ps.sum L g=Mg.ns g n)->Q (.ref p) H')->yM vs H Q aw
def LX:aS ["frame","n","figures"] ["frame","n"] (h_ xa):=⟨μ,μ,μ,ξ,μ,ξ,ξ⟩
def Yb(F:aM K "stretches_below" "stretches_below" xa f fd)(T:Txt mg)(D6:ak P w K mg base 6 "how_many" ["frame"] kX)(D8:ak P w K mg base 8 "figures_of" ["frame","n"] wZ):aA P w K mg base aI 9 f fd ["frame","n"] yM:=by
 show F.ok LX λao A outer s H vs Q E hr h=>?_
 .obtain⟨g,a,c,b,ps,ws,n,rfl,G,hn,k⟩:=h;have nd:=LX.nd;have ok:=G.ok;have lm:=ok.sum;have b2:=ok.b2;have b0:0<b:=by lia
  show⟨_,b_ (E_ (t_ dI (pv 1) (o_ D6 hr.mo η (a_ (pv 0) d_)) (aY _)) (g_ (m_ (x_ (a_ (dJ (a_ (x_ d_) (a_ (aW (pv 0) e_) d_))) d_)))) q_) (b_ (i_ 2 (o_ D8 hr η (a_ (pv 0) (a_ (pv 1) d_)))) (g_ (m_ (jg (h_ xa) ["frame","n","figures"] ["figures"] [2] μ (z_ η T.range (a_ (dw T.len η (pv 2)) d_)) (λcl C s H fp=>Bk (t_ mh (Jh K μ (pv 1) (pv 0)) e_ (aY _))) (λcl C s H fp=>dJ (a_ (jH (Ji K μ) (pv 1) qj (gH (pv 0))) (a_ (Jh K μ (pv 1) (pv 0)) d_))) ξ)))),(⟨_,μ,_,μ,g,a,c,b,ps,ws,μ,G,λH1 s1=>⟨μ,_,μ,?_⟩⟩)⟩;have G1:=G.keep s1;by_cases he:n=b ^ ps.sum
  .rw[decide_eq_true (by rw[he])];show bI ⟨sz ζ,λp1 iS=>?_⟩;have t1:=f_ (o:=.lst []) iS;have G2:=G1.keep t1;have u1:(upd H1 p1 (.lst [])) p1=_:=c_;generalize upd H1 p1 (.lst [])=H2 at t1 G2 u1⊢;show⟨_,μ,_,_,_,_,μ,μ,aB.of G2.tp,μ,sz θ,λp2 cG=>⟨sz θ,λp3 gR=>?_⟩⟩;have t2:=f_ (o:=.tup [.ref p1,.int (b:Int)]) cG;have t3:=f_ (o:=.lst [.ref p2]) gR;show k p3 [p2] [(0,0,b)] _ (s1.free (t1.free (t2.free gR))) (((s1.trans t1).trans t2).trans t3) c_ (.cons ⟨p1,t3 _ _ c_,t3 _ _ (t2 _ _ u1)⟩ .nil) θ (λx hx=>?_) (λg=>?_)
   .have:x=(0,0,b):=by simpa using hx
    subst this;show⟨by simp only;lia,by simp only;lia,a1M _,θ⟩
   .rw[he];show Mu.X9 Z g
  .have aL:n<b ^ ps.sum:=by lia
   rw[decide_eq_false (by intro z;cases z;show he μ)];show aG ⟨_,μ,_,μ,g,a,c,b,ps,ws,n,μ,G1,aL,λr H2 fY s2 h2=>?_⟩;have el:(az (Ma.aO b n ps.sum ps.sum)).length=ps.sum:=by rw[az,a1H,Ma.fL]
   show⟨_,μ,r,_,μ,.inl (ae.of h2),_,μ,Z,Z,wL (lo:=0) (n:=(((az (Ma.aO b n ps.sum ps.sum)).length:Nat):Int).toNat) (λi ys H3=>∃ts:List Addr,ys=ts.map V.ref/\af H2 H3/\Paired (pG H3 b) ts (Mu.upTo b ps.sum n i)) ⟨[],μ,af.refl _,.nil⟩ ?_ ?_⟩
   .rintro i ys H3 hi ⟨ts,rfl,s3,PR⟩;have dh:i<ps.sum:=by lia
    have tl:ts.length<=i:=by rw[Paired.length PR];show Mu.Dx b ps.sum n i
    have ez:(0:Int)+(i:Int)=(i:Int):=a2N _
    have ea:df (az (Ma.aO b n ps.sum ps.sum)) (0+(i:Int))=some (.int ((n / b ^ (ps.sum-1-i) % b:Nat):Int)):=by
     rw[ez];show Z_ (by rw[az,a1O,Mu.Dt dh];rfl)
    show⟨bK (by rw[a1H];lia),_,μ,_,μ,bU (s3 _ _ h2) ea ⟨_,_,μ,μ,_,μ,?_⟩⟩;by_cases hd:0<n / b ^ (ps.sum-1-i) % b
    .rw[decide_eq_true (by lia)];show bI ⟨_,μ,_,μ,_,μ,r,_,μ,ae.of (s3 _ _ h2),λq hq=>?_⟩
     have eg:dc (az (Ma.aO b n ps.sum ps.sum)) none (some (0+(i:Int)))=az (Ma.aO b (n / b ^ (ps.sum-i)) i i):=by
      rw[ez,CL,<-Mu.Ya b0 aL (by lia)];simp[az,a5b]
     rw[eg];have t4:=f_ (o:=.lst (az (Ma.aO b (n / b ^ (ps.sum-i)) i i))) hq;have u4:(upd H3 q (.lst (az (Ma.aO b (n / b ^ (ps.sum-i)) i i)))) q=_:=c_;generalize upd H3 q (.lst (az (Ma.aO b (n / b ^ (ps.sum-i)) i i)))=H4 at t4 u4⊢;show⟨_,μ,_,μ,bU (t4 _ _ (s3 _ _ h2)) ea ⟨sz θ,λt ht=>?_⟩⟩;have t5:=f_ (o:=.tup [.ref q,.int ((n / b ^ (ps.sum-1-i) % b:Nat):Int)]) ht;show⟨ts++[t],by rw[a2i];rfl,s3.trans (t4.trans t5),?_⟩;rw[Mu.upTo,if_pos hd];show Paired.snoc (L2.Paired.fE PR λ_ _ h=>pG.keep h (t4.trans t5)) ⟨q,c_,t5 _ _ u4⟩
    .rw[decide_eq_false (by lia)];show aG ⟨ts,μ,s3,?_⟩;rw[Mu.upTo,if_neg hd,a2Y];show PR
   .rintro ys H3 ⟨ts,rfl,s3,PR⟩ D hD;have en:(((az (Ma.aO b n ps.sum ps.sum)).length:Nat):Int).toNat=ps.sum:=by lia
    rw[en] at PR;show k D ts _ _ (s1.free (s2.free (s3.free hD))) ((s1.trans s2).trans (s3.trans (f_ hD))) c_ (L2.Paired.fE PR λ_ _ h=>pG.keep h (f_ hD)) (a2o (Mu.Dx _ _ _ _) Z) (Mu.LV b0 aL _ (a1M _)) (Mu.X8 b0 aL)
end Hv
namespace Mu
open Me Mg
noncomputable def lo(b a pl o:Nat):Nat:=if o<=pl then a / b ^ (pl-o) else a*b ^ (o-pl)
noncomputable def cn(b pl e o:Nat):Nat:=if o<=pl then 1 else e*b ^ (o-pl-1)
noncomputable def lC(b a pl o l:Nat):Nat:=pq b a pl o l*b ^ (l-pj pl o l)
noncomputable def lD(b pl e o l:Nat):Nat:=pn pl e o l*b ^ (l-pj pl o l)
def Yc(hb:0<b)(he:e<=b) : lo b a pl (o+l)=lo b a pl o*b ^ l+lC b a pl o l/\cn b pl e (o+l)=cn b pl e o*lD b pl e o l/\(cn b pl e o=1\/(lC b a pl o l=0/\lD b pl e o l=b ^ l))/\lC b a pl o l+lD b pl e o l<=b ^ l:=by
 unfold lo cn lC lD pj pq pn;by_cases hA:o+l<=pl
 .have h1:o<=pl:=by lia
  simp only[if_pos hA,if_pos h1,a3n,a3u,a5r];have e1:pl-(o+l)=pl-o-l:=by lia
  have e2:a / b ^ (pl-o)=a / b ^ (pl-o-l) / b ^ l:=by
   rw[a2E,<-a2x];congr 2;lia
  have h2:a / b ^ (pl-o-l) % b ^ l<b ^ l:=a3N _ (a2J hb);show⟨?_,trivial,.inl trivial,h2⟩;rw[e1,e2,a2D];show(a3F _ _).symm
 .by_cases hC:o<=pl
  .simp only[if_neg hA,if_pos hC];obtain⟨m,hm⟩:∃m,m=pl-o:=⟨_,μ⟩;obtain⟨r,hr⟩:∃r,r=l-m-1:=⟨_,μ⟩;have e1:l-(pl-o+1)=r:=by lia
   have e2:o+l-pl=r+1:=by lia
   have e3:l=m+1+r:=by lia
   show e1▸e2▸hm▸?_;have rm:b ^ l=b ^ m*b*b ^ r:=by rw[e3,a2x,a2S]
   have h2:a % b ^ m<b ^ m:=a3N _ (a2J hb)
   have h3:a % b ^ m*b+e<=b ^ m*b:=by
    have:(a % b ^ m+1)*b<=b ^ m*b:=a2z b h2;rw[a2F] at this;lia
   show⟨?_,?_,.inl trivial,?_⟩
   .have h4:=a3F a (b ^ m);have h5:a*b ^ (r+1)=(b ^ m*(a / b ^ m)+a % b ^ m)*b ^ (r+1):=by rw[h4]
    rw[h5,rm,a2F,a3Q];congr 1;.rw[a2D (b ^ m),a2P,a2P]
    .rw[a2P]
   .grind
   .rw[<-a2F,rm];show a2z _ h3
  .simp only[if_neg hA,if_neg hC,a3j,a3O,a3J,a3h,a3I,a1M,and_true,or_true];have e1:o+l-pl=(o-pl)+l:=by lia
   have e2:o+l-pl-1=(o-pl-1)+l:=by lia
   rw[e2,e1,a2x,a2x];show⟨(a2P _ _ _).symm,(a2P _ _ _).symm⟩
def Yd(ha:a<b ^ pl):lo b a pl 0=0:=by
 unfold lo;show a3l ha
def Ye(b pl e:Nat):cn b pl e 0=1:=by unfold cn;rw[if_pos (a2u _)]
def Yf(h:x.2.1<S):lo b x.1 x.2.1 S=rj b S x/\cn b x.2.1 x.2.2 S=sN b S x:=by
 unfold lo cn;rw[if_neg Z,if_neg (by lia)];show⟨μ,μ⟩
end Mu
namespace Hv
open PySem L2
theorem yN{α β:Type}{R:α->β->Prop}:∀ {as:List α} {bs:List β},Paired R as bs->∀ {i:Nat} {a:α},as[i]?=some a->∃b,bs[i]?=some b/\R a b
 | _,_,.cons h t,0,a,e=>by cases e;show⟨_,μ,h⟩
 | _,_,.cons h t,i+1,a,e=>by
  obtain⟨b,h1,h2⟩:=yN t e;show⟨b,by show h1,h2⟩
def rn{qs:List Addr}{i:Nat}(h:(qs.map V.ref)[i]?=some x):∃q,qs[i]?=some q/\x=.ref q:=by
 rw[a1O] at h
 cases e:qs[i]? with
 | none=>rw[e] at h;cases h
 | some d=>rw[e] at h;show⟨d,μ,(a1Q h).symm⟩
end Hv
namespace Mu
open Me Mg
noncomputable def wg(b:Nat)(row:List Int)(one:Int):Int×Int:=(ns (λv=>if bt b v row=one then 1 else 0) (b ^ row.length),ns (λv=>if bt b v row=one then (v:Int) else 0) (b ^ row.length))
noncomputable def lst(b:Nat)(rows:List (List Int))(one:Int):List ((Int×Int)×Int):=rows.map λrow=>(wg b row one,((b ^ row.length:Nat):Int))
theorem yO{b:Nat}(hb:0<b):∀(ps1 ps2:List Nat) (ws:List Int) (u z:Nat),u<b ^ ps1.sum->z<b ^ ps2.sum->ws.length=ps1.sum+ps2.sum->bG b (u*b ^ ps2.sum+z) (ps1++ps2) ws=bG b u ps1 (ws.take ps1.sum)++bG b z ps2 (ws.drop ps1.sum)
 | [],ps2,ws,u,z,hu,hz,hw=>by
  have h0:u=0:=by simpa using hu
  subst h0;have e:bG b 0 [] (ws.take ([]:List Nat).sum)=[]:=rfl;rw[e];simp
 | p::ps1,ps2,ws,u,z,hu,hz,hw=>by
  rw[a2b] at hu hw;have Yg:0<b ^ ps1.sum:=a2J hb;have em:u=u / b ^ ps1.sum*b ^ ps1.sum+u % b ^ ps1.sum:=by rw[a2D];show(a3F u _).symm
  have gL:u % b ^ ps1.sum<b ^ ps1.sum:=a3N _ Yg;show em▸?_;generalize u / b ^ ps1.sum=d at *;generalize u % b ^ ps1.sum=m at *
  have e1:(d*b ^ ps1.sum+m)*b ^ ps2.sum+z=d*b ^ (ps1++ps2).sum+(m*b ^ ps2.sum+z):=by
   rw[a2q,a2x,a2F,a2P];lia
  have aL:m*b ^ ps2.sum+z<b ^ (ps1++ps2).sum:=by
   rw[a2q,a2x];have:(m+1)*b ^ ps2.sum<=b ^ ps1.sum*b ^ ps2.sum:=a2z _ gL;rw[a2F] at this;lia
  rw[e1,a4a,ut hb aL (by rw[a2q];lia),yO hb ps1 ps2 (ws.drop p) m z gL hz (by rw[a2k];lia),a2b];rw[ut hb gL (by rw[a2d];lia),a5s,List.drop_take,a3M,a4a];have e2:min p (p+ps1.sum)=p:=by lia
  have e3:p+ps1.sum-p=ps1.sum:=by lia
  rw[e2,e3]
def LY{b n k i:Nat}:n / b ^ k=n / b ^ (k+i)*b ^ i+n / b ^ k % b ^ i:=by
 rw[a2x,<-a2E,a2D];show(a3F _ _).symm
def LZ(hb:0<b){ws:List Int}(hu:u<b ^ ps1.sum)(hv:v<b ^ p)(hw:ps1.sum+p<=ws.length):bG b (u*b ^ p+v) (ps1++[p]) (ws.take (ps1.sum+p))=bG b u ps1 (ws.take ps1.sum)++[bt b v ((ws.drop ps1.sum).take p)]:=by
 have hs:[p].sum=p:=by simp
 have:=yO hb ps1 [p] (ws.take (ps1.sum+p)) u v hu (by rw[hs];show hv) (by rw[a2d,hs];lia);rw[hs] at this;rw[this,a5s,a3s Z,List.drop_take];congr 1;have e0:ps1.sum+p-ps1.sum=p:=by lia
 rw[e0];have hz:(0:Nat)<b ^ ([]:List Nat).sum:=by simp
 have e1:=ut (b:=b) (d:=v) (m:=0) (p:=p) (ps:=[]) (ws:=(ws.drop ps1.sum).take p) hb hz (by rw[a2d,a2k];simp;lia);have e2:v*b ^ ([]:List Nat).sum+0=v:=by simp
 rw[e2] at e1;rw[e1,a5s,Nat.min_self];rfl
end Mu
namespace Mx
open Me Mg Mu
noncomputable def cH:List (List (Int×Int))->(List Int->Int)->Int
 | [],F=>F []
 | g::gs,F=>tg g λx=>cH gs λv=>F (x::v)
theorem L3{lo hi:Int}:∀ {gs:List (List (Int×Int))} {F G:List Int->Int},(∀g∈gs,∀k∈keys g,lo<=k/\k<=hi)->(∀v,v.length=gs.length->(∀x∈v,lo<=x/\x<=hi)->F v=G v)->cH gs F=cH gs G
 | [],_,_,_,h=>h [] μ λ_ z=>by simp at z
 | g :: gs, _, _, hk, h => LF λx hx => L3 (λr hr => hk r<|by simp[hr]) λv hv hb => h _ (by simp[hv]) λy hy => by
   rcases a1L.mp hy with rfl | hy;.show hk g θ _ hx
   .show hb y hy
theorem L4:∀ {gs:List (List (Int×Int))} {F G:List Int->Int},(∀v,v.length=gs.length->F v=G v)->cH gs F=cH gs G
 | [],_,_,h=>h [] μ
 | _::gs,_,_,h=>F_ λx=>L4 λv hv=>h _<|by simp[hv]
theorem Dy(c:Int):∀(gs:List (List (Int×Int))) (F:List Int->Int),cH gs (λv=>c*F v)=c*cH gs F
 | [],_=>rfl
 | g::gs,F=>by
  change tg _ _=c*tg _ _;rw[<-rf];show F_ λx=>Dy c gs _
theorem L5:∀(gs:List (List (Int×Int))) (F G:List Int->Int),cH gs (λv=>F v-G v)=cH gs F-cH gs G
 | [],_,_=>rfl
 | g::gs,F,G=>by
  change tg _ _=tg _ _-tg _ _;rw[<-Lz];show F_ λx=>L5 gs _ _
theorem L7:∀(gs:List (List (Int×Int))) (F G:List Int->Int),cH gs (λv=>F v+G v)=cH gs F+cH gs G
 | [],_,_=>rfl
 | g::gs,F,G=>by
  change tg _ _=tg _ _+tg _ _;rw[<-yG];show F_ λx=>L7 gs _ _
def Yh(gs:List (List (Int×Int))):cH gs (λ_=>0)=0:=by
 have:=Dy 0 gs λ_=>0;simp only[a4x] at this;show this
theorem L8(gs:List (List (Int×Int)))(F:Int->List Int->Int)(a:Int):∀n:Nat,cH gs (λv=>Mq.sm (λt=>F t v) a n)=Mq.sm (λt=>cH gs (F t)) a n
 | 0=>Yh gs
 | n+1=>by
  simp only[Mq.sm];rw[L7,L8 gs F a n]
theorem L9(h:Int->Int):∀gs:List (List (Int×Int)),cH gs (fp h)=gs.foldl (λm g=>m*tg g h) 1
 | []=>rfl
 | g::gs=>by
  have e:∀(rs:List _)  c ,rs.foldl _ c=c*rs.foldl (λm g=>m*tg g h) 1:=λrs=>by
   induction rs with
   | nil=>intro c;simp
   | cons r rs ih=>intro c;rw[a2h,a2h,ih _,ih (1*_),a3Y,a4f]
  rw[a2h,e gs,a3Y,<-L9 h gs];change tg g _=_
  have e2:∀x,cH gs (λv=>fp h _)=cH gs (fp h)*h x:=λx=>by
   rw[a4z,<-Dy]
   show L4 λv _=>by
    unfold fp;rw[a2h,uu,a3Y]
  rw[F_ e2,rf,a4z]
def Yi(nd:(keys g).Nodup)(a:Int)(n:Nat):tg g (iv a n)=Mq.sm (λt=>gv g t) a n:=by
 have e:=λx=>(yI x a n).symm;rw[F_ e,Dp g _];apply Mq.jT;show λt _ _=>uv nd
def L'(hg:∀g∈gs,fM g)(a:Int)(n:Nat):cH gs (fp (iv a n))=Mq.pr (fG gs) a n:=by
 rw[L9];unfold Mq.pr fG;rw[List.foldl_map]
 have aZ:∀(rs:List _)  c ,(∀g∈rs,fM g)->rs.foldl (λm g=>m*tg g _) c=rs.foldl (λm g=>m*Mq.sm (λt=>gv g t) a n) c:=λrs=>by
  induction rs with
  | nil=>intro c _;rfl
  | cons r rs ih =>
   intro c h;rw[a2h,a2h,Yi (h r<|by simp).nd];show ih _ λg hg=>h g<|by simp[hg]
 show aZ gs 1 hg
def Mb(ba:0<gs.length)(hg:∀g∈gs,fM g)(d:Nat):mP gs d=cH gs λv=>if fN v<=d then 1 else 0:=by
 have nl:0<(bq gs).length:=by rw[bq,a1H];show ba
 have nh:0<(bx gs).length:=by rw[bx,a1H];show ba
 rw[L3 (lo:=Ma.aK (bq gs)) (hi:=Ma.aP (bx gs)) (λg pi k hk=>⟨?_,?_⟩) λv hv hx=>?_]
 .rw[L8 gs λa v=>fp (iv a _) v-fp (iv (a+1) d) v];apply Mq.jT;intro a _ _;rw[L5,L' hg,L' hg];rfl
 .have h1:=(Ma.v_ _ (hg g pi).ne).2 k hk;have h2:=(Ma.v_ _ nl).2 _ (a1U.mpr ⟨g,pi,μ⟩);lia
 .have h1:=(Ma.w_ _ (hg g pi).ne).2 k hk;have h2:=(Ma.w_ _ nh).2 _ (a1U.mpr ⟨g,pi,μ⟩);lia
 .have lB:0<v.length:=by lia
  have m1:=hx _ (Ma.v_ v lB).1;show LM lB (by lia)<|by lia
theorem Mc(g:List (Int×Int)):∀(gs:List (List (Int×Int))) (F:List Int->Int),cH (gs++[g]) F=cH gs λv=>tg g λx=>F (v++[x])
 | [],F=>rfl
 | h::gs,F=>by
  show F_ λx=>Mc g gs _
structure mV(g:List (Int×Int))(lo n:Nat)(s:Nat->Int):Prop where
 ok:fM g
 eq:∀F:Int->Int,tg g F=ns (λi=>F (s (lo+i))) n
theorem Md{b:Nat}(hb:0<b){x:fO}(he:x.2.2<=b)(h1:1<=x.2.2)(ha:x.1<b ^ x.2.1){ps:List Nat}{ws:List Int}(hw:ws.length=ps.sum){gs:List (List (Int×Int))}(hl:gs.length=ps.length) (hg:∀i l row g,ps[i]?=some l->(Ma.ar ps ws)[i]?=some row->gs[i]?=some g->mV g (lC b x.1 x.2.1 (ps.take i).sum l) (lD b x.2.1 x.2.2 (ps.take i).sum l) (λn=>bt b n row)) : ∀j,j<=ps.length->lo b x.1 x.2.1 (ps.take j).sum+cn b x.2.1 x.2.2 (ps.take j).sum<=b ^ (ps.take j).sum/\∀F:List Int->Int,cH (gs.take j) F=ns (λk=>F (bG b (lo b x.1 x.2.1 (ps.take j).sum+k) (ps.take j) (ws.take (ps.take j).sum))) (cn b x.2.1 x.2.2 (ps.take j).sum)
 | 0,_=>by
  have e1:(ps.take 0).sum=0:=by simp
  rw[e1,Yd ha,Ye];show⟨θ,λF=>?_⟩;simp only[ns,a2N];rfl
 | j+1,hj=>by
  obtain⟨Dz,ih⟩:=Md hb he h1 ha hw hl hg j Z;obtain⟨l,cE⟩:∃l,ps[j]?=some l:=⟨_,a2a Z⟩;obtain⟨g,qt⟩:∃g,gs[j]?=some g:=⟨_,a2a Z⟩;have aT:=Ma.oB ps ws j l cE;have R:=hg j l _ g cE aT qt;have st:=Yc (a:=x.1) (pl:=x.2.1) (o:=(ps.take j).sum) (l:=l) hb he;have et:ps.take (j+1)=ps.take j++[l]:=by rw[a1P,cE];rfl
  have es:(ps.take (j+1)).sum=(ps.take j).sum+l:=by rw[et,a2q];simp
  have gq:(ps.take j).sum+l<=ws.length:=by
   have h2:=congrArg List.sum (a2r (j+1) ps);rw[a2q] at h2;lia
  obtain⟨A,hA⟩:∃A,A=(ps.take j).sum:=⟨_,μ⟩;have Yj:gs.take (j+1)=gs.take j++[g]:=by rw[a1P,qt];rfl
  show es▸st.1▸st.2.1▸?_;show⟨?_,λF=>?_⟩
  .rw[a2x];rcases st.2.2.1 with q | ⟨q1,q2⟩
   .rw[q] at Dz⊢;have:(lo b x.1 x.2.1 (ps.take j).sum+1)*b ^ l<=b ^ (ps.take j).sum*b ^ l:=a2z _ Dz;rw[a2F] at this;lia
   .rw[q1,q2,a3h,<-a2F];show a2z _ Dz
  .rw[Yj,Mc,ih]
   have e2:∀k,k<cn b x.2.1 x.2.2 (ps.take j).sum->tg g (λy=>F (bG b (lo b x.1 x.2.1 (ps.take j).sum+k) (ps.take j) (ws.take (ps.take j).sum)++[y]))=ns (λi=>F (bG b ((lo b x.1 x.2.1 (ps.take j).sum+k)*b ^ l+(lC b x.1 x.2.1 (ps.take j).sum l+i)) (ps.take (j+1)) (ws.take ((ps.take j).sum+l)))) (lD b x.2.1 x.2.2 (ps.take j).sum l):=λk hk=>by
    rw[R.eq];show X_ λi hi=>?_;rw[et,LZ hb Z Z gq]
   rw[X_ e2,XW (λm=>F (bG b m (ps.take (j+1)) (ws.take ((ps.take j).sum+l)))) st.2.2.1]
def Yk(hb:0<b)(SO:uw b ps.sum x)(hw:ws.length=ps.sum)(hl:gs.length=ps.length) (hg:∀i l row g,ps[i]?=some l->(Ma.ar ps ws)[i]?=some row->gs[i]?=some g->mV g (lC b x.1 x.2.1 (ps.take i).sum l) (lD b x.2.1 x.2.2 (ps.take i).sum l) (λn=>bt b n row)) (F:List Int->Int) : cH gs F=ns (λk=>F (bG b (rj b ps.sum x+k) ps ws)) (sN b ps.sum x):=by
 have h:=(Md hb SO.eb SO.e1 SO.ha hw hl hg _<|a1M _).2 F;have e1:gs.take ps.length=gs:=by rw[<-hl,a1T]
 have e2:ws.take ps.sum=ws:=by rw[<-hw,a1T]
 have rc:=Yf (b:=b) SO.pl;rw[e1,a1T,e2,rc.1,rc.2] at h;show h
def Mf(h:f.Perm g)(F:Int->Int):tg f F=tg g F:=by show Me.KU<|h.map _
def Yl{f:List (Int×Int)}(h:f[i]?=some p)(F:Int->Int):tg (f.take (i+1)) F=tg (f.take i) F+p.2*F p.1:=by
 unfold tg;rw[a1P,h,a2i,a2q];simp
def mV.of{lo n:Nat}(o:Ok g 810)(hn:0<n)(hm:n<=16777216)(eq:∀F:Int->Int,tg g F=ns (λi=>F (s (lo+i))) n):mV g lo n s:=by
 have ba:0<(keys g).length:=by
  cases g with
  | nil =>
   have:=eq λ_=>1;rw[yK] at this;have e:tg [] (λ_=> 1 )=0:=rfl;rw[e] at this;lia
  | cons p r=>simp[keys]
 show⟨⟨ba,o.nd,o.bd,λt=>?_⟩,eq⟩;rw[<-uv o.nd,eq];show⟨Dq λi _=>by split <;> decide,?_⟩;have h1:=Dr (g:=λi=>if s (lo+i)=t then  1  else 0) (h:=λ_=>1) (n:=n) λi _=>by split <;> decide
 rw[yK,a5n] at h1;lia
end Mx
namespace Hv
open PySem L2
def pH(H:Hp)(b:Nat)(ts:List Addr)(ws:List Int):Prop:=∀(k:Nat) (t:Addr),ts[k]?=some t->∃g,H t=some (.dK (ay g))/\g.Perm (Me.aN b (ws.drop k))
def pH.keep(h:pH H b ts ws)(s:af H H'):pH H' b ts ws:=λk t e=>let ⟨g,a1,a2⟩:=h k t e;⟨g,s _ _ a1,a2⟩
inductive yP(vs:List V)(H:Hp)(Q:VK)(aw:XK):Prop
 | mk:∀(b:Nat) (c:Addr) (ws:List Int),(vs=[.int b,.ref c])->(H c=some (.lst (ws.map V.int)))->(b<=16)->((∀x∈ws,-9<=x/\x<=9))->(ws.length<=6)->(∀(p:Addr) (ts:List Addr) (H':Hp),H p=none->af H H'->H' p=some (.lst (ts.map V.ref))->ts.length=ws.length+1->pH H' b ts ws->Q (.ref p) H')->yP vs H Q aw
def lE(H:Hp)(b:Nat)(ps:List Nat)(ws:List Int)(bC:List Addr):Prop:=∀(i:Nat) (row:List Int) (d:Addr),(Ma.ar ps ws)[i]?=some row->bC[i]?=some d->∃ts:List Addr,H d=some (.lst (ts.map V.ref))/\ts.length=row.length+1/\pH H b ts row
theorem lE.keep(h:lE H b ps ws bC)(s:af H H'):lE H' b ps ws bC:=λi row d a1 a2=>let ⟨ts,b1,b2,b3⟩:=h i row d a1 a2;⟨ts,s _ _ b1,b2,b3.keep s⟩
inductive yQ(vs:List V)(H:Hp)(Q:VK)(aw:XK):Prop
 | mk:∀f a c b ps ws,(vs=[.ref f])->(aU H f a c b ps ws)->(∀(p:Addr) (bC:List Addr) (H':Hp),H p=none->af H H'->H' p=some (.lst (bC.map V.ref))->bC.length=ps.length->lE H' b ps ws bC->Q (.ref p) H')->yQ vs H Q aw
inductive yR(vs:List V)(H:Hp)(Q:VK)(aw:XK):Prop
 | mk:∀(b:Nat) (rl c tl:Addr) (rs ts:List Addr) (ws:List Int) (q j:Nat),(vs=[.ref rl,.ref c,.ref tl])->(H rl=some (.lst (rs.map V.ref)))->(H c=some (.lst (ws.map V.int)))->(H tl=some (.lst (ts.map V.ref)))->(ts.length=ws.length+1)->(pH H b ts ws)->(2<=b)->(b<=16)->((∀x∈ws,-9<=x/\x<=9))->(ws.length<=6)->(j<=ws.length)->(mU H b j q rs)->(0<rs.length)->(∀(p:Addr) (g:List (Int×Int)) (H':Hp),H p=none->af H H'->H' p=some (.dK (ay g))->Mx.mV g (q*b ^ (ws.length-j)) (rs.length*b ^ (ws.length-j)) (λn=>Mg.bt b n ws)->Q (.ref p) H')->yR vs H Q aw
def Ym:aS ["base","weights"] ["base","weights"] (h_ xh):=⟨μ,μ,μ,ξ,μ,ξ,ξ⟩
def Yn(F:aM K "tails_of_part" "tails_of_part" xh f fd)(T:Txt mg)(DV:ak P w K mg base 2 "ways_of_weights" ["base","weights"] uf):aA P w K mg base aI 3 f fd ["base","weights"] yP:=by
 show F.ok Ym λao A outer s H vs Q E hr h=>?_
 .obtain⟨b,c,ws,rfl,hc,hb,hw,gP,k⟩:=h;show⟨_,g_ (m_ (jg (h_ xh) ["base","weights"] ["base","weights"] [0,1] μ (z_ η T.range (a_ (n_ u_ (dw T.len η (pv 1)) e_) d_)) (λcl C s H fp=>fm) (λcl C s H fp=>o_ DV hr η (a_ (pv 1) (a_ (jH (Ji K μ) (pv 2) (gH (pv 0)) qj) d_))) ξ)),?_⟩;have el:(((ws.map V.int).length:Nat):Int)=(ws.length:Int):=by rw[a1H]
  show⟨_,μ,c,_,μ,.inl (ae.of hc),_,_,μ,μ,_,μ,by rw[el];lia,by rw[el];lia,wL (λi ys H'=>∃ts:List Addr,ys=ts.map V.ref/\ts.length=i/\af H H'/\pH H' b ts ws) ⟨[],μ,μ,af.refl _,λk t e=>by simp at e⟩ ?_ ?_⟩
  .rintro i ys H1 hi ⟨ts,rfl,bP,s1,TC⟩;have dh:i<=ws.length:=by rw[el] at hi;lia
   have ei:(0:Int)+(i:Int)=(i:Int):=a2N _;rw[ei];show⟨bK (by rw[a1H];lia),_,μ,_,μ,_,μ,_,μ,c,_,μ,ae.of (s1 _ _ hc),λsl gS=>?_⟩
   have ec:dc (ws.map V.int) (some (i:Int)) none=(ws.drop i).map V.int:=by
    unfold dc;rw[HT.sS,HT.AX,a1H,a3s dh,a4H,a2t (by rw[a2k,a1H];lia)]
   show ec▸?_;have s2:=f_ (o:=.lst ((ws.drop i).map V.int)) gS;have u2:(upd H1 sl (.lst ((ws.drop i).map V.int))) sl=_:=c_;show⟨b,sl,ws.drop i,μ,u2,hb,λx hx=>hw x (a3H hx),by rw[a2k];lia,λp H3 g hp s3 gR perm=>?_⟩;have S3:=s1.trans (s2.trans s3);show⟨ts++[p],θ,by simp[bP],S3,λk t e=>?_⟩;by_cases hm:k<ts.length
   .rw[a1R hm] at e;show TC.keep (s2.trans s3) k t e
   .have hk:k=i:=by
     have:=(a1I.mp e).1;simp at this;lia
    subst hk;rw[a1V Z,bP,a3n] at e;have e1:p=t:=by simpa using e
    subst e1;show⟨g,gR,perm⟩
  .rintro ys H1 ⟨ts,rfl,bP,s1,TC⟩ l hl;have DD:ts.length=ws.length+1:=by rw[bP,el];lia
   show k l ts _ (s1.free hl) (s1.trans (f_ hl)) c_ DD (TC.keep (f_ hl))
def Yo:aS ["frame"] ["frame"] (h_ xi):=⟨μ,μ,μ,ξ,μ,ξ,ξ⟩
def Yp(F:aM K "tails_of_parts" "tails_of_parts" xi f fd)(DC:ak P w K mg base 1 "cut_by_parts" ["frame","row"] qQ)(DT:ak P w K mg base 3 "tails_of_part" ["base","weights"] yP):aA P w K mg base aI 4 f fd ["frame"] yQ:=by
 show F.ok Yo λao A outer s H vs Q E hr h=>?_
 .obtain⟨g,a,c,b,ps,ws,rfl,G,k⟩:=h;have ok:=G.ok;have l4:=ok.l4;show⟨_,g_ (m_ (jg (h_ xi) ["frame"] ["frame"] [0] μ (I_ (o_ DC hr.mo η (a_ (pv 0) (a_ (aW (pv 0) e_) d_)))) (λcl C s H fp=>fm) (λcl C s H fp=>o_ DT hr η (a_ (wS K μ (pv 1) e_) (a_ (pv 0) d_))) ξ)),(⟨_,μ,_,μ,_,_,_,_,μ,μ,aB.of G.tp,μ,g,a,c,b,ps,ws,c,ws,μ,G,G.hw,λwp qs H3 s3 Mh rows=>⟨wp,μ,⟨_,ae.of Mh⟩,S_ (K:=K) (a:=wp) (xs:=qs.map V.ref) (λi ys H4=>∃bC:List Addr,ys=bC.map V.ref/\bC.length=i/\af H3 H4/\lE H4 b ps ws bC) ⟨[],μ,μ,af.refl _,λi row d _ h=>by simp at h⟩ (λi ys H4 _ p=>by obtain⟨_,_,_,z,_⟩:=p;show ae.of (z _ _ Mh)) ?_ ?_⟩⟩)⟩
  .rintro i x ys H4 hx ⟨bC,rfl,bP,s4,TA⟩;obtain⟨wq,DG,rfl⟩:=rn hx;obtain⟨row,aT,Yq⟩:=yN rows DG;have jV:=a1K aT;have G4:=(G.keep s3).keep s4
   have hi:i<4:=by
    have h1:=(a1I.mp aT).1;rw[Ma.D_] at h1;lia
   show⟨bK (by rw[a1H];lia),_,μ,_,_,_,_,μ,μ,aB.of G4.tp,μ,_,μ,b,wq,row,μ,s4 _ _ Yq,ok.b8,λy hy=>ok.wr y (Ma.iK jV y hy),Ma.O_ (λp hp=>(ok.pr p hp).2) jV,λp ts H5 hp s5 Yr Ys TT=>⟨bC++[p],by rw[a2i];rfl,by simp[bP],s4.trans s5,λm fB d' a1 a2=>?_⟩⟩;by_cases hm:m<bC.length
   .rw[a1R hm] at a2;show TA.keep s5 m fB d' a1 a2
   .have jR:m=i:=by
     have:=(a1I.mp a2).1;simp at this;lia
    subst jR;rw[a1V Z,bP,a3n] at a2;have e1:p=d':=by simpa using a2
    subst e1;rw[aT] at a1;cases a1;show⟨ts,Yr,Ys,TT⟩
  .rintro ys H4 ⟨bC,rfl,bP,s4,TA⟩ D hD;have jW:bC.length=ps.length:=by rw[bP,a1H,Paired.length rows,Ma.D_]
   show k D bC _ (s3.free (s4.free hD)) (s3.trans (s4.trans (f_ hD))) c_ jW (TA.keep (f_ hD))
def Mi:aS ["rows","weights","tails","ways","row","begun","tail","total"] ["rows","weights","tails"] (h_ BU):=⟨μ,μ,μ,ξ,μ,ξ,ξ⟩
def Yt(F:aM K "ways_from_beginnings" "ways_from_beginnings" BU f fd)(T:Txt mg)(DW:ak P w K mg base 1 "weighted_sum" ["figures","weights"] yE):aA P w K mg base aI 2 f fd ["rows","weights","tails"] yR:=by
 show F.ok Mi λao A outer s H vs Q E hr h=>?_
 .obtain⟨b,rl,c,tl,rs,ts,ws,q,j,rfl,cW,hc,bP,ux,TC,ow,hb,hw,gP,hj,RD,jX,k⟩:=h;have nd:=Mi.nd;have hu:=ic hr;show⟨_,b_ (i_ 3 qG) (b_ (B_ PassesOwn.never μ (I_ (pv 0)) (k_ 4) (b_ (i_ 5 (o_ DW hr.mo η (a_ (pv 4) (a_ (pv 1) d_)))) (b_ (i_ 6 (bf (pv 2) (dw T.len η (pv 4)))) (b_ (B_ PassesOwn.never μ (oM (pv 6)) (k_ 7) (g_ (qF hu (pv 3) (n_ u_ (pv 5) (pv 7)) (n_ u_ (mE hu (pv 3) (n_ u_ (pv 5) (pv 7)) e_ ⟨μ,μ,μ,μ⟩) (kZ hu (pv 6) (pv 7) (λ_ _=>rfl))) μ))) (qH q_))))) (g_ (m_ (pv 3)))),?_⟩;intro p hp;have s0:af H (upd H p (.dK [])):=f_ hp;have u0:(upd H p (.dK [])) p=some (.dK (ay [])):=c_;generalize upd H p (.dK [])=H0 at s0 u0⊢;have b0:0<b:=by lia
  obtain⟨r2,mO⟩:∃r,r=ws.drop j:=⟨_,μ⟩;have Yu:r2.length=ws.length-j:=by rw[mO,a2k]
  have Yv:ws.take j++r2=ws:=by rw[mO];show a2r j ws
  have hjp:q+(rs.length-1)<b ^ j:=by
   obtain⟨a,ha⟩:∃a,rs[rs.length-1]?=some a:=⟨_,a2a Z⟩;show(RD _ a ha).2
  have Yw:rs.length*b ^ (ws.length-j)<=16777216:=by
   have h1:rs.length*b ^ (ws.length-j)<=b ^ j*b ^ (ws.length-j):=a2z _ Z;rw[<-a2x,show j+(ws.length-j)=ws.length by lia] at h1;have h2:b ^ ws.length<=16 ^ 6:=a2o (a4N hb _) (a4J ζ gP);have h16:(16:Nat) ^ 6=16777216:=by decide
   lia
  have uy:0<rs.length*b ^ (ws.length-j):=Nat.mul_pos jX (a2J b0);show⟨_,μ,rl,μ,⟨_,ae.of (s0 _ _ cW)⟩,Y_ (K:=K) (a:=rl) (xs:=rs.map V.ref) (λi σ H2=>∃v4 v5 v6 v7,σ=[some (.ref rl),some (.ref c),some (.ref tl),some (.ref p),v4,v5,v6,v7]/\af H H2/\∃gl,H2 p=some (.dK (ay gl))/\Me.Ok gl 810/\∀F:Int->Int,Mg.tg gl F=Mg.ns (λn=>F (Mg.bt b (q*b ^ (ws.length-j)+n) ws)) (i*b ^ (ws.length-j))) ⟨none,none,none,none,μ,s0,[],u0,Me.Ok.nil,λF=>by rw[a3j];rfl⟩ (λi σ H2 _ h=>by obtain⟨_,_,_,_,_,z,_⟩:=h;show ae.of (z _ _ cW)) ?_ ?_⟩
  .rintro i x σ H2 hx ⟨v4,v5,v6,v7,rfl,s2,g0,p2,a9,yS⟩;obtain⟨ra,mW,rfl⟩:=rn hx;obtain⟨aT,aL⟩:=RD i ra mW;show⟨_,μ,_,μ,ra,c,_,ws,μ,s2 _ _ aT,s2 _ _ hc,hw,by rw[Ma.fL];show hj,gP,λH3 s3=>?_⟩;rw[XV hj];have S3:=s2.trans s3;have er:(((az (Ma.aO b (q+i) j j)).length:Nat):Int)=(j:Int):=by rw[az,a1H,Ma.fL]
   obtain⟨t,e1⟩:∃t,ts[j]?=some t:=⟨_,a2a Z⟩;obtain⟨g,e2,perm⟩:=TC j t e1;have Yx:df (ts.map V.ref) (j:Int)=some (.ref t):=Z_ (by rw[a1O,e1];rfl);show⟨_,μ,_,μ,ra,_,μ,.inl (ae.of (S3 _ _ aT)),⟨tl,_,(((az (Ma.aO b (q+i) j j)).length:Nat):Int),_,μ,μ,ae.of (S3 _ _ bP),by rw[er];show Yx,?_⟩⟩;have p3:=s3 _ _ p2;have t3:=S3 _ _ e2;have DH:t≠p:=l_ e2 hp;rw[<-mO] at perm;have rp:=Me.qP (b:=b) (ws:=r2) (λx hx=>hw x (by rw[mO] at hx;show a3H hx)) hb;have Yy:(Me.keys g).Nodup:=((perm.map _).nodup_iff).mpr rp.nd;have Yz:∀x∈Me.keys g,-(135*(r2.length:Int))<=x/\x<=135*(r2.length:Int):=λx hx=>rp.bd x ((perm.map Prod.fst).mem_iff.mp hx);generalize Mj:Mg.bt b (q+i) (ws.take j)=bg;have YA:=LP (b:=b) (q:=q+i) (r:=ws.take j) b0 hb λx hx=>hw x (a3G hx);have YB:(ws.take j).length=j:=by rw[a2d];lia
   rw[YB,Mj] at YA;show⟨_,μ,t,ay g,μ,t3,λo=>qI (λm σ H4=>∃v7,σ=[some (.ref rl),some (.ref c),some (.ref tl),some (.ref p),some (.ref ra),some (.int bg),some (.ref t),v7]/\H4 t=some (.bE o (.dK (ay g)))/\Kp [t] H H4/\∃g4,H4 p=some (.dK (ay g4))/\Me.Ok g4 810/\∀F:Int->Int,Mg.tg g4 F=Mg.tg g0 F+Mg.tg (g.take m) λx=>F (bg+x)) ⟨v7,μ,c_,dL (Kp.of S3) (.inl θ),g0,?_,a9,λF=>by simp[Mg.tg]⟩ (λm σ H4 _ h=>by obtain⟨_,_,z,_⟩:=h;show z) ?_ ?_⟩;.rw[j_ DH.symm];show p3
   .rintro m kk v σ H4 hk ⟨v7,rfl,ft,DI,g4,p4,bB,yT⟩;obtain⟨pr,jq,rfl,rfl⟩:=oZ hk;have pm:=a1K jq;have pb:=Yz pr.1 (a1U.mpr ⟨pr,pm,μ⟩)
    have dg:eU H4 t (.int pr.1) (some (.int pr.2)):=by
     have z:=L_ (k:=pr.1) (.inr ⟨o,ft⟩);rw[Me.gN Yy pm] at z;show z
    have bZ:=Me.Ok.len (m:=810) bB;show⟨_,μ,p,μ,.inl ⟨_,.inl p4⟩,_,μ,_,μ,_,_,μ,μ,_,L_ (.inl p4),_,μ,_,μ,t,.int pr.2,μ,dg,_,_,mM _,μ,_,μ,_,μ,_,μ,_,_,μ,μ,p,_,μ,ue p4 Z,⟨_,μ,?_,?_,Me.d7 g4 (bg+pr.1) pr.2,c_,?_,λF=>?_⟩⟩;.rw[j_ DH];show ft
    .show dL DI (.inr hp)
    .show bB.put Z
    .rw[Mg.Dj bB.nd,yT F,Mx.Yl jq];show Int.add_assoc _ _ _
   .rintro σ H4 ⟨v7,rfl,ft,DI,g4,p4,bB,yT⟩;have el:(ay g).length=g.length:=by rw[ay,a1H]
    rw[el,a1T] at yT
    show⟨t,o,ay g,ft,(λo' u z=>by
     have z':H t=some (.bE o' u):=z;rw[e2] at z';cases z'),_,_,_,_,μ,λx ob e=>?_,g4,?_,bB,λF=>?_⟩
    .by_cases hx:x=t;.rw[hx,c_,<-e2,<-hx];show e
     .rw[j_ hx];show DI x ob e (by simpa using hx)
    .rw[j_ DH.symm];show p4
    .rw[yT,yS,a2F,a3J,Mg.re,Mx.Mf perm,<-Mg.Dn b (λx=>F (bg+x)) r2,<-Yu];congr 1;apply Mg.X_;intro d hd;have e5:q*b ^ r2.length+(i*b ^ r2.length+d)=(q+i)*b ^ r2.length+d:=by rw[a2F];lia
     have e6:=Mu.LO (b:=b) (d:=q+i) (i:=d) (r1:=ws.take j) (r2:=r2) b0 hd;rw[Yv,Mj] at e6;change F _=F _;rw[e5,e6]
  .rintro σ H2 ⟨v4,v5,v6,v7,rfl,s2,gl,p2,a9,yS⟩;rw[a1H] at yS;show⟨_,μ,k p gl H2 hp s2 p2 (Mx.mV.of a9 uy Yw yS)⟩
end Hv
namespace Mx
open Me Mg Mu
noncomputable def eZ(b d:Nat)(ps:List Nat)(ws:List Int)(m:Nat):Int:=if fN (bG b m ps ws)<=d then 1 else 0
noncomputable def aR(b d:Nat)(ps:List Nat)(ws:List Int)(n:Nat):Int:=ns (eZ b d ps ws) n
noncomputable def dB(b d:Nat)(ps:List Nat)(ws:List Int)(x:fO):Int:=ns (λi=>eZ b d ps ws (rj b ps.sum x+i)) (sN b ps.sum x)
def YC(hb:0<b)(hp:0<ps.length)(SO:uw b ps.sum x)(hw:ws.length=ps.sum)(hl:gs.length=ps.length) (hg:∀i l row g,ps[i]?=some l->(Ma.ar ps ws)[i]?=some row->gs[i]?=some g->mV g (lC b x.1 x.2.1 (ps.take i).sum l) (lD b x.2.1 x.2.2 (ps.take i).sum l) (λn=>bt b n row)) (ok:∀g∈gs,fM g):mP gs d=dB b d ps ws x:=by
 rw[Mb Z ok,Yk hb SO hw hl hg];rfl
def YD(h:∀g,jt b ps.sum L g=ns g n):(L.map (dB b d ps ws)).sum=aR b d ps ws n:=by
 unfold aR;rw[<-h];rfl
end Mx
namespace Hv
open PySem L2
def YE(H:Hp)(b:Nat)(ps:List Nat)(ws:List Int)(x:Mu.fO)(ds:List Addr)(gs:List (List (Int×Int))):Prop:=mQ H ds gs/\∀(i l:Nat) (row:List Int) (g:List (Int×Int)),ps[i]?=some l->(Ma.ar ps ws)[i]?=some row->gs[i]?=some g-> Mx.mV g (Mu.lC b x.1 x.2.1 (ps.take i).sum l) (Mu.lD b x.2.1 x.2.2 (ps.take i).sum l) (λn=>Mg.bt b n row)
inductive uz(vs:List V)(H:Hp)(Q:VK)(aw:XK):Prop
 | mk:∀f A c b ps ws,∀(tl hd:Addr) (bC:List Addr) (x:Mu.fO) (d:Nat),(vs=[.ref f,.ref tl,.int d,.ref hd,.int (x.2.2:Int)])->(aU H f A c b ps ws)->(H tl=some (.lst (bC.map V.ref)))->(bC.length=ps.length)->(lE H b ps ws bC)->(H hd=some (.lst (az (Ma.aO b x.1 x.2.1 x.2.1))))->(Mu.uw b ps.sum x)->(∀H':Hp,af H H'->Q (.int (Mx.dB b d ps ws x)) H')->uz vs H Q aw
def Ml:aS ["frame","tails_by_part","d","head","end","beginnings","weights_by_part","ways_by_part","rows","weights","tails"] ["frame","tails_by_part","d","head","end"] (h_ BV):=⟨μ,μ,μ,ξ,μ,ξ,ξ⟩
def YF(F:aM K "count_begun" "count_begun" BV f fd)(T:Txt mg)(DP:ak P w K mg base 1 "part_beginnings" ["frame","head","end"] yL)(DC:ak P w K mg base 1 "cut_by_parts" ["frame","row"] qQ) (DW:ak P w K mg base 2 "ways_from_beginnings" ["rows","weights","tails"] yR) (DJ:ak P w K mg base 2 "count_spread_within" ["ways_by_part","width"] ul):aA P w K mg base aI 3 f fd ["frame","tails_by_part","d","head","end"] uz:=by
 show F.ok Ml λao A outer s H vs Q E hr h=>?_
 .obtain⟨g,A',c,b,ps,ws,tl,hd,bC,x,d,rfl,G,bP,YG,TA,rh,SO,k⟩:=h;have nd:=Ml.nd;have ok:=G.ok;have l4:=ok.l4;have l2:=ok.l2;have lm:=ok.sum;have cu:=SO.pl;show⟨_,b_ (i_ 5 (o_ DP hr.mo η (a_ (pv 0) (a_ (pv 3) (a_ (pv 4) d_))))) (b_ (i_ 6 (o_ DC hr.mo η (a_ (pv 0) (a_ (aW (pv 0) e_) d_)))) (b_ (i_ 7 (x_ d_)) (b_ (B_ PassesOwn.never μ (XI η T.zip (pv 5) (pv 6) (pv 1)) (kF μ (r_ (k_ 8) (r_ (k_ 9) (r_ (k_ 10) fj)))) (g_ (G_ (fk PySem.F.plainAttrs_list PySem.F.slot_list_append PySem.F.type_list_append K_ (pv 7) (a_ (o_ DW hr η (a_ (pv 8) (a_ (pv 9) (a_ (pv 10) d_)))) d_))))) (g_ (m_ (o_ DJ hr η (a_ (pv 7) (a_ (pv 2) d_)))))))),⟨_,μ,_,μ,_,μ,g,A',c,b,ps,ws,hd,x.1,x.2.1,x.2.2,μ,G,rh,SO.eb,Z,λbp bs H1 hbp s1 tW rm BA=>?_⟩⟩;have G1:=G.keep s1;show⟨_,μ,_,μ,_,_,_,_,μ,μ,aB.of G1.tp,μ,g,A',c,b,ps,ws,c,ws,μ,G1,G1.hw,λwp qs H2 s2 pI rows=>?_⟩;have G2:=G1.keep s2;have YH:qs.length=ps.length:=by rw[Paired.length rows,Ma.D_]
  show⟨sz ζ,λsl gS=>?_⟩;have s3:=f_ (o:=.lst []) gS;have DL:H sl=none:=s1.free (s2.free gS);have u3:(upd H2 sl (.lst [])) sl=_:=c_;have S3:af H (upd H2 sl (.lst [])):=(s1.trans s2).trans s3;have yU:af H1 (upd H2 sl (.lst [])):=s2.trans s3;generalize upd H2 sl (.lst [])=H3 at s3 u3 S3 yU⊢;show⟨_,μ,_,μ,_,μ,bp,wp,tl,μ,μ,μ,⟨_,ae.of (yU _ _ tW)⟩,⟨_,ae.of (s3 _ _ pI)⟩,⟨_,ae.of (S3 _ _ bP)⟩,XJ (K:=K) (a:=bp) (b:=wp) (c:=tl) (xs:=bs.map V.ref) (ys:=qs.map V.ref) (zs:=bC.map V.ref) (λi σ H4=>∃(ds:List Addr) (gs:List (List (Int×Int))) (v7 v8 v9:Option V),σ=[some (.ref g),some (.ref tl),some (.int d),some (.ref hd),some (.int (x.2.2:Int)),some (.ref bp),some (.ref wp),some (.ref sl),v7,v8,v9]/\(∀y ob,H3 y=some ob->y≠sl->H4 y=some ob)/\H4 sl=some (.lst (ds.map V.ref))/\ds.length=i/\YE H4 b ps ws x ds gs) (by simp[rm,YH]) (by simp[rm,YG]) ⟨[],[],none,none,none,μ,λy ob e _=>e,u3,μ,.nil,λi l row d _ _ h=>by simp at h⟩ ?_ ?_ ?_⟩
  .rintro i σ H4 _ ⟨ds,gs,v7,v8,v9,rfl,kp,_⟩;show⟨ae.of (kp _ _ (yU _ _ tW) (l_ tW (s2.free gS))),ae.of (kp _ _ (s3 _ _ pI) (l_ pI gS)),ae.of (kp _ _ (S3 _ _ bP) (l_ bP DL))⟩
  .rintro i xb xw xt σ H4 t hb hw ht ⟨ds,gs,v7,v8,v9,rfl,kp,DQ,jY,PR⟩ YI;obtain⟨br,Mm,rfl⟩:=rn hb;obtain⟨wq,DG,rfl⟩:=rn hw;obtain⟨td,YJ,rfl⟩:=rn ht;have hi:i<ps.length:=by have:=(a1I.mp Mm).1;lia
   obtain⟨l,hl⟩:∃l,ps[i]?=some l:=⟨_,a2a hi⟩;have aT:=Ma.oB ps ws i l hl;generalize er:(ws.drop (ps.take i).sum).take l=row at aT
   have cW:row.length=l:=by
    have h1:=Me.Lr ps ws ok.wl;have h2:((Ma.ar ps ws).map List.length)[i]?=some row.length:=by rw[a1O,aT];rfl
    rw[h1,hl] at h2;show(a1Q h2).symm
   have jV:row∈Ma.ar ps ws:=a1K aT;have u5:(upd H4 t (.tup [.ref br,.ref wq,.ref td])) t=_:=c_;have t5:=f_ (o:=.tup [.ref br,.ref wq,.ref td]) YI;show⟨t,_,μ,aB.of c_,μ,_,_,μ,_,_,μ,_,_,μ,μ,?_⟩;have uA:∀y ob,H3 y=some ob->y≠sl->(upd H4 t (.tup [.ref br,.ref wq,.ref td])) y=some ob:=λy ob e n=>t5 _ _ (kp y ob e n);have uB:=t5 _ _ DQ;have DU:=PR.1.keep t5;generalize upd H4 t (.tup [.ref br,.ref wq,.ref td])=H5 at u5 t5 uA uB DU⊢;have U2:af H2 H5:=λy ob e=>uA _ _ (s3 _ _ e) (l_ e gS);have U1:af H1 H5:=λy ob e=>uA _ _ (yU _ _ e) (l_ e (s2.free gS));have U0:af H H5:=λy ob e=>uA _ _ (S3 _ _ e) (l_ e DL);have G5:=G.keep U0;obtain⟨_,rs,dk,Mn,_,RD⟩:=BA i l br hl Mm
   have YK:H2 wq=some (.lst (row.map V.int)):=by
    obtain⟨fB,cf,e'⟩:=yN rows DG;rw[aT] at cf;cases cf;show e'
   obtain⟨ts,jZ,pJ,DX⟩:=TA i row td aT YJ
   have YL:0<rs.length:=by
    rw[Mn];have:=SO.e1;unfold Mu.pn;split;.decide
    .split <;> lia
   show⟨_,μ,.inl ⟨μ,_,ae.of uB⟩,_,μ,_,μ,_,μ,b,br,wq,td,rs,ts,row,Mu.pq b x.1 x.2.1 (ps.take i).sum l,Mu.pj x.2.1 (ps.take i).sum l,μ,U1 _ _ dk,U2 _ _ YK,U0 _ _ jZ,pJ,DX.keep U0,ok.b2,ok.b8,λy hy=>ok.wr y (Ma.iK jV y hy),Ma.O_ (λp hp=>(ok.pr p hp).2) jV,by rw[cW];show Mu.X0,RD.keep U1,YL,λdp g6 H6 Mo s6 h6 R6=>?_⟩;rw[cW,Mn] at R6;have YM:dp≠sl:=λz=>by rw[z,uB] at Mo;cases Mo
   have gl:gs.length=i:=by rw[<-Paired.length DU];show jY
   show⟨sl,_,_,μ,μ,s6 _ _ uB,bK (by rw[a1H];lia),ds++[dp],gs++[g6],some (.ref br),some (.ref wq),some (.ref td),μ,λy ob e n=>?_,by rw[c_,a2i];rfl,by simp[jY],?_,λm l' fB d' a1 a2 a3=>?_⟩
   .rw[j_ n];show s6 _ _ (uA y ob e n)
   .show Paired.snoc (L2.Paired.fE DU λq g e=>?_) (by rw[j_ YM];show h6);rw[j_ (λz=>by rw[z,uB] at e;cases e)];show s6 _ _ e
   .by_cases hm:m<gs.length
    .rw[a1R hm] at a3;show PR.2 m l' fB d' a1 a2 a3
    .have jR:m=i:=by
      have:=(a1I.mp a3).1;simp at this;lia
     subst jR;rw[a1V Z,gl,a3n] at a3;have e1:g6=d':=by simpa using a3
     subst e1;rw[hl] at a1;cases a1;rw[aT] at a2;cases a2;show R6
  .rintro σ H4 ⟨ds,gs,v7,v8,v9,rfl,kp,DQ,jY,PR⟩;have U0:af H H4:=λy ob e=>kp _ _ (S3 _ _ e) (l_ e DL);have YN:ds.length=ps.length:=by rw[jY,a1H,rm]
   have gl:gs.length=ps.length:=by rw[<-Paired.length PR.1];show YN
   have uC:∀g∈gs,Me.fM g:=λg hg=>by
    obtain⟨i,hi⟩:=a2H hg;have dh:i<ps.length:=by have:=(a1I.mp hi).1;lia
    show(PR.2 i ps[i] _ g (a2a dh) (Ma.oB ps ws i _ (a2a dh)) hi).ok
   show⟨_,μ,_,μ,sl,ds,gs,d,μ,DQ,PR.1,Z,Z,uC,λH' s'=>?_⟩;rw[Mx.YC (by have:=ok.b2;lia) Z SO ok.wl gl PR.2 uC];show k H' (U0.trans s')
inductive uD(vs:List V)(H:Hp)(Q:VK)(aw:XK):Prop
 | mk:∀d:Nat,(vs=[.int d])->(Q .ax H)->uD vs H Q aw
inductive yV(vs:List V)(H:Hp)(Q:VK)(aw:XK):Prop
 | mk:∀f A c b ps ws,∀(tl:Addr) (bC:List Addr) (d n:Nat),(vs=[.ref f,.ref tl,.int d,.int n])->(aU H f A c b ps ws)->(H tl=some (.lst (bC.map V.ref)))->(bC.length=ps.length)->(lE H b ps ws bC)->(n<=b ^ ps.sum)->(∀H':Hp,af H H'->Q (.int (Mx.aR b d ps ws n)) H')->yV vs H Q aw
def YO:aS ["thing"] ["thing"] (h_ BO):=⟨μ,μ,μ,ξ,μ,ξ,ξ⟩
def YQ(F:aM K "need_miss" "need_miss" BO f fd)(D1:ak P w K mg base 1 "is_whole" ["thing"] qB):aA P w K mg base aI 2 f fd ["thing"] uD:=by
 show F.ok YO λao A outer s H vs Q E hr h=>?_
 .obtain⟨d,rfl,k⟩:=h;show⟨_,g_<|E_ (PW.pt<|iY (cY<|V_<|o_ D1 hr (by rfl)<|a_ (pv 0) d_)<|kA<|t_ kH (pv 0) e_<|aY _) jb q_,(⟨_,μ,.int d,μ,.int _,_,μ,aG ⟨_,μ,_,_,μ,μ,_,μ,?_⟩⟩)⟩;have e:decide ((d:Int)<0)=false:=decide_eq_false Z;show aG k
def Mp:aS ["frame","tails_by_part","d","n"] ["frame","tails_by_part","d","n"] (h_ tL):=⟨μ,μ,μ,ξ,μ,ξ,ξ⟩
def YR(F:aM K "count_below" "count_below" tL f fd)(T:Txt mg)(DS:ak P w K mg base 9 "stretches_below" ["frame","n"] yM)(DW:ak P w K mg base 3 "count_begun" ["frame","tails_by_part","d","head","end"] uz):aA P w K mg base aI 10 f fd ["frame","tails_by_part","d","n"] yV:=by
 show F.ok Mp λao A outer s H vs Q E hr h=>?_
 .obtain⟨g,A',c,b,ps,ws,tl,bC,d,n,rfl,G,bP,jW,TA,hn,k⟩:=h;have fA:List.Nodup (["head","end","frame","tails_by_part","d"]:List Str):=by decide +kernel
  show⟨_,g_ (m_ (p_ (xS μ) η T.sum boot_sum (a_ (wJ (fr:=[0,1,2]) (qu (sc:=h_ tL) (NX:=["frame","tails_by_part","d","n"]) (k:=2) (fr:=[0,1,2]) μ μ ξ) (qv (sc:=h_ tL) (NX:=["frame","tails_by_part","d","n"]) μ ξ) μ (I_ (o_ DS hr η (a_ (pv 0) (a_ (pv 3) d_)))) (λcl C s H fp=>wT K μ μ (r_ (k_ 0 (hN:=fA)) (r_ (k_ 1 (hN:=fA)) fj))) By (λcl C s H fp=>fm) (λcl C s H fp=>o_ DW hr.mo η (a_ (pv 2) (a_ (pv 3) (a_ (pv 4) (a_ (pv 0) (a_ (pv 1) d_))))))) d_))),(⟨_,μ,_,μ,g,A',c,b,ps,ws,n,μ,G,hn,λp ts L H6 hp s6 yW PR hL SO hg=>⟨p,μ,⟨_,ae.of yW⟩,S_ (K:=K) (a:=p) (xs:=ts.map V.ref) (λi ys H7=>ys=((L.take i).map (Mx.dB b d ps ws)).map V.int/\af H6 H7) ⟨θ,af.refl _⟩ (λi ys H7 _ q=>ae.of (q.2 _ _ yW)) ?_ ?_⟩⟩)⟩
  .rintro i x ys H7 hx ⟨rfl,s7⟩;obtain⟨t,ht,rfl⟩:=rn hx;obtain⟨x',lj,hh,h1,h2⟩:=yN PR ht;have S7:=s6.trans s7;show⟨bK (by rw[a1H,a1H,a2d];lia),t,_,μ,aB.of (s7 _ _ h1),μ,_,_,μ,_,_,μ,μ,_,μ,_,μ,_,μ,_,μ,_,μ,g,A',c,b,ps,ws,tl,hh,bC,x',d,μ,G.keep S7,S7 _ _ bP,jW,TA.keep S7,s7 _ _ h2,SO x' (a1K lj),λH8 s8=>⟨?_,s7.trans s8⟩⟩;rw[a1P,lj];simp
  .rintro ys H7 ⟨rfl,s7⟩ wl cO;have el:(ts.map V.ref).length=L.length:=by rw[a1H,Paired.length PR]
   rw[el,a1T];show⟨wl,_,μ,ae.of c_,?_⟩;rw[Mx.YD hg];show k _ (s6.trans (s7.trans (f_ cO)))
end Hv
namespace Mx
open Me Mg Mu
def uE(b d:Nat)(ps:List Nat)(ws:List Int)(m:Nat):eZ b d ps ws m=0\/eZ b d ps ws m=1:=by
 unfold eZ;split;.show .inr μ
 .show .inl μ
def lF(b d:Nat)(ps:List Nat)(ws:List Int)(n:Nat):aR b d ps ws (n+1)=aR b d ps ws n+eZ b d ps ws n:=rfl
def YS(b d:Nat)(ps:List Nat)(ws:List Int)(n:Nat):0<=aR b d ps ws n:=Dq λi _=>by rcases uE b d ps ws i with h | h <;> lia
def YT(b d:Nat)(ps:List Nat)(ws:List Int)(n:Nat):aR b d ps ws n<=n:=by
 have h:=Dr (g:=eZ b d ps ws) (h:=λ_=>1) (n:=n) λi _=>by rcases uE b d ps ws i with h | h <;> lia
 rw[yK,a5n] at h;show h
theorem Mr(b d:Nat)(ps:List Nat)(ws:List Int)(n:Nat):∀m,aR b d ps ws n<=aR b d ps ws (n+m)
 | 0=>a2U _
 | m+1=>by
  have:=Mr b d ps ws n m;rw[<-a3c,lF];rcases uE b d ps ws (n+m) with h | h <;> lia
def yX(b d:Nat)(ps:List Nat)(ws:List Int)(a pl e:Nat):aR b d ps ws (a*b ^ (ps.sum-pl)+e*b ^ (ps.sum-pl-1))=aR b d ps ws (a*b ^ (ps.sum-pl))+dB b d ps ws (a,pl,e):=by
 unfold aR dB;rw[re]
def YU(b d:Nat)(ps:List Nat)(ws:List Int)(a pl:Nat):dB b d ps ws (a,pl,0)=0:=by
 have:=yX b d ps ws a pl 0;rw[a3j,a3h] at this;lia
def Ms{b S i:Nat}(hi:i<S):b ^ (S-i)=b*b ^ (S-i-1):=by
 rw[show S-i=(S-i-1)+1 by lia,a2S,a2D];rfl
def YV{b d S a i fg r r' k:Nat}(hS:ps.sum=S)(hi:i<S)(h1:aR b d ps ws (a*b ^ (S-i))+r=k)(h3:dB b d ps ws (a,i,fg)+r'=r)(h4:(r:Int)<dB b d ps ws (a,i,fg+1)) : aR b d ps ws ((a*b+fg)*b ^ (S-(i+1)))+r'=k/\(k:Int)<aR b d ps ws ((a*b+fg)*b ^ (S-(i+1))+b ^ (S-(i+1))):=by
 subst hS
 have e1:(a*b+fg)*b ^ (ps.sum-(i+1))=a*b ^ (ps.sum-i)+fg*b ^ (ps.sum-i-1):=by
  rw[Ms hi,a2F,a2P];rfl
 have e2:(a*b+fg)*b ^ (ps.sum-(i+1))+b ^ (ps.sum-(i+1))=a*b ^ (ps.sum-i)+(fg+1)*b ^ (ps.sum-i-1):=by
  rw[e1,a2F fg 1,a3J,a3c];rfl
 rw[e2,e1,yX,yX];lia
def YW{b d S a i r k:Nat}(hS:ps.sum=S)(hi:i<S)(h1:aR b d ps ws (a*b ^ (S-i))+r=k)(h2:(k:Int)<aR b d ps ws (a*b ^ (S-i)+b ^ (S-i))):(r:Int)<dB b d ps ws (a,i,b):=by
 subst hS;have:=yX b d ps ws a i b;rw[<-Ms hi] at this;lia
end Mx
namespace Hv
open PySem L2
inductive yY(vs:List V)(H:Hp)(Q:VK)(aw:XK):Prop
 | mk:∀f A c b ps ws,∀(tl hd:Addr) (bC:List Addr) (a pl d k:Nat),(vs=[.ref f,.ref tl,.int d,.ref hd,.int k])->(aU H f A c b ps ws)->(H tl=some (.lst (bC.map V.ref)))->(bC.length=ps.length)->(lE H b ps ws bC)->(H hd=some (.lst (az (Ma.aO b a pl pl))))->(pl<ps.sum)->(a<b ^ pl)->((k:Int)<Mx.dB b d ps ws (a,pl,b))->(∀(t:Addr) (fg r:Nat) (H':Hp),af H H'->H' t=some (.tup [.int fg,.int r])->fg<b->Mx.dB b d ps ws (a,pl,fg)+r=k->(k:Int)<Mx.dB b d ps ws (a,pl,fg+1)->Q (.ref t) H')->yY vs H Q aw
inductive yZ(vs:List V)(H:Hp)(Q:VK)(aw:XK):Prop
 | mk:∀f A c b ps ws,∀(tl:Addr) (bC:List Addr) (d k:Nat),(vs=[.ref f,.ref tl,.int d,.int k])->(aU H f A c b ps ws)->(H tl=some (.lst (bC.map V.ref)))->(bC.length=ps.length)->(lE H b ps ws bC)->((∀H':Hp,af H H'->Mx.aR b d ps ws (b ^ ps.sum)<=k->Q .ax H'))->(∀(m:Nat) (H':Hp),af H H'->m<b ^ ps.sum->Mx.eZ b d ps ws m=1->Mx.aR b d ps ws m=k->Q (.int m) H')->yZ vs H Q aw
def Mt:aS ["frame","tails_by_part","d","head","k","figure","passed","beyond","middle","count"] ["frame","tails_by_part","d","head","k"] (h_ BW):=⟨μ,μ,μ,ξ,μ,ξ,ξ⟩
def YX(F:aM K "figure_and_rest" "figure_and_rest" BW f fd)(DB:ak P w K mg base 3 "count_begun" ["frame","tails_by_part","d","head","end"] uz):aA P w K mg base aI 4 f fd ["frame","tails_by_part","d","head","k"] yY:=by
 show F.ok Mt λao A outer s H vs Q E hr h=>?_
 .obtain⟨g,A',c,b,ps,ws,tl,hd,bC,a,pl,d,n,rfl,G,bP,jW,TA,rh,cu,ha,hn,k⟩:=h;have nd:=Mt.nd;have ok:=G.ok;have b2:=ok.b2;show⟨_,b_ (i_ 5 e_) (b_ (i_ 6 e_) (b_ (i_ 7 (aW (pv 0) e_)) (b_ (RB PassesOwn.never (t_ mh (n_ R_ (pv 7) (pv 5)) e_ (aY _)) (b_ (i_ 8 (n_ vX (n_ u_ (pv 5) (pv 7)) e_)) (b_ (i_ 9 (o_ DB hr η (a_ (pv 0) (a_ (pv 1) (a_ (pv 2) (a_ (pv 3) (a_ (pv 8) d_))))))) (g_ (E_ (t_ jG (pv 9) (pv 4) (aY _)) (b_ (i_ 5 (pv 8)) (g_ (i_ 6 (pv 9)))) (g_ (i_ 7 (pv 8)))))))) (g_ (m_ (dJ (a_ (pv 5) (a_ (n_ R_ (pv 4) (pv 6)) d_)))))))),?_⟩;have e0:=Mx.YU b d ps ws a pl;show⟨_,μ,_,_,_,_,μ,μ,aB.of G.tp,μ,(⟨λmu σ H'=>∃(fg be:Nat) (v8 v9:Option V),σ=[some (.ref g),some (.ref tl),some (.int d),some (.ref hd),some (.int n),some (.int fg),some (.int (Mx.dB b d ps ws (a,pl,fg))),some (.int be),v8,v9]/\mu=be-fg/\fg<be/\be<=b/\af H H'/\Mx.dB b d ps ws (a,pl,fg)<=n/\(n:Int)<Mx.dB b d ps ws (a,pl,be), ⟨_,0,b,none,none,by rw[e0];rfl,μ,Z,a1M _,af.refl _,by rw[e0];lia,hn⟩,?_⟩)⟩;rintro mu σ H1 ⟨fg,be,v8,v9,rfl,rfl,hfb,ki,s1,c1,c2⟩;show⟨_,μ,_,μ,_,_,μ,μ,_,_,μ,μ,_,μ,dQ (λaL=>?_) (λYY=>?_)⟩
  .show⟨λaJ H'=>∃(mX mY:Nat) (v8 v9:Option V),aJ=[some (.ref g),some (.ref tl),some (.int d),some (.ref hd),some (.int n),some (.int mX),some (.int (Mx.dB b d ps ws (a,pl,mX))),some (.int mY),v8,v9]/\mY - mX<be-fg/\mX<mY/\mY<=b/\af H H'/\Mx.dB b d ps ws (a,pl,mX)<=n/\(n:Int)<Mx.dB b d ps ws (a,pl,mY), λaJ H' h=>by obtain⟨mX,mY,v8,v9,h1,h2,h3,h4,h5,h6,h7⟩:=h;show⟨mY - mX,h2,mX,mY,v8,v9,h1,μ,h3,h4,h5,h6,h7⟩,?_⟩;have em:((fg:Int)+(be:Int)) / 2=(((fg+be) / 2:Nat):Int):=by lia
   show⟨_,μ,_,μ,_,_,μ,μ,_,_,μ,μ,⟨ζ,ζ⟩,?_⟩;rw[em];generalize hmd:(fg+be) / 2=md;have jK:fg<md:=by lia
   have gL:md<be:=by lia
   show⟨_,μ,_,μ,_,μ,_,μ,_,μ,g,A',c,b,ps,ws,tl,hd,bC,(a,pl,md),d,μ,G.keep s1,s1 _ _ bP,jW,TA.keep s1,s1 _ _ rh,⟨cu,by change 1<=md;lia,by change md<=b;lia,ha⟩,λH2 s2=>⟨_,μ,_,μ,_,_,μ,μ,_,μ,dQ (λgq=>?_) (λmG=>?_)⟩⟩
   .have YZ:Mx.dB b d ps ws (a,pl,md)<=(n:Int):=of_decide_eq_true gq;show⟨_,μ,_,μ,md,be,_,_,μ,Z,gL,ki,s1.trans s2,YZ,c2⟩
   .have DY:¬ Mx.dB b d ps ws (a,pl,md)<=(n:Int):=λz=>mG (decide_eq_true z);show⟨_,μ,fg,md,_,_,μ,Z,jK,Z,s1.trans s2,c1,Z⟩
  .have a1x:¬ (1:Int)<(be:Int)-fg:=λz=>YY (decide_eq_true z);have Y0:be=fg+1:=by lia
   subst Y0;obtain⟨r,cf⟩:∃r:Nat,(n:Int)-Mx.dB b d ps ws (a,pl,fg)=(r:Int):=⟨((n:Int)-Mx.dB b d ps ws (a,pl,fg)).toNat,Z⟩;show⟨_,μ,_,μ,_,μ,_,_,μ,μ,sz θ,λt ht=>?_⟩;try dsimp only
   rw[cf];show k t fg r _ (s1.trans (f_ ht)) c_ Z Z c2
def Mv:aS ["frame","tails_by_part","d","k","head","rest","place","found"] ["frame","tails_by_part","d","k"] (h_ BY):=⟨μ,μ,μ,ξ,μ,ξ,ξ⟩
def Y1(F:aM K "number_at" "number_at" BY f fd)(T:Txt mg)(D6:ak P w K mg base 6 "how_many" ["frame"] kX)(DB:ak P w K mg base 10 "count_below" ["frame","tails_by_part","d","n"] yV)(DF:ak P w K mg base 4 "figure_and_rest" ["frame","tails_by_part","d","head","k"] yY) (DN:ak P w K mg base 1 "number_of" ["base","figures"] yv):aA P w K mg base aI 11 f fd ["frame","tails_by_part","d","k"] yZ:=by
 show F.ok Mv λao A outer s H vs Q E hr h=>?_
 .obtain⟨g,A',c,b,ps,ws,tl,bC,d,n,rfl,G,bP,jW,TA,k1,k2⟩:=h;have nd:=Mv.nd;have ok:=G.ok;have b2:=ok.b2;have lm:=ok.sum;have b0:0<b:=by lia
  show⟨_,b_ (E_ (t_ vZ (pv 3) (o_ DB hr η (a_ (pv 0) (a_ (pv 1) (a_ (pv 2) (a_ (o_ D6 hr.mo η (a_ (pv 0) d_)) d_))))) (aY _)) (g_ (m_ cX)) q_) (b_ (i_ 4 (x_ d_)) (b_ (i_ 5 (pv 3)) (b_ (B_ PassesOwn.never μ (z_ η T.range (a_ (dw T.len η (aW (pv 0) e_)) d_)) (k_ 6) (b_ (i_ 7 (o_ DF hr.mo η (a_ (pv 0) (a_ (pv 1) (a_ (pv 2) (a_ (pv 4) (a_ (pv 5) d_))))))) (b_ (i_ 4 (n_ mt (pv 4) (x_ (a_ (aW (pv 7) e_) d_)))) (g_ (i_ 5 (aW (pv 7) e_)))))) (g_ (m_ (o_ DN hr.mo η (a_ (aW (pv 0) e_) (a_ (pv 4) d_)))))))),⟨_,μ,_,μ,_,μ,_,μ,_,μ,g,A',c,b,ps,ws,μ,G,λH1 s1=>?_⟩⟩;show⟨g,A',c,b,ps,ws,tl,bC,d,b ^ ps.sum,μ,G.keep s1,s1 _ _ bP,jW,TA.keep s1,a1M _,λH2 s2=>?_⟩;have S2:=s1.trans s2;show⟨_,_,μ,μ,_,μ,dQ (λgq=>?_) (λmG=>?_)⟩;.show k1 H2 S2 (of_decide_eq_true gq)
  have DY:¬ Mx.aR b d ps ws (b ^ ps.sum)<=(n:Int):=λz=>mG (decide_eq_true z);show⟨sz ζ,λh0 Y2=>?_⟩;have s3:=f_ (o:=.lst []) Y2;have u3:(upd H2 h0 (.lst [])) h0=some (.lst (az (Ma.aO b 0 0 0))):=c_;have S3:=S2.trans s3;generalize upd H2 h0 (.lst [])=H3 at s3 u3 S3⊢;have G3:=G.keep S3;have cO:=ok.wl;show⟨_,μ,_,μ,_,_,_,_,μ,μ,aB.of G3.tp,μ,c,_,μ,.inl (ae.of G3.hw),_,μ,by rw[a1H];lia,by rw[a1H];lia,H_ (λi σ H4=>∃(h:Addr) (a r:Nat) (v6 v7:Option V),σ=[some (.ref g),some (.ref tl),some (.int d),some (.int n),some (.ref h),some (.int r),v6,v7]/\af H H4/\H4 h=some (.lst (az (Ma.aO b a i i)))/\a<b ^ i/\Mx.aR b d ps ws (a*b ^ (ps.sum-i))+r=n/\(n:Int)<Mx.aR b d ps ws (a*b ^ (ps.sum-i)+b ^ (ps.sum-i))) ⟨h0,0,n,none,none,μ,S3,u3,θ,by rw[a3j];change(0:Int)+n=n;lia,by rw[a3j,a3I,a3O];lia⟩ ?_ ?_⟩
  .rintro i σ H4 hi ⟨h,a,r,v6,v7,rfl,s4,hh,ha,e1,e2⟩;have dh:i<ps.sum:=by rw[a1H,cO] at hi;lia
   show⟨_,μ,_,μ,_,μ,_,μ,_,μ,g,A',c,b,ps,ws,tl,h,bC,a,i,d,r,μ,G.keep s4,s4 _ _ bP,jW,TA.keep s4,hh,dh,ha,Mx.YW μ dh e1 e2,λt fg r' H5 s5 ht Y3 h3 h4=>⟨_,μ,_,μ,_,_,_,_,μ,μ,aB.of ht,μ,sz θ,λq hq=>?_⟩⟩;have s6:=f_ (o:=.lst [V.int (fg:Int)]) hq;have u6:(upd H5 q (.lst [V.int (fg:Int)])) q=_:=c_;generalize upd H5 q (.lst [V.int (fg:Int)])=H6 at s6 u6⊢;show⟨h,q,_,_,μ,μ,s6 _ _ (s5 _ _ hh),u6,bK (by rw[az,a1H,Ma.fL];lia),λz hz=>?_⟩;have s7:=f_ (o:=.lst (az (Ma.aO b a i i)++[V.int (fg:Int)])) hz;show⟨_,μ,_,_,_,_,μ,μ,aB.of (s7 _ _ (s6 _ _ ht)),μ,z,a*b+fg,r',_,_,μ,s4.trans (s5.trans (s6.trans s7)),?_,?_,?_⟩
   .rw[c_,Mg.Dk b a fg i Y3];simp[az]
   .rw[a2S];have:(a+1)*b<=b ^ i*b:=a2z _ ha;rw[a2F,a3J] at this;lia
   .show Mx.YV μ dh e1 h3 h4
  .rintro σ H4 ⟨h,a,r,v6,v7,rfl,s4,hh,ha,e1,e2⟩;have el:(((ws.map V.int).length:Nat):Int).toNat=ps.sum:=by rw[a1H,cO];lia
   rw[el] at hh ha e1 e2;rw[a3n,a3u,a5r] at e1 e2;rw[Mx.lF] at e2;have G4:=G.keep s4;show⟨_,μ,_,_,_,_,μ,μ,aB.of G4.tp,μ,_,μ,b,h,_,μ,ok.b8,hh,?_⟩;rw[Ma.WY b0 ha];have:=Mx.uE b d ps ws a;show k2 a H4 s4 ha Z Z
inductive uF(K:PySem.W.Frag)(vs:List V)(H:Hp)(Q:VK)(aw:XK):Prop
 | mk:∀(a:Addr) (ns:List Int),(vs=[.ref a])->(ae K H a (ns.map V.int))->(ns.length<=63)->(∀H',Q (.bl true) H')->uF K vs H Q aw
noncomputable def uG(b:Nat)(ps:List Nat)(ws:List Int):PyData:=.tuple [.int b,.list ((ps.map λ(p:Nat)=>(p:Int)).map PyData.int),.list (ws.map PyData.int)]
def y0(b:Nat)(ps:List Nat)(ws:List Int):(uG b ps ws).canLay0=true:=by simp only[uG,PyData.canLay0,PyData.canLayAll0,Bp,Bool.and_self]
def y4(b:Nat)(ps:List Nat)(ws:List Int):(uG b ps ws).depth<=60:=by
 simp only[uG,PyData.depth,PyData.depthAll,Bq];decide
def aU.dat(G:aU H f a c b ps ws):gm P w H (.ref f) (uG b ps ws) := qy G.tp (.cons (iJ _)<|.cons (gK G.hp<|by rw[Bz];show tD _)<|.cons (gK G.hw<|tD _) .nil)
end Hv
namespace Mx
open Me Mg Mu
theorem Mw{b:Nat}:∀ {gs:List (List (Int×Int))} {rows:List (List Int)},PySem.Paired (λg row=>List.Perm g (aN b row)) gs rows->∀F:List Int->Int,cH gs F=tr b rows F
 | _,_,.nil,_=>rfl
 | _,_,.cons r t,F=>by
  change tg _ _=tg _ _;rw[Mf r];show F_ λx=>Mw t _
def My(hb:0<b)(lp:0<ps.length)(hw:ws.length=ps.sum)(h:PySem.Paired (λg row=>List.Perm g (aN b row)) gs (Ma.ar ps ws))(ok:∀g∈gs,fM g)(d:Nat):mP gs d=aR b d ps ws (b ^ ps.sum):=by
 have hl:gs.length=ps.length:=by rw[h.length,Ma.D_]
 rw[Mb Z ok,Mw h,<-yF hb ps ws _ hw];rfl
def Mz(hb:0<b)(lp:0<ps.length)(hw:ws.length=ps.sum)(h0:(Ma.ar ps ws)[0]?=some row):cD (dM b (Ma.ar ps ws) (keys (aN b row)))=aR b 0 ps ws (b ^ ps.sum):=by
 rw[<-XR hb h0,<-XT hb hw lp];rfl
def MA(hb:1<=b)(ow:b<=16)(hw:∀x∈row,-9<=x/\x<=9)(hl:row.length<=6)(h:g.Perm (aN b row)):fM g:=by
 have rp:=qP hw ow;have hk:(keys g).Perm _:=h.map _;show⟨by rw[hk.length_eq];show C3 hb row,hk.nodup_iff.mpr rp.nd,λk pK=>?_,λt=>?_⟩
 .have:=rp.bd k (hk.mem_iff.mp pK);lia
 .have e:=KB h rp.nd t;have:=yf ow hl t;unfold gv;rw[e];show this
def MB:eZ b d ps ws n=1↔Hv.spread (Hv.mK b n ps ws)<=d:=by
 have e:Hv.spread _=fN (bG b n ps ws):=rfl;rw[e];unfold eZ;constructor;.simp_all
 .intro h;rw[if_pos h]
end Mx
namespace Hv
open PySem L2
inductive y6(vs:List V)(H:Hp)(Q:VK)(aw:XK):Prop
 | mk:∀d:Nat,(vs=[.int d])->(Q .ax H)->y6 vs H Q aw
def y7:Sp:=λvs H Q _=>∃f A c b ps ws,∃d k:Nat,vs=[.ref f,.int d,.int k]/\aU H f A c b ps ws/\(∀H':Hp,af H H'->Mx.aR b d ps ws (b ^ ps.sum)<=k->Q .ax H')/\∀(m:Nat) (H':Hp),af H H'->m<b ^ ps.sum->Mx.eZ b d ps ws m=1->Mx.aR b d ps ws m=k->Q (.int m) H'
def MC:Sp:=λvs H Q _=>∃f A c b ps ws,∃k:Nat,vs=[.ref f,.int k]/\aU H f A c b ps ws/\(∀H':Hp,af H H'->Mx.aR b 0 ps ws (b ^ ps.sum)<=k->Q .ax H')/\∀(m:Nat) (H':Hp),af H H'->m<b ^ ps.sum->Mx.eZ b 0 ps ws m=1->Mx.aR b 0 ps ws m=k->Q (.int m) H'
def Y4:aS ["thing"] ["thing"] (h_ BT):=⟨μ,μ,μ,ξ,μ,ξ,ξ⟩
def Y5(F:aM K "need_place" "need_place" BT f fd)(D1:ak P w K mg base 1 "is_whole" ["thing"] qB):aA P w K mg base aI 2 f fd ["thing"] y6:=by
 show F.ok Y4 λao A outer s H vs Q E hr h=>?_
 .obtain⟨d,rfl,k⟩:=h;show⟨_,g_<|E_ (PW.pt<|iY (cY<|V_<|o_ D1 hr (by rfl)<|a_ (pv 0) d_)<|kA<|t_ kH (pv 0) e_<|aY _) jb q_,(⟨_,μ,.int d,μ,.int _,_,μ,aG ⟨_,μ,_,_,μ,μ,_,μ,?_⟩⟩)⟩;have e:decide ((d:Int)<0)=false:=decide_eq_false Z;show aG k
def Y6:aS ["frame","d","k"] ["frame","d","k"] (h_ B0):=⟨μ,μ,μ,ξ,μ,ξ,ξ⟩
def MD(F:aM K "near_by" "near_by" B0 f fd)(D5:ak P w K mg base 5 "need_frame" ["thing"] kT)(DM:ak P w K mg base 2 "need_miss" ["thing"] uD)(D7:ak P w K mg base 2 "need_place" ["thing"] y6) (DT:ak P w K mg base 4 "tails_of_parts" ["frame"] yQ) (DA:ak P w K mg base 11 "number_at" ["frame","tails_by_part","d","k"] yZ):aA P w K mg base aI 12 f fd ["frame","d","k"] y7:=by
 show F.ok Y6 λao A outer s H vs Q E hr h=>?_
 .obtain⟨g,A',c,b,ps,ws,d,n,rfl,G,k1,k2⟩:=h;show⟨_,b_ (G_<|o_ D5 hr.mo (by rfl)<|a_ (pv 0) d_) <|b_ (G_<|o_ DM hr.mo (by rfl)<|a_ (pv 1) d_) <|b_ (G_<|o_ D7 hr.mo (by rfl)<|a_ (pv 2) d_) <|g_<|m_<|o_ DA hr (by rfl)<|a_ (pv 0)<|a_ (o_ DT hr.mo (by rfl)<|a_ (pv 0) d_)<|a_ (pv 1)<|a_ (pv 2) d_,(⟨_,μ,g,A',c,b,ps,ws,μ,G,λH1 s1=>⟨_,μ,d,μ,?_⟩⟩)⟩;show⟨_,μ,n,μ,⟨_,μ,_,μ,g,A',c,b,ps,ws,μ,G.keep s1,λp bC H3 hp s3 h3 jW TA=>?_⟩⟩;have S3:=s1.trans s3;show⟨_,μ,_,μ,g,A',c,b,ps,ws,p,bC,d,n,μ,G.keep S3,h3,jW,TA,λH' s' h=>k1 H' (S3.trans s') h,λm H' s' h1 h2 h3=>k2 m H' (S3.trans s') h1 h2 h3⟩
def Y7:aS ["frame","k"] ["frame","k"] (h_ BZ):=⟨μ,μ,μ,ξ,μ,ξ,ξ⟩
def Y8(F:aM K "even_by" "even_by" BZ f fd)(DB:ak P w K mg base 12 "near_by" ["frame","d","k"] y7):aA P w K mg base aI 13 f fd ["frame","k"] MC:=by
 show F.ok Y7 λao A outer s H vs Q E hr h=>?_
 .obtain⟨g,A',c,b,ps,ws,n,rfl,G,k⟩:=h;show⟨_,g_<|m_<|o_ DB hr (by rfl)<|a_ (pv 0)<|a_ e_<|a_ (pv 1) d_,⟨_,μ,_,μ,g,A',c,b,ps,ws,0,n,μ,G,k⟩⟩
inductive mZ(vs:List V)(H:Hp)(Q:VK)(aw:XK):Prop
 | mk:∀f a c b ps ws,∀d:Nat,(vs=[.ref f,.int d])->(aU H f a c b ps ws)->(∀H',af H H'->Q (.int (Mx.aR b d ps ws (b ^ ps.sum))) H')->mZ vs H Q aw
inductive lG(vs:List V)(H:Hp)(Q:VK)(aw:XK):Prop
 | mk:∀f a c b ps ws,(vs=[.ref f])->(aU H f a c b ps ws)->(∀H',af H H'->Q (.int (Mx.aR b 0 ps ws (b ^ ps.sum))) H')->lG vs H Q aw
theorem DZ{H:Hp}{b:Nat}:∀ {qs:List Addr} {rows:List (List Int)},qU H b qs rows->∃gs:List (List (Int×Int)),mQ H qs gs/\Paired (λg row=>List.Perm g (Me.aN b row)) gs rows
 | _,_,.nil=>⟨[],.nil,.nil⟩
 | _,_,.cons r t=>by
  obtain⟨g,e,p⟩:=r;obtain⟨gs,h1,h2⟩:=DZ t;show⟨g::gs,.cons e h1,.cons p h2⟩
theorem D9{α β:Type}{F:α->β->Prop}:∀ {xs:List α} {ys:List β},Paired F xs ys->∀x∈xs,∃y,y∈ys/\F x y
 | _,_,.nil,_,h=>by simp at h
 | _,_,.cons r t,x,h=>by
  rcases a1L.mp h with rfl | h;.show⟨_,θ,r⟩
  .obtain⟨y,hy,e⟩:=D9 t x h;show⟨y,by simp[hy],e⟩
def Y9:aS ["frame","d"] ["frame","d"] (h_ BR):=⟨μ,μ,μ,ξ,μ,ξ,ξ⟩
def Y'(F:aM K "count_near" "count_near" BR f fd)(D5:ak P w K mg base 5 "need_frame" ["thing"] kT)(DM:ak P w K mg base 2 "need_miss" ["thing"] uD)(DW:ak P w K mg base 3 "ways_of_parts" ["frame"] ug) (DS:ak P w K mg base 2 "count_spread_within" ["ways_by_part","width"] ul):aA P w K mg base aI 6 f fd ["frame","d"] mZ:=by
 show F.ok Y9 λao A outer s H vs Q E hr h=>?_
 .obtain⟨g,a,c,b,ps,ws,d,rfl,G,k⟩:=h;have ok:=G.ok;have b0:0<b:=by have:=ok.b2;lia
  have l2:=ok.l2;have l4:=ok.l4;show⟨_,b_ (G_<|o_ D5 hr (by rfl)<|a_ (pv 0) d_) <|b_ (G_<|o_ DM hr.mo (by rfl)<|a_ (pv 1) d_) <|g_<|m_<|o_ DS hr.mo (by rfl)<|a_ (o_ DW hr.mo (by rfl)<|a_ (pv 0) d_)<|a_ (pv 1) d_,(⟨_,μ,g,a,c,b,ps,ws,μ,G,λH1 s1=>⟨_,μ,d,μ,?_⟩⟩)⟩;show⟨_,μ,g,a,c,b,ps,ws,μ,G.keep s1,λp qs H2 s2 hp h2 wa=>?_⟩;obtain⟨gs,wg,pg⟩:=DZ wa;have gl:gs.length=ps.length:=by rw[pg.length,Ma.D_]
  have uC:∀g∈gs,Me.fM g:=λg hg=>by
   obtain⟨row,aT,perm⟩:=D9 pg g hg;show Mx.MA b0 ok.b8 (λy hy=>ok.wr y<|Ma.iK aT y hy) (Ma.O_ (λp hp=>(ok.pr p hp).2) aT) perm
  show⟨_,μ,p,qs,gs,d,μ,h2,wg,Z,Z,uC,λH' s'=>?_⟩;rw[Mx.My b0 Z ok.wl pg uC];show k H'<|s1.trans<|s2.trans s'
def Za:aS ["frame"] ["frame"] (h_ BN):=⟨μ,μ,μ,ξ,μ,ξ,ξ⟩
def Zb(F:aM K "count_even" "count_even" BN f fd)(T:Txt mg)(DE:ak P w K mg base 6 "even_by_sums" ["frame"] yh):aA P w K mg base aI 7 f fd ["frame"] lG:=by
 show F.ok Za λao A outer s H vs Q E hr h=>?_
 .obtain⟨g,a,c,b,ps,ws,rfl,G,k⟩:=h;have ok:=G.ok;have b0:0<b:=by have:=ok.b2;lia
  have l2:=ok.l2;show⟨_,g_<|m_<|VG μ T.sum (by rfl)<|o_ DE hr (by rfl)<|a_ (pv 0) d_,(⟨_,μ,g,a,c,b,ps,ws,μ,G,λp g' H1 hp s1 iS ⟨row,aT,perm⟩=>⟨p,_,g'.map (·.2),μ,iS,(by simp[ay]),?_⟩⟩)⟩;have e:=Me.WF perm;change Q (.int<|Me.cD g') H1;rw[e,Mx.Mz b0 Z ok.wl aT];show k H1 s1
end Hv
namespace Mx
open Me Mg Mu
def Mk(e:Nat->Int):Prop:=∀i,e i=0\/e i=1
end Mx
namespace Ma
def Zc(b L:Nat):aO b 0 L L=List.replicate L 0:=by
 apply List.ext_getElem;.simp[aO]
 .intro i h1 h2;simp[aO]
theorem ME:∀(L:Nat) (ws:List Int),List.zipWith (λ(d:Nat) (x:Int)=>(d:Int)*x) (List.replicate L 0) ws=List.replicate (min L ws.length) 0
 | 0,ws=>by simp
 | L+1,[]=>by simp
 | L+1,x::r=>by
  rw[a2L,List.zipWith_cons_cons,ME L r,a2s,show min _ (r.length+1)=min L r.length+1 by lia,a2L];simp
def Ze(ps:List Nat):∀k:Nat,jk ps (List.replicate k 0)=List.replicate ps.length 0:=by
 induction ps with
 | nil=>intro k;rfl
 | cons p ps ih =>
  intro k;have:=ih (k-p);unfold jk at this⊢;simp only[ar,a2f,List.take_replicate,List.drop_replicate,a2s,a2L];rw[this];simp
def Zf(h:0<n):aP (List.replicate n x)=x/\aK (List.replicate n x)=x:=by
 have hm:x∈List.replicate n x:=List.mem_replicate.mpr ⟨Z,μ⟩;show⟨(wQ hm λy hy=>by rw[a4e hy];show a2U _).symm,(wR hm λy hy=>by rw[a4e hy];show a2U _).symm⟩
end Ma
namespace Mx
open Me Mg Mu
def uH(h:m<=n):aR b d ps ws m<=aR b d ps ws n:=by
 have:=Mr b d ps ws m (n-m);rw[show m+(n-m)=n by lia] at this;show this
def Zg(h1:eZ b d ps ws m=1)(h2:eZ b d ps ws n=1)(h:aR b d ps ws m=aR b d ps ws n):m=n:=by
 have e1:=lF b d ps ws m;have e2:=lF b d ps ws n;rcases Nat.lt_trichotomy m n with z | z | z
 .have:=uH (b:=b) (d:=d) (ps:=ps) (ws:=ws) (show m+1<=n by lia);lia
 .show z
 .have:=uH (b:=b) (d:=d) (ps:=ps) (ws:=ws) (show n+1<=m by lia);lia
def Zh(qx:0<b)(hb:b<=16)(hw:∀x∈ws,-9<=x/\x<=9):∀y∈Ma.dR b n L ws,-135<=y/\y<=135:=by
 intro y hy;unfold Ma.dR at hy;obtain⟨i,hi⟩:=a2H hy;rw[a4D] at hi
 cases e1:(Ma.aO b n L L)[i]? with
 | none=>rw[e1] at hi;cases hi
 | some g =>
  cases e2:ws[i]? with
  | none=>rw[e1,e2] at hi;cases hi
  | some x =>
   rw[e1,e2] at hi;have hg:=Ma.Jg qx (a1K e1);have hx:=hw x (a1K e2);have:=xQ (m:=0) (x:=0) ⟨ζ,ζ⟩ hx hb hg;lia
theorem MF:∀ {l:List Int},(∀y∈l,-135<=y/\y<=135)->-(135*(l.length:Int))<=l.sum/\l.sum<=135*(l.length:Int)
 | [],_=>⟨ζ,ζ⟩
 | x::l,h=>by
  have h1:=h x θ;have h2:=MF (l:=l) λy hy=>h y<|by simp[hy]
  rw[a2b,a2s];push_cast;lia
end Mx
namespace Hv
open PySem L2
def Ea(ok:fX b ps ws):∀x∈mK b n ps ws,-810<=x/\x<=810:=λx hx=>by
 obtain⟨row,aT,rfl⟩:=a1U.mp hx;have h1:=Ma.O_ (λp hp=>(ok.pr p hp).2) aT;have h2:=Mx.MF λy hy=>Mx.Zh (by have:=ok.b2;lia) ok.b8 ok.wr y<|Ma.iK aT y hy;lia
def Zi(ok:fX b ps ws):0<=spread (mK b n ps ws)/\spread (mK b n ps ws)<=1620:=by
 have hl:=V1 (n:=n) ok;obtain⟨a1,a2⟩:=Ma.w_ _ hl;obtain⟨b1,b2⟩:=Ma.v_ _ hl;have c1:=Ea ok _ a1;have c2:=Ea ok _ b1;have:=a2 _ b1;unfold spread;lia
def Zj(ok:fX b ps ws):spread (mK b 0 ps ws)=0:=by
 have e:mK b 0 ps ws=List.replicate ps.length 0:=by
  change Ma.jk ps _=_;unfold Ma.dR;rw[Ma.Zc,Ma.ME,Ma.Ze]
 have l2:=ok.l2;have z:=Ma.Zf (n:=ps.length) (x:=0) Z;unfold spread;rw[e,z.1,z.2];rfl
end Hv
namespace Mx
open Me Mg Mu
def Zk(ok:Hv.fX b ps ws):eZ b d ps ws 0=1:=by
 rw[MB,Hv.Zj ok];lia
def Zl(ok:Hv.fX b ps ws)(h:0<n):1<=aR b d ps ws n:=by
 have h1:=uH (b:=b) (d:=d) (ps:=ps) (ws:=ws) (show 0+1<=n by lia);rw[lF,Zk ok] at h1;have:aR b d ps ws 0=0:=rfl;lia
def MG(ok:Hv.fX b ps ws)(h:1620<=d):eZ b d ps ws n=1:=by
 rw[MB];have:=(Hv.Zi (n:=n) ok).2;lia
theorem Eb(ok:Hv.fX b ps ws)(h:1620<=d):∀n:Nat,aR b d ps ws n=n
 | 0=>rfl
 | n+1=>by
  rw[lF,MG ok h,Eb ok h n];rfl
end Mx
namespace Hv
open PySem L2
def aU.Zm(G:aU H f a c b ps ws)(S:bh H st)(ha:a≠st)(hc:c≠st)(k:Kp [st] H H'):aU H' f a c b ps ws:=by
 show⟨k _ _ G.tp<|λz=>?_,k _ _ G.hp<|by simpa using ha,k _ _ G.hw<|by simpa using hc,G.ok⟩;have z':f=st:=by simpa using z
 obtain⟨x,y,w,e⟩:=S;have:=G.tp;rw[z',e] at this;cases this
def MH(ok:fX b ps ws):0<b ^ ps.sum:=a2J (by have:=ok.b2;lia)
def Zn{c A:Prop}[Decidable c]{nx:St->Hp->Prop}{σ:St}{H:Hp}(Good:St->Hp->Prop)(h:∀ σ H,Good σ H->nx σ H)(hA:c->(∀ σ H,Good σ H->nx σ H)->A)(hB:¬ c->Good σ H):if c then A else nx σ H:=by
 by_cases z:c;.rw[if_pos z];show hA z h
 .rw[if_neg z];show h _ _<|hB z
def MI(h:i=j):(!decide (V.int i=V.int j))=false:=by rw[h];simp
def im(b d:Nat)(ps:List Nat)(ws:List Int)(k:Nat)(v:V):Prop:=(v=.ax/\Mx.aR b d ps ws (b ^ ps.sum)<=k)\/∃m:Nat,v=.int m/\m<b ^ ps.sum/\Mx.eZ b d ps ws m=1/\Mx.aR b d ps ws m=k
inductive Ec(vs:List V)(H:Hp)(Q:VK)(aw:XK):Prop
 | mk:∀(f a c:Addr) (b:Nat) (ps:List Nat) (ws:List Int) (d k:Nat),(vs=[.ref f,.int d,.int k])->(aU H f a c b ps ws)->(∀(v:V) (H':Hp),af H H'->im b d ps ws k v->Q v H')->Ec vs H Q aw
inductive y8(vs:List V)(H:Hp)(Q:VK)(aw:XK):Prop
 | mk:∀(f a c:Addr) (b:Nat) (ps:List Nat) (ws:List Int) (k:Nat),(vs=[.ref f,.int k])->(aU H f a c b ps ws)->(∀(v:V) (H':Hp),af H H'->im b 0 ps ws k v->Q v H')->y8 vs H Q aw
def Zo(vs:List V)(H:Hp)(Q:VK)(E:XK)(h:Ec vs H Q E):y7 vs H Q E:=by
 obtain⟨f,a,c,b,ps,ws,d,k,rfl,G,h⟩:=h;show⟨f,a,c,b,ps,ws,d,k,μ,G,λH' s h0=>h .ax H' s<|.inl ⟨μ,h0⟩,λm H' s h1 h2 h3=>h _ H' s<|.inr ⟨m,μ,h1,h2,h3⟩⟩
def Zp(vs:List V)(H:Hp)(Q:VK)(E:XK)(h:y8 vs H Q E):MC vs H Q E:=by
 obtain⟨f,a,c,b,ps,ws,k,rfl,G,h⟩:=h;show⟨f,a,c,b,ps,ws,k,μ,G,λH' s h0=>h .ax H' s<|.inl ⟨μ,h0⟩,λm H' s h1 h2 h3=>h _ H' s<|.inr ⟨m,μ,h1,h2,h3⟩⟩
section
variable{b d n k:Nat}
def im.dN(h:(k:Int)<Mx.aR b d ps ws (b ^ ps.sum))(q:im b d ps ws k v):∃m:Nat,v=.int m/\m<b ^ ps.sum/\Mx.eZ b d ps ws m=1/\Mx.aR b d ps ws m=k:=by
 rcases q with⟨_,z⟩ | q;.lia
 .show q
def im.none(h:Mx.aR b d ps ws (b ^ ps.sum)<=(k:Int))(q:im b d ps ws k v):v=.ax:=by
 rcases q with⟨z,_⟩ | ⟨m,_,h1,h2,h3⟩;.show z
 .have e:=Mx.lF b d ps ws m;have:=Mx.uH (b:=b) (d:=d) (ps:=ps) (ws:=ws) (show m+1<=b ^ ps.sum by lia);lia
def im.self(hn:n<b ^ ps.sum)(hi:Mx.eZ b d ps ws n=1)(hk:Mx.aR b d ps ws n=k)(q:im b d ps ws k v):v=.int n:=by
 have e:=Mx.lF b d ps ws n;have le:=Mx.uH (b:=b) (d:=d) (ps:=ps) (ws:=ws) (show n+1<=b ^ ps.sum by lia);obtain⟨m,rfl,h1,h2,h3⟩:=q.dN Z;rw[Mx.Zg h2 hi (by lia)]
def im.same(q:im b d ps ws k v)(r:im b d ps ws k u):v=u:=by
 rcases q with⟨z,y⟩ | ⟨m,rfl,h1,h2,h3⟩;.rw[z,r.none y]
 .show(r.self h1 h2 h3).symm
end
def m9(s:af H H2)(h:H q=none)(k:Kp [q] H2 H3):af H H3:=λb o e=>k b o (s b o e)<|λz=>by grind
end Hv
namespace L2
open PySem PySem.Spec PyProof.Rows
theorem MJ:∀ {us:List Value} {f:Nat->V},(∀(j:Nat) v,us[j]?=some v->RelV (f j) v)->aE ((List.range us.length).map f) us
 | [],_,_=>.nil
 | u::r,f,h=>by
  rw[a2s,List.range_succ_eq_map,a2f,a3i];show .cons (h 0 u μ)<|MJ λj v e=>h _ v<|by simpa using e
inductive MK(Q:VK)(xs:List V)(H2:Hp):Prop
 | mk:∀lo hi:Int,(xs=[.int lo,.int hi])->((-100000<=lo/\lo<=100000/\-100000<=hi/\hi<=100000))->(∀p,H2 p=none->Q (.ref p) (upd H2 p (.lst ((List.range (hi-lo).toNat).map λ(i:Nat)=>V.int (lo+(i:Int))))))->MK Q xs H2
def Zq(ta:TA):TE:=fun σ H Q=>ta σ H (MK Q)
def Zr{p1 p2 q1 q2:Pos}(hc:X.calm=true)(jK:X.mg "list"=none)(gL:X.mg "range"=none)(oy:Gl X "list")(oz:Gl X "range")(ha:PA X [a,b] ta)(hs:starEach [a,b] X.env=[(false,eval a X.env),(false,eval b X.env)]:=by rfl)(cr:starEach [b] X.env=[(false,eval b X.env)]:=by rfl) : PE X (.Call (.Name "list" p1) [.Call (.Name "range" p2) [a,b] [] q2] [] q1) (Zq ta):=by
 show λaa s σ H Q I h=>wpAny_Call_Name_kw (hU I oy jK boot_list ?_);show PyProof.Rows.callWith_type1 ?_ μ μ;change wpAny _ _ (spliced ((false,eval (.Call (.Name "range" p2) [a,b] [] q2) X.env)::backTo q1 (starEach [] X.env))) _ _ s;show Calls.spliced_cons (wpAny_Call_Name_kw (hU I oz gL boot_range ?_));show PyProof.Rows.callWith_type1 (au (ha q2 aa s σ H _ I h) λus s1 ⟨vs,H1,I1,r1,q1⟩=>?_) (by rw[hs,cr]) (by rw[cr];rfl);obtain⟨lo,hi,e,⟨b1,b2,b3,b4⟩,q⟩:=q1;subst e
 cases r1 with
 | cons r rr =>
 cases rr with
 | cons r' rr =>
 cases rr;obtain⟨t,rfl⟩:=r;obtain⟨t',rfl⟩:=r';show call_range_2 (Calls.spliced_nil ?_);show call_list_range (n:=(hi-lo).toNat) (I1.ok.hd hc) (IsRange.new ..) (small_one Z Z Z Z) (by rw[rangeSize_one];split <;> lia) Z λh' tk acc c' hk hS du=>?_;have je:s1.heap.objs.size<=(s1.heap.push {cls:=.type "range",data:=.fields #[.int lo t,.int hi t',.int 1 s1.toks]}).objs.size:=by rw[a2w];show a3U _
 obtain⟨ha,hb⟩:=du;have bZ:acc.toList.length=(hi-lo).toNat:=by simpa using ha
 have hv:aE ((List.range (hi-lo).toNat).map λ(i:Nat)=>V.int (lo+ i )) acc.toList:=by
  have z:=MJ (us:=acc.toList) (f:=λ i =>V.int (lo+ i )) λj v e=>by
   obtain⟨t,rfl⟩:=hb j v (by simpa using e);show⟨t,θ⟩
  rw[bZ] at z;show z
 have hz:((List.range (hi-lo).toNat).map λ(i:Nat)=>V.int (lo+ i )).length<=sizeLine:=by
  rw[a1H,List.length_range];show a2o (show(hi-lo).toNat<=1000000 by lia) ζ
 show⟨.ref _,_,I1.laid (o:=.lst ((List.range (hi-lo).toNat).map λ(i:Nat)=>V.int (lo+ i ))) (λb o e=>hk b o (a1J _ e)) je ⟨hz,acc.toList,c',hv,?_⟩,μ,q _ (I1.am.fresh je)⟩;rw[hS]
inductive ML(fT:Hp)(Q:VK)(v:V)(H':Hp):Prop
 | mk:∀a o kvs,(H' a=some (.bE o (.dK kvs)))->((∀o u,fT a≠some (.bE o u)))->(Q v (upd H' a (.dK kvs)))->ML fT Q v H'
def Zs(fT:Hp)(t:TE):TE:=fun σ H Q=>t σ H (ML fT Q)
def Zt(h:PE X e t):PE X e (Zs X.fT t):=λaa s σ H Q I q => au (h aa s σ H _ I q) λv s1 ⟨x,H1,I1,r,a,o,kvs,e,hb,q⟩=>⟨x,_,I1.JJ e hb,r,q⟩
def y9(P:Program)(w:World)(hP:X.prog=P)(hw:X.w=w)(hu:X.A.units+64<cLine):cz X (compareOp .Eq) (qz P w false):=by
 subst hP hw;show IZ hu
end L2
namespace Mu
open Me Mg
section
variable{ws a1y:List Int}
abbrev aF(p:Nat)(ps2:List Nat)(i:Nat):Nat:=(p-i)+ps2.sum
def y'(hb:0<b)(hn:n<b ^ (ps1++p::ps2).sum):n / b ^ (p+ps2.sum)<b ^ ps1.sum:=by
 show Nat.div_lt_of_lt_mul ?_;rw[<-a2x,a4r];rw[a2q,a2b] at hn;show hn
def Zu(hb:0<b)(hn:n<b ^ (ps1++p::ps2).sum)(hw:ws.length=ps1.sum+(p+ps2.sum))(er:(ws.drop ps1.sum).take p=row):bG b (n / b ^ ps2.sum) (ps1++[p]) (ws.take (ps1.sum+p))=bG b (n / b ^ (p+ps2.sum)) ps1 (ws.take ps1.sum)++[bt b (n / b ^ ps2.sum % b ^ p) row]:=by
 have e:=LY (b:=b) (n:=n) (k:=ps2.sum) (i:=p);rw[a4r ps2.sum p] at e;have:=LZ (ps1:=ps1) (p:=p) (u:=n / b ^ (p+ps2.sum)) (v:=n / b ^ ps2.sum % b ^ p) (ws:=ws) hb (y' hb hn) (a3N _ (a2J hb)) Z;rw[<-e,er] at this;show this
end
end Mu
namespace Mx
open Me Mg Mu
noncomputable def mn(low x:Int):Int:=if x<low then x else low
noncomputable def mx(high x:Int):Int:=if x>high then x else high
noncomputable def dC(b d:Nat):List (List Int)->Int->Int->Int
 | [],_,_=>1
 | row::rows,low,high=>tg (aN b row) λx=>if high-d<=x/\x<=low+d then dC b d rows (mn low x) (mx high x) else 0
noncomputable def ng(b d:Nat)(row:List Int)(rows:List (List Int))(here:Int):Int:=tg (aN b row) λx=>dC b d rows (here+x) (here+x)
noncomputable def nj(b d:Nat)(row:List Int)(rows:List (List Int))(here low high:Int):Int:=tg (aN b row) λx=>if high-d<=here+x/\here+x<=low+d then dC b d rows (mn low (here+x)) (mx high (here+x)) else 0
def Zv(b d:Nat)(row:List Int)(rows:List (List Int))(low high:Int):dC b d (row::rows) low high=nj b d row rows 0 low high:=by show F_ λx=>by rw[a2N]
noncomputable def nb(d:Nat):Int->Int->List Int->Bool
 | _,_,[]=>true
 | low,high,x::v=>(decide (high-d<=x)&&decide (x<=low+d))&&nb d (mn low x) (mx high x) v
theorem Ed{b d:Nat}:∀(rows:List (List Int)) (low high:Int),dC b d rows low high=tr b rows λv=>if nb d low high v=true then 1 else 0
 | [],_,_=>rfl
 | row::rows,low,high=>by
  show F_ λx=>?_;by_cases h:high-d<=x/\x<=low+d
  .rw[if_pos h,Ed _];show lA λv _=>?_;change _=if ((decide _&&decide _)&&nb d _ _ v)=true then 1 else 0;rw[decide_eq_true h.1,decide_eq_true h.2,a5c,a5c]
  .rw[if_neg h];show(yH _).symm.trans<|lA λv _=>?_
   have:nb d low high (x::v)=false:=by
    change((decide _&&decide _)&&nb d _ _ v)=false;by_cases h1:high- d <=x;.rw[decide_eq_false (λz=>h ⟨h1,z⟩),a5o,a3p]
    .rw[decide_eq_false h1,a3p,a3p]
   change 0 =if nb d low _ _=true then 1 else 0;rw[this,if_neg (by decide)]
def Pn(d:Nat)(low high:Int)(v:List Int):Prop:=(∀y∈v,y-low<=d/\high-y<=d)/\∀y∈v,∀z∈v,y-z<=d
theorem za{d:Nat}:∀(v:List Int) (low high:Int),low<=high->high-low<=d->(nb d low high v=true↔Pn d low high v)
 | [],_,_,_,_=>⟨λ_=>⟨λy h=>by simp at h,λy h=>by simp at h⟩,λ_=>rfl⟩
 | x::v,low,high,h1,h2=>by
  change((decide _&&decide _)&&nb d _ _ v)=true↔_;rw[a2v,a2v,decide_eq_true_eq,decide_eq_true_eq];have m1:mn low x<=low/\mn low x<=x/\(mn low x=low\/mn low x=x):=by unfold mn;split <;> lia
  have m2:high<=mx high x/\x<=mx high x/\(mx high x=high\/mx high x=x):=by unfold mx;split <;> lia
  constructor
  .rintro⟨⟨a1,a2⟩,a3⟩;have ih:=(za v _ _ (by lia)<|by lia).mp a3;show⟨λy hy=>?_,λy hy z hz=>?_⟩
   .rcases a1L.mp hy with rfl | hy;.lia
    .have:=ih.1 y hy;lia
   .rcases a1L.mp hy with ey | dq
    .rcases a1L.mp hz with ez | cU;.lia
     .have:=ih.1 z cU;lia
    .rcases a1L.mp hz with ez | cU
     .have:=ih.1 y dq;lia
     .show ih.2 y dq z cU
  .rintro⟨p1,p2⟩;have q:=p1 x θ;show⟨⟨Z,Z⟩,(za v _ _ (by lia)<|by lia).mpr ⟨λy hy=>?_,λy hy z hz=>p2 y (by simp[hy]) z<|by simp[hz]⟩⟩;have r1:=p1 y (by simp[hy]);have r2:=p2 y (by simp[hy]) x θ;have r3:=p2 x θ y (by simp[hy]);lia
def Zw(h:0<v.length):fN v<=d↔∀y∈v,∀z∈v,y-z<=d:=by
 obtain⟨a1,a2⟩:=Ma.w_ v h;obtain⟨b1,b2⟩:=Ma.v_ v h;unfold fN;constructor
 .intro q y hy z hz;have:=a2 y hy;have:=b2 z hz;lia
 .show λq=>q _ a1 _ b1
def Ee{d:Nat}(hp:0<pre.length):fN (pre++w)<=(d:Int)↔Ma.aP pre-Ma.aK pre<=d/\Pn d (Ma.aK pre) (Ma.aP pre) w:=by
 obtain⟨a1,a2⟩:=Ma.w_ pre hp;obtain⟨b1,b2⟩:=Ma.v_ pre hp;rw[Zw (by rw[a2p];lia)];constructor;.show λq=>⟨q _ (a2n _ a1) _<|a2n _ b1,λy hy=>⟨q _ (a2g _ hy) _<|a2n _ b1,q _ (a2n _ a1) _<|a2g _ hy⟩,λy hy z hz=>q _ (a2g _ hy) _<|a2g _ hz⟩
 .rintro⟨q1,q2,q3⟩ y hy z hz;rcases a2l.mp hy with hy | hy;.grind
  .rcases a2l.mp hz with hz | hz
   .have:=b2 z hz;have:=(q2 y hy).1;lia
   .show q3 y hy z hz
def Zx{d:Nat}:fN (x::v)<=(d:Int)↔Pn d x x v:=by
 have h:=Ee (d:=d) (pre:=[x]) (w:=v) θ;have e1:Ma.aP [x]=x:=rfl;have e2:Ma.aK [x]=x:=rfl;rw[e1,e2] at h;rw[show x::v=[x]++v from rfl,h];constructor;.show λz=>z.2
 .show λz=>⟨Z,z⟩
noncomputable def j0(d:Nat)(v:List Int):Int:=if fN v<=(d:Int) then 1 else 0
section
variable{b d p t u v:Nat}
def Zy(hb:0<b)(hw:ws.length=ps1.sum+(p+ps2.sum))(er:(ws.drop ps1.sum).take p=row)(ht:t<=p)(hu:u<b ^ ps1.sum)(hv:v<b ^ t)(h1:i1<b ^ (p-t))(h2:i2<b ^ ps2.sum) : bG b ((u*b ^ t+v)*b ^ aF p ps2 t+(i1*b ^ ps2.sum+i2)) (ps1++p::ps2) ws=bG b u ps1 (ws.take ps1.sum)++(bt b v (row.take t)+bt b i1 (row.drop t))::bG b i2 ps2 (ws.drop (ps1.sum+p)):=by
 have cW:row.length=p:=by rw[<-er,a2d,a2k];lia
 have e1:(u*b ^ t+v)*b ^ aF p ps2 t+(i1*b ^ ps2.sum+i2)=u*b ^ (p::ps2).sum+((v*b ^ (p-t)+i1)*b ^ ps2.sum+i2):=by
  have ep:b ^ (p::ps2).sum=b ^ t*b ^ aF p ps2 t:=by rw[<-a2x,a2b];congr 1;unfold aF;lia
  have el:b ^ aF p ps2 t=b ^ (p-t)*b ^ ps2.sum:=by rw[<-a2x]
  rw[ep,el];grind
 have Zz:v*b ^ (p-t)+i1<b ^ p:=by
  have:(v+1)*b ^ (p-t)<=b ^ t*b ^ (p-t):=a2z _ hv;rw[a2F,a3J,<-a2x,show t+(p-t)=p by lia] at this;lia
 have ZA:(v*b ^ (p-t)+i1)*b ^ ps2.sum+i2<b ^ (p::ps2).sum:=by
  have:(v*b ^ (p-t)+i1+1)*b ^ ps2.sum<=b ^ p*b ^ ps2.sum:=a2z _ Zz;rw[a2F,a3J,<-a2x] at this;rw[a2b];lia
 rw[e1,yO hb ps1 (p::ps2) ws u _ hu ZA (by rw[a2b];show hw),ut hb h2 (by rw[a2k];lia),er,a3M];congr 2;have e2:=LO (d:=v) (r1:=row.take t) hb (by rw[a2k,cW];show h1);rw[a2r,a2k,cW] at e2;show e2
def Ef(hb:0<b)(hw:ws.length=ps1.sum+(p+ps2.sum))(er:(ws.drop ps1.sum).take p=row)(ht:t<=p)(hu:u<b ^ ps1.sum)(hv:v<b ^ t) : ns (λi=>j0 d (bG b ((u*b ^ t+v)*b ^ aF p ps2 t+i) (ps1++p::ps2) ws)) (b ^ aF p ps2 t)=tg (aN b (row.drop t)) λx=>tr b (Ma.ar ps2 (ws.drop (ps1.sum+p))) λw=>j0 d (bG b u ps1 (ws.take ps1.sum)++(bt b v (row.take t)+x)::w):=by
 have cW:row.length=p:=by rw[<-er,a2d,a2k];lia
 have el:b ^ aF p ps2 t=b ^ (p-t)*b ^ ps2.sum:=by rw[<-a2x]
 have jY:(row.drop t).length=p-t:=by rw[a2k,cW]
 rw[el,ur];rw[<-Dn,jY];show X_ λi1 h1=>?_;rw[<-yF hb ps2 _ _ (by rw[a2k];lia)];show X_ λi2 h2=>?_;rw[<-el,Zy hb hw er ht hu hv h1 h2]
def MM(hb:0<b)(hw:ws.length=p+ps2.sum)(er:ws.take p=row)(ht:t<=p)(hv:v<b ^ t) : ns (λi=>j0 d (bG b (v*b ^ aF p ps2 t+i) (p::ps2) ws)) (b ^ aF p ps2 t)=ng b d (row.drop t) (Ma.ar ps2 (ws.drop p)) (bt b v (row.take t)):=by
 have h:=Ef (b:=b) (d:=d) (p:=p) (t:=t) (u:=0) (v:=v) (ps1:=[]) (ps2:=ps2) (ws:=ws) (row:=row) hb (by simpa using hw) (by simpa using er) ht θ hv;simp only[a3j,a3I,a4g,List.sum_nil] at h;rw[h];unfold ng;show F_ λx=>?_;rw[Ed];show lA λw _=>?_;have e:bG b 0 [] (ws.take 0)=[]:=rfl;rw[e,a4g];unfold j0;have:=(Zx (d:=d) (x:=bt b v (row.take t)+x) (v:=w)).trans (za w _ _ (a2U _) Z).symm;by_cases z:fN ((bt b v (row.take t)+x)::w)<=(d:Int);.rw[if_pos z,if_pos (this.mp z)]
 .rw[if_neg z,if_neg (λy=>z (this.mpr y))]
def ZB(hb:0<b)(hw:ws.length=ps1.sum+(p+ps2.sum))(er:(ws.drop ps1.sum).take p=row)(ht:t<=p)(hu:u<b ^ ps1.sum)(hv:v<b ^ t)(hp:0<ps1.length)(kQ:low=Ma.aK (bG b u ps1 (ws.take ps1.sum)))(MN:high=Ma.aP (bG b u ps1 (ws.take ps1.sum)))(hd:high-low<=d) : ns (λi=>j0 d (bG b ((u*b ^ t+v)*b ^ aF p ps2 t+i) (ps1++p::ps2) ws)) (b ^ aF p ps2 t)=nj b d (row.drop t) (Ma.ar ps2 (ws.drop (ps1.sum+p))) (bt b v (row.take t)) low high:=by
 rw[Ef hb hw er ht hu hv];generalize ql:bG b u ps1 (ws.take ps1.sum)=pre at *;have hl:0<pre.length:=by rw[<-ql];change 0<(Ma.jk _ _).length;rw[Ma.wP];show hp
 have gq:low<=high:=by rw[kQ,MN];show(Ma.v_ pre hl).2 _ (Ma.w_ pre hl).1
 unfold nj;show F_ λx=>?_;generalize bt b v (row.take t)+x=y
 have e:(if high-(d:Int)<=y/\y<=low+(d:Int) then dC b d (Ma.ar ps2 (ws.drop (ps1.sum+p))) (mn low y) (mx high y) else 0)=tr b (Ma.ar ps2 (ws.drop (ps1.sum+p))) λw=>if nb d low high (y::w)=true then 1 else 0:=by
  by_cases h:high-(d:Int)<=y/\y<=low+(d:Int)
  .rw[if_pos h,Ed];show lA λw _=>?_;change _=if ((decide (high-(d:Int)<=y)&&decide (y<=low+(d:Int)))&&nb d (mn low y) (mx high y) w)=true then 1 else 0;rw[decide_eq_true h.1,decide_eq_true h.2,a5c,a5c]
  .rw[if_neg h];show(yH (b:=b) _).symm.trans (lA λw _=>?_)
   have:nb d low high (y::w)=false:=by
    change((decide (high-(d:Int)<=y)&&decide (y<=low+(d:Int)))&&nb d (mn low y) (mx high y) w)=false;by_cases h1:high-(d:Int)<=y;.rw[decide_eq_false (λz=>h ⟨h1,z⟩),a5o,a3p]
    .rw[decide_eq_false h1,a3p,a3p]
   rw[this,if_neg (by decide)]
 rw[e];show lA λw _=>?_;unfold j0;have h3:=Ee (d:=d) (pre:=pre) (w:=y::w) hl;rw[<-kQ,<-MN] at h3;have h4:=za (d:=d) (y::w) low high gq hd;by_cases z:fN (pre++y::w)<=(d:Int);.rw[if_pos z,if_pos (h4.mpr (h3.mp z).2)]
 .rw[if_neg z,if_neg (λq=>z (h3.mpr ⟨hd,h4.mp q⟩))]
def ZC(hb:0<b)(hw:ws.length=ps1.sum+(p+ps2.sum))(er:(ws.drop ps1.sum).take p=row)(ht:t<=p)(hu:u<b ^ ps1.sum)(hv:v<b ^ t)(hp:0<ps1.length)(hd:¬ Ma.aP (bG b u ps1 (ws.take ps1.sum))-Ma.aK (bG b u ps1 (ws.take ps1.sum))<=d) : ns (λi=>j0 d (bG b ((u*b ^ t+v)*b ^ aF p ps2 t+i) (ps1++p::ps2) ws)) (b ^ aF p ps2 t)=0:=by
 rw[Ef hb hw er ht hu hv];have hl:0<(bG b u ps1 (ws.take ps1.sum)).length:=by change 0<(Ma.jk _ _).length;rw[Ma.wP];show hp
 have e:∀x,tr b (Ma.ar ps2 (ws.drop (ps1.sum+p))) (λw=>j0 d (bG b u ps1 (ws.take ps1.sum)++(bt b v (row.take t)+x)::w))=0:=λx=>by
  rw[<-yH (b:=b) (Ma.ar ps2 (ws.drop (ps1.sum+p)))];show lA λw _=>?_;unfold j0;rw[if_neg (λz=>hd ((Ee hl).mp z).1)]
 rw[F_ e,LN,a4y]
end
theorem MO:∀(k:Nat) (ps:List Nat) (ws:List Int),(Ma.ar ps ws).drop k=Ma.ar (ps.drop k) (ws.drop (ps.take k).sum)
 | 0,_,_=>by simp
 | k+1,[],_=>by simp[Ma.ar]
 | k+1,p::ps,ws=>by
  rw[Ma.ar,List.drop_succ_cons,MO k,a4M,a2b,a3M,List.drop_succ_cons]
theorem MP(f:Nat->Nat->Int)(m:Nat):∀n:Nat,ns (λi=>ns (λj=>f i j) m) n=ns (λj=>ns (λi=>f i j) n) m
 | 0=>by
  show(Lu m).symm
 | n+1=>by
  change ns _ n+ns _ m=_;rw[MP f m n,<-Ls];rfl
def zb(b:Nat)(l:List Int)(w:Int)(G:Int->Int):tg (aN b (l++[w])) G=tg (aN b l) λx=>ns (λ(e:Nat)=>G (x+(e:Int)*w)) b:=by
 have h:aN b (l++[w])=U_ (aN b l) b w:=by
  unfold aN;rw[a3r];rfl
 rw[h,Lx]
theorem MQ(b:Nat)(w:Int):∀(n:Nat) (l:List Int),l.length=n->∀G:Int->Int,tg (aN b (w::l)) G=tg (aN b l) λx=>ns (λ(e:Nat)=>G (x+(e:Int)*w)) b
 | 0,l,hl,G=>by
  have e:=a2y hl;subst e;show zb b [] w G
 | n+1,l,hl,G=>by
  obtain⟨l',u,rfl⟩:∃l' u,l=l'++[u]:=⟨l.dropLast,l.getLast (by intro z;rw[z] at hl;cases hl),(a3a _).symm⟩;have cE:l'.length=n:=by simpa using hl
  rw[<-a4a,zb,MQ b w n l' cE,zb];show F_ λx=>?_;rw[MP _];show X_ λi _=>X_ λj _=>?_;lia
theorem MR(b:Nat):∀(l:List Int) (G:Int->Int),tg (aN b l.reverse) G=tg (aN b l) G
 | [],_=>rfl
 | w::l,G=>by rw[a3R,zb,MR b l,<-MQ b w _ l μ]
end Mx
namespace L2
open PySem PySem.Spec PyProof.Rows
def ZD{k:Nat}:dc xs (some (k:Int)) none=xs.drop k:=by
 unfold dc;rw[HT.sS,HT.AX];rcases a4R k _ with h | h;.rw[a3s h,a2t (by rw[a2k];lia)]
 .simp_all
def zc{st:Stmt}(h:PS X st t):PS X st (λD σ H=>∃I:St->Hp->Prop,t {D with nx:=I} σ H/\∀ aJ H',I aJ H'->D.nx aJ H'):=λaa s σ H D I0 ⟨I,ht,hI⟩=>au (h aa s σ H _ I0 ht) λf s' hf=>by
 cases f with
 | next=>obtain⟨aJ,H',i,q⟩:=hf;show⟨aJ,H',i,hI _ _ q⟩
 | brk=>show hf
 | cont=>show hf
 | ret u=>show hf
theorem MS{it t:Addr}{items:Array Value}(ba:t≠it):∀(n i:Nat) (s:Shared) (Q:List Value->Shared->Prop),s.heap.IsListIter it t i->s.heap.IsList t items->i+n<=items.size-> (∀h',h'.IsListIter it t (i+n)->Heap.SameBut it s.heap h'->Q ((items.toList.drop i).take n) {s with heap:=h'})->wpAny (model prog w) A (draw (.ref it) n) Q E s
 | 0,i,s,Q,cg,_,_,hQ=>by
  show wpAny_pure<|by simpa using hQ _ cg (Heap.SameBut.refl ..)
 | n+1,i,s,Q,cg,ht,gq,hQ=>by
  have aL:i<items.size:=by lia
  show wpAny_bind<|wpAny_pyNext_list_item cg ht (x:=items[i]) (by simp[aL]) λxA Eg uI=>(wpAny_bind (wpAny_holding (MS ba n (i+1) _ _ Eg (ht.extBut uI.extBut ba) Z λoK ZE ZF=>wpAny_pure ?_)));have hd:items.toList.drop i=items[i]::items.toList.drop (i+1):=by simp[a3D,aL]
  have:=hQ oK (by grind) (uI.trans ZF);rw[hd,a4M] at this;show this
def ZG(hh:A.handled=none)(ht:s.heap.IsList t items) (hn:(assignEach elts env).length=items.size) (ZH:(assignEach elts env).findIdx? (·.1)=none) (h:∀h',Heap.ExtBut s.heap.objs.size s.heap h'->wpAny (model prog w) A (assignInOrder ((assignEach elts env).map (·.2)) items.toList) Q E {s with heap:=h'}) : wpAny (model prog w) A (assign (.Tuple elts x1 pos) env (.ref t)) Q E s:=by
 have aL:t≠s.heap.objs.size:=by obtain⟨o,ho,_⟩:=ht;show a2e<|a1N ho
 show wpAny_bind<|wpAny_standAt ?_;unfold unpack;rw[hn,ZH];show wpAny_bind<|wpAny_holding ?_;show wpAny_bind ?_;show wpAny_bind<|wpAny_specialOf ht.typeIs PySem.F.slot_list_iter.lookup (wpAny_pure ?_);show wpAny_bind<|wpAny_holding<|wpAny_pyIter_list ht (wpAny_bind (wpAny_holding (MS aL items.size 0 _ _ ⟨_,a1S _ μ,μ,μ⟩ (ht.push _) Z λxA Eg uI=>?_)));have sZ:List.take items.size (List.drop 0 items.toList)=items.toList:=by show a2t<|by simp
 rw[sZ,if_neg (by simp)];have ZI:=(ht.push _).extBut uI.extBut aL;show wpAny_bind<|wpAny_holding<|wpAny_pyNext_list_end hh Eg ZI θ λoK ZJ=>?_;show wpAny_pure<|h oK λb o hb e=>ZJ b o hb<|uI.extBut b o hb<|a1J _ e
section
variable{pos:Pos}
inductive MT(K:PySem.W.Frag)(n:Nat)(t:iE)(v:V)(σ:St)(H:Hp)(Q:St->Hp->Prop):Prop
 | mk:∀a xs,(v=.ref a)->(ae K H a xs)->(xs.length=n)->(t xs σ H Q)->MT K n t v σ H Q
def rq{k:Nat}(hc:X.calm=true)(h:qf X es t) (hn:(assignEach es X.env).length=n:=by rfl) (dZ:(assignEach es X.env).findIdx? (·.1)=none:=by rfl):PG X (.Tuple es k pos) (MT X.K n t):=by
 intro aa s σ H v u Q I r hw;obtain⟨a,xs,e1,hq,hl,hw⟩:=hw;subst e1;cases r;obtain⟨ad,rv,pl,hz⟩:=I.list hq;show ZG (I.ok.hd hc) pl.isList (by simp[hn,<-hl,rv.length]) dZ λh' hx=>?_;have I1:Inv X aa σ H {s with heap:=h'}:=I.kept λb o e=>hx b o (a2e<|a1N e) e;show h aa _ σ H xs _ Q I1 (by simpa using rv) hw
end
end L2
namespace Hv
open PySem L2
def ZK(H:Hp)(t:Addr)(b:Nat)(r:List Int):Prop:=∃g,H t=some (.dK (ay g))/\Me.Ok g (135*(r.length:Int))/\(∀q∈g,0<=q.2/\q.2<=16777216)/\∀F:Int->Int,Mg.tg g F=Mg.tg (Me.aN b r) F
def uJ(H:Hp)(ra:Addr)(ts:List Addr)(b:Nat)(row:List Int):Prop:=H ra=some (.lst (ts.map V.ref))/\ts.length=row.length+1/\∀(k:Nat) (t:Addr),ts[k]?=some t->ZK H t b (row.drop k)
def cI(b d:Nat)(ps:List Nat)(ws:List Int)(kvs:List (List aD×V)):Prop:=(kvs.map (·.1)).Nodup/\∀kv∈kvs,∃(i:Nat) (low high:Int),kv.1=[.inl (i:Int),.inl low,.inl high]/\i<4/\(-810<=low/\low<=810)/\(-810<=high/\high<=810)/\kv.2=.int (Mx.dC b d ((Ma.ar ps ws).drop i) low high)
theorem MV{α β:Type}{f:α->β}:∀ {l:List α},l.Nodup->(∀x∈l,∀y∈l,f x=f y->x=y)->(l.map f).Nodup
 | [],_,_=>by simp
 | a::l,h,hf=>by
  obtain⟨h1,h2⟩:=a2j.mp h;show a2j.mpr ⟨λz=>?_,MV h2 λx hx y hy=>hf x (by simp[hx]) y<|by simp[hy]⟩;obtain⟨y,hy,e⟩:=a1U.mp z;show h1<|by rw[hf a θ y (by simp[hy]) e.symm];show hy
noncomputable def MX:List aD->Nat
 | [.inl i,.inl lo,.inl hi]=>(i.toNat*1621+(lo+810).toNat)*1621+(hi+810).toNat
 | _=>0
def MY{a b c d:Nat}(_:b<1621)(_:d<1621)(_:a*1621+b=c*1621+d):a=c/\b=d:=by lia
def rA{x:Int}(_ : -810<=x/\x<=810):(x+810).toNat<1621:=by lia
def MZ{x y:Int}(_ : -810<=x/\x<=810)(_ : -810<=y/\y<=810)(_:(x+810).toNat=(y+810).toNat):x=y:=by lia
def ZL{a b c:Nat}(_:a<4)(_:b<1621)(_:c<1621):(a*1621+b)*1621+c<10510564:=by lia
def cI.len(h:cI b d ps ws kvs):kvs.length<sizeLine:=by
 have hk:∀k∈kvs.map (·.1),∃(i:Nat) (low high:Int),k=[.inl  i ,.inl low,.inl high]/\i<4/\(-810<=low/\low<=810)/\(-810<=high/\high<=810):=λk hk=>by
  obtain⟨kv,dj,rfl⟩:=a1U.mp hk;obtain⟨i,lo,hi,e,h1,h2,h3,_⟩:=h.2 kv dj;show⟨i,lo,hi,e,h1,h2,h3⟩
 have nd:=MV (f:=MX) h.1 λx hx y hy e=>by
  obtain⟨i,lo,hi,rfl,i1,l1,g1⟩:=hk x hx;obtain⟨j,lo',dh,rfl,j1,l2,g2⟩:=hk y hy;have ⟨e1,e2⟩:=MY (rA g1) (rA g2) e;have ⟨e3,e4⟩:=MY (rA l1) (rA l2) e1;have a1:i=j:=e3;rw[a1,MZ l1 l2 e4,MZ g1 g2 e2]
 have:=Me.CI nd λx hx=>by
  obtain⟨k,pK,rfl⟩:=a1U.mp hx;obtain⟨i,lo,hi,rfl,i1,l1,g1⟩:=hk k pK;show a3T.mpr (ZL i1 (rA l1) (rA g1))
 rw[a1H,a1H,List.length_range] at this;show a3x this<|by decide
def cI.get(h:cI b d ps ws kvs){i:Nat}(e:cc kvs [.inl (i:Int),.inl low,.inl high]=some v):v=.int (Mx.dC b d ((Ma.ar ps ws).drop i) low high):=by
 unfold cc at e;obtain⟨kv,dj,rfl⟩:=a4u.mp e;have h1:=a2R dj;have h2:=a4j dj;have h3:=of_decide_eq_true h2;obtain⟨j,lo,hi,e1,_,_,_,e2⟩:=h.2 kv h1;rw[h3] at e1;have a2:low=lo:=by injection e1 with _ z;injection z with z _;injection z
 have a3:high=hi:=by simp_all
 have a4:i=j:=by lia
 subst a4 a2 a3;show e2
def cI.put(h:cI b d ps ws kvs){i:Nat}(hi:i<4)(hl : -810<=low/\low<=810)(hh : -810<=high/\high<=810)(e:cc kvs [.inl (i:Int),.inl low,.inl high]=none) : cI b d ps ws (cM kvs [.inl (i:Int),.inl low,.inl high] (.int (Mx.dC b d ((Ma.ar ps ws).drop i) low high))):=by
 show⟨UW _ h.1 e,λkv dj=>?_⟩;rw[Ju _ e] at dj;rcases a2l.mp dj with q | q;.show h.2 kv q
 .have:=a1X.mp q;subst this;show⟨i,low,high,μ,hi,hl,hh,μ⟩
def cI.nil:cI b d ps ws []:=⟨θ,λkv h=>by simp at h⟩
def M0(bj:List (List Addr)):Prop:=∀(i j:Nat) (l m:List Addr),i≠j->bj[i]?=some l->bj[j]?=some m->∀t∈l,t∉m
structure fP(H:Hp)(k0:Nat)(sh rl kn f a c:Addr)(rs:List Addr)(bj:List (List Addr))(b d:Nat)(ps:List Nat)(ws:List Int):Prop where
 hs:H sh=some (.lst [.ref rl,.int d,.ref kn,.ref f])
 fr:aU H f a c b ps ws
 hr:H rl=some (.lst (rs.map V.ref))
 ln:rs.length=ps.length
 lt:bj.length=ps.length
 rw:∀(i:Nat) (row:List Int) (ra:Addr) (ts:List Addr),k0<=i->(Ma.ar ps ws)[i]?=some row->rs[i]?=some ra->bj[i]?=some ts->uJ H ra ts b row
 ap:M0 bj
 kn:∃kvs,H kn=some (.dT kvs)/\cI b d ps ws kvs
section
variable{sh rl kn f a c:Addr}
def uJ.M1(h:uJ H ra ts b row)(k:∀x o,H x=some o->(∀kvs,o≠.dT kvs)->H' x=some o):uJ H' ra ts b row :=
 ⟨k _ _ h.1 (λ_ z=>nomatch z),h.2.1,λj t e=>let ⟨g,h1,h2⟩:=h.2.2 j t e;⟨g,k _ _ h1 (λ_ z=>nomatch z),h2⟩⟩
def fP.kp(S:fP H k0 sh rl kn f a c rs bj b d ps ws)(k:Kp [kn] H H')(h:∃kvs,H' kn=some (.dT kvs)/\cI b d ps ws kvs):fP H' k0 sh rl kn f a c rs bj b d ps ws:=by
 obtain⟨uK,e0,_⟩:=S.kn
 have k':∀x o,H x=some o->(∀kvs,o≠.dT kvs)->H' x=some o:=λx o e n=>k x o e<|λz=>by
  have z':x=kn:=by simpa using z
  rw[z',e0] at e;show n _ (a1Q e).symm
 show⟨k' _ _ S.hs (λ_ z=>nomatch z),⟨k' _ _ S.fr.tp (λ_ z=>nomatch z),k' _ _ S.fr.hp (λ_ z=>nomatch z),k' _ _ S.fr.hw (λ_ z=>nomatch z),S.fr.ok⟩,k' _ _ S.hr (λ_ z=>nomatch z),S.ln,S.lt,λi row ra ts h1 h2 h3 h4=>(S.rw i row ra ts h1 h2 h3 h4).M1 k',S.ap,h⟩
def fP.keep(S:fP H k0 sh rl kn f a c rs bj b d ps ws)(s:af H H'):fP H' k0 sh rl kn f a c rs bj b d ps ws :=
 S.kp (Kp.of s) (let ⟨kvs,e,h⟩:=S.kn;⟨kvs,s _ _ e,h⟩)
def fP.up(S:fP H k0 sh rl kn f a c rs bj b d ps ws)(h:k0<=k1):fP H k1 sh rl kn f a c rs bj b d ps ws := ⟨S.hs,S.fr,S.hr,S.ln,S.lt,λi row ra ts h1 h2 h3 h4=>S.rw i row ra ts Z h2 h3 h4,S.ap,S.kn⟩
end
def ZM(ks:List (Option Expr))(vs:List Expr)(pos:Pos)(rest:List Expr)(env:Env):starEach (.Dict ks vs pos::rest) env=(false,eval (.Dict ks vs pos) env)::starEach rest env:=rfl
abbrev M3:TE:=wf (gG (xC [(tC (.int 0),tC (.int 1))]) kL)
def ZN{X:Cx}{k v:Expr}{p5:Pos}{tk tv:TE}(h1:PE X k tk)(h2:PE X v tv):PE X (.Dict [some k] [v] p5) (xC [(tk,tv)]) := CB (Cz h1 h2 Cy) μ μ (List.cons_ne_nil _ _) (Nat.succ_le_succ<|a2u _)
def ZO{X:Cx}{ks:List (Option Expr)}{vs:List Expr}{p5 p6:Pos}{t:TE}(h:PE X (.Dict ks vs p5) t):PE X (.List [.Dict ks vs p5] p6) (wf (gG t kL)) := x_ (a_ h d_<|ZM _ _ _ _ _)
@[irreducible] def rB:Expr:=match (A_ oC).getD 3 (.Pass ⟨0,0,0,0⟩) with
 | .For _ _ (.Assign _ e _::_) _ _=>e
 | _=>.Constant .none 0 ⟨0,0,0,0⟩
def M4:∃j1 j2 p1 p2 p5 p6,rB=.List [.Dict [some (.Constant (.int 0) j1 p1)] [.Constant (.int 1) j2 p2] p5] p6:=by
 unfold rB;show⟨_,_,_,_,_,_,μ⟩
def ZP:PE X rB M3:=by
 obtain⟨j1,j2,p1,p2,p5,p6,h⟩:=M4;show @Eq.mpr _ _ (congrArg (λe=>PE X e M3) h)<|@ZO X [some _] [.Constant _ j2 p2] p5 p6 _<|@ZN X _ _ p5 _ _ e_ e_
def ZQ(x:Str)(iG:Pos)(l:Nat)(env:Env):swapsWith rB (some (.Name x iG)) l env=pure false:=by
 obtain⟨j1,j2,p1,p2,p5,p6,h⟩:=M4;rw[h];rfl
def M5:List Stmt:=match (A_ oC).getD 3 (.Pass ⟨0,0,0,0⟩) with
 | .For t i (.Assign ts _ p::r) o q=>(A_ oC).set 3 (.For t i (.Assign ts rB p::r) o q)
 | _=>[]
def ZR:A_ oC=M5:=by
 unfold M5 rB;rfl
def ZS{us:List Addr}(hl:us.length=i+1)(h:us[i]?=some t):df (us.map V.ref) (-1)=some (.ref t):=by
 have cE:(us.map V.ref).length=i+1:=by rw[a1H];show hl
 have e:ib (us.map V.ref).length (-1)=some i:=by
  rw[cE];unfold ib;rw[if_neg ζ,if_pos (by lia)];congr 1;lia
 unfold df;rw[e];change(us.map _)[i]?=_;rw[a1O,h];rfl
inductive uL(vs:List V)(H:Hp)(Q:VK)(aw:XK):Prop
 | mk:∀(f a c:Addr) (b:Nat) (ps:List Nat) (ws:List Int) (d:Nat),(vs=[.ref f,.int d])->(aU H f a c b ps ws)->(∀(sh rl kn:Addr) (rs:List Addr) (bj:List (List Addr)) (H':Hp),af H H'->fP H' 0 sh rl kn f a c rs bj b (min d 4000) ps ws->H kn=none->Q (.ref sh) H')->uL vs H Q aw
def M6:aS ["frame"] ["frame"] (h_ Ca):=⟨μ,μ,μ,ξ,μ,ξ,ξ⟩
def M7:aS ["frame","d","base","parts","weights","rows","at","size","row","weight","more","rest","figure","here"] ["frame","d"] (h_ oC):=⟨μ,μ,μ,ξ,μ,ξ,ξ⟩
def ZT(F:aM K "_law_sheet" "_law_sheet" oC f fd)(T:Txt mg):aA P w K mg base aI 1 f fd ["frame","d"] uL:=by
 show F.ok M7 λao A outer s H vs Q E hr h=>?_
 .obtain⟨f,a,c,b,ps,ws,d,rfl,G,k⟩:=h;have nd:=M7.nd;have hu:=ic hr;rw[ZR];show⟨_,(b_ (eJ (pv 0) (kF μ (r_ (k_ 2) (r_ (k_ 3) (r_ (k_ 4) fj))))) (b_ (i_ 5 (x_ d_)) (b_ (i_ 6 e_) (b_ (B_ PassesOwn.never μ (I_ (pv 3)) (k_ 7) (b_ (i_ 8 ZP (ZQ _ _ _ _)) (b_ (B_ PassesOwn.never μ (I_ (Kl (jH kN (pv 4) (gH (pv 6)) (gH (n_ u_ (pv 6) (pv 7)))) (eO eQ e_))) (k_ 9) (b_ (i_ 10 qG) (b_ (B_ PassesOwn.never μ (oM (bf (pv 8) (eO eQ e_))) (k_ 11) (g_ (B_ PassesOwn.never μ (z_ η T.range (a_ (pv 2) d_)) (k_ 12) (b_ (i_ 13 (n_ u_ (pv 11) (n_ Q_ (pv 12) (pv 9)))) (g_ (qF hu (pv 10) (pv 13) (n_ u_ (mE hu (pv 10) (pv 13) e_ ⟨μ,μ,μ,μ⟩) (kZ hu (bf (pv 8) (eO eQ e_)) (pv 11) (λ_ _=>rfl))) μ)))))) (qH (g_ (G_ (fk PySem.F.plainAttrs_list PySem.F.slot_list_append PySem.F.type_list_append K_ (pv 8) (a_ (pv 10) d_)))))))) (b_ (G_ (fk PySem.F.plainAttrs_list PySem.F.slot_list_append PySem.F.type_list_append K_ (pv 5) (a_ (Kl (pv 8) (eO eQ e_)) d_))) (g_ (i_ 6 (n_ u_ (pv 6) (pv 7)))))))) (g_ (m_ (x_ (a_ (pv 5) (a_ (p_ (sL μ) η T.min boot_min (a_ (pv 1) (a_ e_ d_))) (a_ UP (a_ (pv 0) d_))))))))))),?_⟩;have ok:=G.ok;have lm:=ok.sum;have b8:=ok.b8;have b2:=ok.b2;have l4:=ok.l4;show⟨_,μ,f,_,μ,aB.of G.tp,μ,_,_,μ,_,_,μ,_,_,μ,μ,⟨sz ζ,λrl cW=>?_⟩⟩;have s0:=f_ (o:=.lst []) cW;have u0:(upd H rl (.lst [])) rl=some (.lst (([]:List Addr).map V.ref)):=c_;generalize upd H rl (.lst [])=H0 at s0 u0⊢;show⟨_,μ,a,μ,⟨_,ae.of (s0 _ _ G.hp)⟩,Y_ (K:=K) (a:=a) (xs:=az ps) (λi σ H1=>∃(rs:List Addr) (bj:List (List Addr)) (v7 v8 v9 bW bQ dD dE:Option V),σ=[some (.ref f),some (.int d),some (.int b),some (.ref a),some (.ref c),some (.ref rl),some (.int (((ps.take i).sum:Nat):Int)),v7,v8,v9,bW,bQ,dD,dE]/\af H H1/\H1 rl=some (.lst (rs.map V.ref))/\rs.length=i/\bj.length=i/\(∀ra∈rs,ra≠rl)/\M0 bj/\∀(j:Nat) (row:List Int) (ra:Addr) (ts:List Addr),(Ma.ar ps ws)[j]?=some row->rs[j]?=some ra->bj[j]?=some ts->uJ H1 ra ts b row) ⟨[],[],none,none,none,none,none,none,none,μ,s0,u0,μ,μ,λra h=>by simp at h,λi j l m _ h=>by simp at h,λj row ra ts _ h=>by simp at h⟩ (λi σ H1 _ h=>by obtain⟨_,_,_,_,_,_,_,_,_,_,z,_⟩:=h;show ae.of (z _ _ G.hp)) ?_ ?_⟩
  .rintro i x σ H1 hx ⟨rs,bj,v7,v8,v9,bW,bQ,dD,dE,rfl,s1,fY,zd,uM,Eh,Ei,ze⟩;obtain⟨p,hp,rfl⟩:=Kr hx;have yW:=ok.pr p (a1K hp);have gO:i<ps.length:=(a1I.mp hp).1;have aT:=Ma.oB ps ws i p hp;generalize jX:(ws.drop (ps.take i).sum).take p=row at aT;have jV:row∈Ma.ar ps ws:=a1K aT;have rC:∀y∈row,-9<=y/\y<=9:=λy hy=>ok.wr y (Ma.iK jV y hy);have ZU:=Ma.O_ (λp hp=>(ok.pr p hp).2) jV;have G1:=G.keep s1;show λp0 gQ=>⟨c_,[(Sum.inl 0,.int 1)],μ,ζ,?_⟩;have s2:af H1 (upd (upd H1 p0 (.dK [])) p0 (.dK (eV [] [(Sum.inl 0,V.int 1)]))):=N_ (f_ gQ) gQ;have u2:(upd (upd H1 p0 (.dK [])) p0 (.dK (eV [] [(Sum.inl 0,V.int 1)]))) p0=some (.dK (ay [(0,1)])):=c_;generalize upd (upd H1 p0 (.dK [])) p0 (.dK (eV [] [(Sum.inl 0,V.int 1)]))=H2 at s2 u2⊢;show⟨sz θ,λd9 M8=>?_⟩;have s3:=f_ (o:=.lst [V.ref p0]) M8;have u3:(upd H2 d9 (.lst [V.ref p0])) d9=some (.lst (([p0]:List Addr).map V.ref)):=c_;generalize upd H2 d9 (.lst [V.ref p0])=H3 at s3 u3⊢;have Ej:H1 d9=none:=s2.free M8;show⟨_,μ,_,μ,_,μ,_,μ,_,μ,_,_,μ,μ,_,μ,c,_,μ,ae.of (s3 _ _ (s2 _ _ G1.hw)),λq1 rD=>?_⟩;have ec:dc (ws.map V.int) (some (((ps.take i).sum:Nat):Int)) (some ((((ps.take i).sum:Nat):Int)+(p:Int)))=row.map V.int:=by rw[xV,<-jX];simp
   rw[ec];have s4:=f_ (o:=.lst (row.map V.int)) rD;have u4:(upd H3 q1 (.lst (row.map V.int))) q1=_:=c_;generalize upd H3 q1 (.lst (row.map V.int))=H4 at s4 u4⊢;show⟨_,μ,μ,q1,_,μ,ae.of u4,λq2 rE=>?_⟩;have er:(row.map V.int).reverse=row.reverse.map V.int:=by simp
   rw[er];have s5:=f_ (o:=.lst (row.reverse.map V.int)) rE;have u5:(upd H4 q2 (.lst (row.reverse.map V.int))) q2=_:=c_;generalize upd H4 q2 (.lst (row.reverse.map V.int))=H5 at s5 u5⊢;have Ek:=s4.trans s5;have El:af H1 H5:=s2.trans (s3.trans Ek);have ZV:=Ek _ _ u3;have ZW:=Ek _ _ (s3 _ _ u2);have ZX:q2≠d9:=λz=>by rw[z] at rE;rw[s4 _ _ u3] at rE;cases rE
   show⟨q2,μ,⟨_,ae.of u5⟩,Y_ (K:=K) (a:=q2) (xs:=row.reverse.map V.int) (λj σ H6=>∃(ts:List Addr) (v9 bW bQ dD dE:Option V),σ=[some (.ref f),some (.int d),some (.int b),some (.ref a),some (.ref c),some (.ref rl),some (.int (((ps.take i).sum:Nat):Int)),some (.int p),some (.ref d9),v9,bW,bQ,dD,dE]/\Kp [d9] H5 H6/\H6 d9=some (.lst (ts.map V.ref))/\ts.length=j+1/\(∀t∈ts,H1 t=none)/\∀(m:Nat) (t:Addr),ts[m]?=some t->H6 t=some (.dK (ay (Me.aN b (row.reverse.take m))))) ⟨[p0],v9,bW,bQ,dD,dE,μ,Kp.refl,ZV,μ,λt ht=>by rw[a1X.mp ht];show gQ,λm t e=>?_⟩ (λj σ H6 _ h=>by obtain⟨_,_,_,_,_,_,_,z,_⟩:=h;show ae.of (z _ _ u5 (by simpa using ZX))) ?_ ?_⟩
   .have hm:m=0:=by have:=(a1I.mp e).1;simp at this;lia
    subst hm;have e':p0=t:=by simpa using e
    subst e';show ZW
   .rintro j x σ H6 hx ⟨ts,v9,bW,bQ,dD,dE,rfl,k6,pL,rF,zf,zg⟩;obtain⟨wt,ef,rfl⟩:=Di hx;have hj:j<row.reverse.length:=(a1I.mp ef).1;have hj6:j<6:=by rw[a2M] at hj;lia
    have mT:=rC wt (by have:=a1K ef;simpa using this);obtain⟨t,ht⟩:∃t,ts[j]?=some t:=⟨_,a2a Z⟩;have td:=zg j t ht;have zh:=Me.ua (b:=b) (ws:=row.reverse) (λy hy=>rC y (by simpa using hy)) b8 j;have ew:=Me.xP (b:=b) ef;generalize hg:Me.aN b (row.reverse.take j)=g at td zh ew;intro l hl;have zi:t≠l:=l_ td hl;have Em:d9≠l:=l_ pL hl;have ZY:t≠d9:=λz=>by rw[z,pL] at td;cases td
    have ea:=ZS rF ht;show⟨_,μ,_,μ,d9,_,_,_,μ,μ,ae.of (by rw[j_ Em];show pL),ea,t,ay g,μ,(by rw[j_ zi];show td),λo=>qI (λm σ H7=>∃bQ dD dE,σ=[some (.ref f),some (.int d),some (.int b),some (.ref a),some (.ref c),some (.ref rl),some (.int (((ps.take i).sum:Nat):Int)),some (.int p),some (.ref d9),some (.int wt),some (.ref l),bQ,dD,dE]/\H7 t=some (.bE o (.dK (ay g)))/\Kp [t] H6 H7/\H7 l=some (.dK (ay (Me.U_ (g.take m) b wt)))) ⟨bQ,dD,dE,μ,c_,dL (dL Kp.refl (.inr hl)) (.inl θ),?_⟩ (λm σ H7 _ h=>by obtain⟨_,_,_,_,z,_⟩:=h;show z) ?_ ?_⟩;.rw[j_ zi.symm,c_];rfl
    .rintro m kk v σ H7 hk ⟨bQ,dD,dE,rfl,ft,zj,pM⟩;obtain⟨pr,jq,rfl,rfl⟩:=oZ hk;have pm:=a1K jq;have pb:=zh.bd pr.1 (a1U.mpr ⟨pr,pm,μ⟩);have o0:=Me.qO zh mT b8 m;show⟨_,μ,_,μ,Z,Z,H_ (n:=(b:Int).toNat) (λe σ H8=>∃dD dE,σ=[some (.ref f),some (.int d),some (.int b),some (.ref a),some (.ref c),some (.ref rl),some (.int (((ps.take i).sum:Nat):Int)),some (.int p),some (.ref d9),some (.int wt),some (.ref l),some (.int pr.1),dD,dE]/\H8 t=some (.bE o (.dK (ay g)))/\Kp [t] H6 H8/\H8 l=some (.dK (ay (Me.dA pr wt e (Me.U_ (g.take m) b wt))))) ⟨dD,dE,μ,ft,zj,pM⟩ ?_ ?_⟩
     .rintro e σ H8 he ⟨dD,dE,rfl,zk,zl,rG⟩;have Bm:e<b:=by lia
      have od:=Me.t8 pb mT b8 o0 e Z;have a1z:=Me.Ok.len (m:=135*j+135) (by push_cast at od⊢;show od);have uN:=zl _ _ pL (by simpa using ZY.symm)
      have dg:eU H8 t (.int pr.1) (some (.int pr.2)):=by
       have z:=L_ (k:=pr.1) (.inr ⟨o,zk⟩);rw[Me.gN zh.nd pm] at z;show z
      show⟨_,μ,_,μ,_,μ,_,_,μ,μ,.inr ⟨Z,Z⟩,_,_,μ,μ,(⟨_,μ,l,μ,.inl ⟨_,.inl rG⟩,_,μ,_,L_ (.inl rG),_,μ,_,μ,d9,_,_,_,μ,μ,ae.of uN,ea,_,μ,t,.int pr.2,μ,dg,_,_,mM _,μ,_,μ,_,μ,l,_,μ,ue rG Z,?_⟩)⟩;show⟨_,_,μ,?_,dL zl (.inr hl),?_⟩;.rw[j_ zi];show zk
      .rw[c_,Me.jP];have e0:(0:Int)+(e:Int)=(e:Int):=a2N _;rw[e0];rfl
     .rintro σ H8 ⟨dD,dE,rfl,zk,zl,rG⟩;show⟨_,_,_,μ,zk,zl,?_⟩;have eb:(b:Int).toNat=b:=by lia
      rw[eb] at rG;rw[Me.xO jq];show rG
    .rintro σ H7 ⟨bQ,dD,dE,rfl,ft,zj,pM⟩;have el:(ay g).length=g.length:=by rw[ay,a1H]
     rw[el,a1T,<-ew] at pM
     show⟨t,o,ay g,ft,(λo' u z=>by
      have z':H t=some (.bE o' u):=z;have:=s1 _ _ z';rw[zf t (a1K ht)] at this;cases this),?_⟩
     have k8:Kp [d9] H6 (upd H7 t (.dK (ay g))):=λy ob e n=>by
      by_cases hy:y=t;.rw[hy,c_,<-td,<-hy];show e
      .rw[j_ hy];show zj y ob e (by simpa using hy)
     have zm:af H6 (upd H7 t (.dK (ay g))):=λy ob e=>by
      by_cases hy:y=t;.rw[hy,c_,<-td,<-hy];show e
      .rw[j_ hy];show zj y ob e (by simpa using hy)
     have l8:(upd H7 t (.dK (ay g))) l=some (.dK (ay (Me.aN b (row.reverse.take (j+1))))):=by rw[j_ zi.symm];show pM
     generalize upd H7 t (.dK (ay g))=H8 at k8 zm l8⊢;have uN:=zm _ _ pL;show⟨_,μ,.inl ⟨μ,_,ae.of uN⟩,_,μ,d9,_,_,μ,μ,uN,bK (by rw[a1H];lia),ts++[l],_,_,_,_,_,μ,?_,?_,by simp[rF],?_,?_⟩;.show dL (k6.trans (Kp.of zm)) (.inl θ)
     .rw[c_,a2i];rfl
     .intro t' js;rcases a2l.mp js with h | h;.show zf t' h
      .rw[a1X.mp h];have h5:H5 l=none:=k6.free hl (by simpa using Em.symm);show El.free h5
     .intro m t' e;by_cases hm:m<ts.length
      .rw[a1R hm] at e;have:=zm _ _ (zg m t' e);rw[j_ (λz=>by rw[z,uN] at this;cases this)];show this
      .have jR:m=j+1:=by
        have:=(a1I.mp e).1;simp at this;lia
       subst jR;rw[a1V Z,rF,a3n] at e;have e':l=t':=by simpa using e
       subst e';rw[j_ Em.symm];show l8
   .rintro σ H6 ⟨ts,v9,bW,bQ,dD,dE,rfl,k6,pL,rF,zf,zg⟩
    have a1A:row.length=p:=by
     have h1:=Me.Lr ps ws ok.wl;have h2:((Ma.ar ps ws).map List.length)[i]?=some row.length:=by rw[a1O,aT];rfl
     rw[h1,hp] at h2;show(a1Q h2).symm
    rw[a1H,a2M] at rF;have ZZ:rl≠d9:=λz=>by rw[<-z,fY] at Ej;cases Ej
    have En:H6 rl=some (.lst (rs.map V.ref)):=k6 _ _ (El _ _ fY) (by simpa using ZZ)
    have pN:af H1 H6:=λy ob e=>k6 y ob (El y ob e) (by
     have:y≠d9:=l_ e Ej;simpa using this);show⟨_,μ,.inl ⟨μ,_,ae.of En⟩,_,μ,_,μ,μ,d9,_,μ,ae.of pL,λq hq=>?_⟩;have s7:=f_ (o:=.lst (ts.map V.ref).reverse) hq;have u7:(upd H6 q (.lst (ts.map V.ref).reverse)) q=some (.lst (ts.reverse.map V.ref)):=by rw[c_,List.map_reverse]
    generalize upd H6 q (.lst (ts.map V.ref).reverse)=H7 at s7 u7⊢;have Eo:=s7 _ _ En;have Ep:q≠rl:=λz=>by rw[z,En] at hq;cases hq
    show⟨rl,_,_,μ,μ,Eo,bK (by rw[a1H];lia),⟨_,μ,_,μ,_,_,μ,μ,rs++[q],bj++[ts.reverse],some (.int (p:Int)),some (.ref d9),v9,bW,bQ,dD,dE,?_,?_,?_,by simp[zd],by simp[uM],?_,?_,?_⟩⟩
    .rw[show(((ps.take (i+1)).sum:Nat):Int)=(((ps.take i).sum:Nat):Int)+(p:Int) by rw[a1P,hp,a2q];simp];rfl
    .intro y ob e;have:y≠rl:=l_ e cW;rw[j_ this];show s7 _ _ (pN _ _ (s1 _ _ e))
    .rw[c_,a2i];rfl
    .intro ra mW;rcases a2l.mp mW with h | h;.show Eh ra h
     .rw[a1X.mp h];show Ep
    .intro m n l1 l2 Z0 h1 h2 t' jZ pJ
     have cP:∀(m':Nat) (l':List Addr),bj[m']?=some l'->∀t∈l',∃ob,H1 t=some ob:=λm' l' cE t ht=>by
      have jR:m'<i:=by have:=(a1I.mp cE).1;lia
      obtain⟨ra,mW⟩:∃ra,rs[m']?=some ra:=⟨_,a2a Z⟩;obtain⟨fB,pd⟩:∃fB,(Ma.ar ps ws)[m']?=some fB:=⟨_,a2a (by rw[Ma.D_];lia)⟩;obtain⟨k',pK⟩:=a2H ht;obtain⟨g,hg,_⟩:=(ze m' fB ra l' pd mW cE).2.2 k' t pK;show⟨_,hg⟩
     have new:∀t∈ts.reverse,H1 t=none:=λt ht=>zf t (by simpa using ht);by_cases c1:m<bj.length
     .rw[a1R c1] at h1;by_cases c2:n<bj.length
      .rw[a1R c2] at h2;show Ei m n l1 l2 Z0 h1 h2 t' jZ pJ
      .rw[a1V (by lia)] at h2;have e2:n-bj.length=0:=by have:=(a1I.mp h2).1;simp at this;lia
       rw[e2] at h2;have e3:ts.reverse=l2:=by simpa using h2
       subst e3;obtain⟨ob,jQ⟩:=cP m l1 h1 t' jZ;rw[new t' pJ] at jQ;cases jQ
     .rw[a1V (by lia)] at h1;have e1:m-bj.length=0:=by have:=(a1I.mp h1).1;simp at this;lia
      rw[e1] at h1;have e3:ts.reverse=l1:=by simpa using h1
      subst e3;by_cases c2:n<bj.length
      .rw[a1R c2] at h2;obtain⟨ob,jQ⟩:=cP n l2 h2 t' pJ;rw[new t' jZ] at jQ;cases jQ
      .rw[a1V (by lia)] at h2;have:=(a1I.mp h2).1;simp at this;lia
    .intro m fB ra lJ h1 h2 h3;by_cases c1:m<rs.length
     .rw[a1R c1] at h2;rw[a1R (by lia)] at h3;have R:=ze m fB ra lJ h1 h2 h3;have Z1:ra≠rl:=Eh ra (a1K h2);show⟨by rw[j_ Z1];show s7 _ _ (pN _ _ R.1),R.2.1,λk' t e=>?_⟩;obtain⟨g,hg,oz⟩:=R.2.2 k' t e;have Er:=s7 _ _ (pN _ _ hg);show⟨g,by rw[j_ (λz=>by rw[z,Eo] at Er;cases Er)];show Er,oz⟩
     .rw[a1V (by lia)] at h2;have e2:m-rs.length=0:=by have:=(a1I.mp h2).1;simp at this;lia
      rw[e2] at h2;have e3:q=ra:=by simpa using h2
      subst e3;have em:m=i:=by lia
      subst em;rw[aT] at h1;cases h1;rw[a1V Z,show m-bj.length=0 by lia] at h3;have e4:ts.reverse=lJ:=by simpa using h3
      subst e4;show⟨by rw[j_ Ep];show u7,by rw[a2M];show rF,λk' t e=>?_⟩;have pK:k'<ts.length:=by have:=(a1I.mp e).1;rw[a2M] at this;show this
      rw[a4C pK] at e;have dt:=s7 _ _ (zg _ t e)
      have ek:row.reverse.take (ts.length-1-k')=(row.drop k').reverse:=by
       rw[List.reverse_drop];congr 1;lia
      rw[ek] at dt;have Es:=Me.qP (b:=b) (ws:=(row.drop k').reverse) (λy hy=>rC y (a3H (by simpa using hy))) b8;show⟨_,by rw[j_ (λz=>by rw[z,Eo] at dt;cases dt)];show dt,?_,λq hq=>?_,λF=>Mx.MR b (row.drop k') F⟩
      .rw[a2M] at Es;show Es
      .have h1:=Me.yf (b:=b) (ws:=(row.drop k').reverse) b8 (by rw[a2M,a2k];lia) q.1;rw[Me.gN Es.nd hq] at h1;show h1
  .rintro σ H1 ⟨rs,bj,v7,v8,v9,bW,bQ,dD,dE,rfl,s1,fY,zd,uM,Eh,Ei,ze⟩;have el:(az ps).length=ps.length:=by simp[az]
   rw[el] at zd uM;show⟨_,μ,_,μ,d,4000,μ,λkn M9=>⟨_,μ,sz θ,λsh wx=>?_⟩⟩;have ed:(if (4000:Int)<(d:Int) then (4000:Int) else (d:Int))=((min d 4000:Nat):Int):=by split <;> lia
   rw[ed] at *;have s2:=f_ (o:=.dT []) M9;have u2:(upd H1 kn (.dT [])) kn=_:=c_;generalize upd H1 kn (.dT [])=H2 at s2 u2 wx⊢;have s3:=f_ (o:=.lst [.ref rl,.int ((min d 4000:Nat):Int),.ref kn,.ref f]) wx;have S:=s2.trans s3;show k sh rl kn rs bj _ (s1.trans S) ⟨c_,(G.keep s1).keep S,S _ _ fY,zd,uM,λj row ra ts _ h1 h2 h3=>(ze j row ra ts h1 h2 h3).M1 λx o e _=>S x o e,Ei,⟨[],s3 _ _ u2,cI.nil⟩⟩ (s1.free M9)
end Hv
namespace Mx
open Me Mg Mu
theorem M'{g:List (Int×Int)}(nd:(keys g).Nodup)(φ:Int->Int)(A:Int):∀n:Nat,tg g (λx=>if A<=x/\x<A+n then φ x else 0)=Mq.sm (λt=>gv g t*φ t) A n
 | 0=>by
  have e:∀x:Int,(if A<=x/\x<A+ (0:Nat)  then φ x else 0)=0:=λx=>if_neg<|by lia
  rw[F_ e,LN,a4y];rfl
 | n+1=>by
  have e:∀x:Int,(if A<=x/\x<A+ (n+1:Nat)  then φ x else 0)=(if A<=x/\x<A+ n  then φ x else 0)+φ (A+n)*(if x=A+n then 1 else 0):=λx=>by
   by_cases h1:x=A+n
   .subst h1;lia
   .rw[if_neg h1,a4y,a5h];by_cases h2:A<=x/\x<A+ n;.rw[if_pos h2,if_pos (by lia)]
    .rw[if_neg h2,if_neg (by lia)]
  rw[F_ e,yG,rf,uv nd,M' nd φ A n,a4z];rfl
theorem uq(f:Int->Int)(A:Int):∀n:Nat,(((List.range n).map λ(i:Nat)=>A+(i:Int)).map f).sum=Mq.sm f A n
 | 0=>rfl
 | n+1=>by
  rw[a3P,a2i,a2i,a2q,uq f A n];simp[Mq.sm]
noncomputable def term(b d:Nat)(g:List (Int×Int))(rows:List (List Int))(here low high x:Int):Int:=gv g x*(if high-d<=here+x/\here+x<=low+d then dC b d rows (mn low (here+x)) (mx high (here+x)) else 0)
def Z2(nd:(keys g).Nodup)(rows:List (List Int))(here low high:Int):((keys g).map (term b d g rows here low high)).sum=tg g λx=>if high-d<=here+x/\here+x<=low+d then dC b d rows (mn low (here+x)) (mx high (here+x)) else 0:=by
 rw[a3i];congr 1;show a2G λq hq=>?_;change term b d g _ _ low _ q.1=_;unfold term gv;rw[gN nd hq];rfl
def Z3{b d:Nat}(nd:(keys g).Nodup)(rows:List (List Int))(here low high:Int)(h:high-low<=d)(hl:low<=high) : (((List.range (low+d-here+1-(high-d-here)).toNat).map λ(i:Nat)=>(high-d-here)+(i:Int)).map (term b d g rows here low high)).sum=tg g λx=>if high-d<=here+x/\here+x<=low+d then dC b d rows (mn low (here+x)) (mx high (here+x)) else 0:=by
 rw[uq]
 have e:∀x,(if high-(d:Int)<=here+x/\here+x<=low+(d:Int) then dC b d rows (mn low (here+x)) (mx high (here+x)) else 0)=if (high-(d:Int)-here)<=x/\x<(high-(d:Int)-here)+((low+(d:Int)-here+1-(high-(d:Int)-here)).toNat:Int) then dC b d rows (mn low (here+x)) (mx high (here+x)) else 0:=λx=>by
  by_cases z:high-(d:Int)<=here+x/\here+x<=low+(d:Int);.rw[if_pos z,if_pos (by lia)]
  .rw[if_neg z,if_neg (by lia)]
 rw[F_ e,M' nd];show Mq.jT λt h1 h2=>?_;unfold term;rw[if_pos (by lia)]
noncomputable def ju(b d:Nat)(row:List Int)(rows:List (List Int))(here:Int):Option (Int×Int)->Int
 | none=>ng b d row rows here
 | some lh=>nj b d row rows here lh.1 lh.2
end Mx
namespace Hv
open PySem L2
def Z4{κ:Type}[DecidableEq κ]{kvs:List (κ×V)}{k:κ}{v:V}(h:∀kv∈kvs,kv.1=k->kv.2=v)(hs:(cc kvs k).isSome=true):cM kvs k v=kvs:=by
 unfold cM;rw[if_pos (by rw[oF];show hs)];conv=>rhs;rw[<-List.map_id kvs]
 show a2G λkv dj=>?_;by_cases e:kv.1=k
 .rw[if_pos e];have:=h kv dj e;show this▸?_;rfl
 .rw[if_neg e];rfl
def cI.put2(h:cI b d ps ws kvs){i:Nat}(hi:i<4)(hl : -810<=low/\low<=810)(hh : -810<=high/\high<=810) : cI b d ps ws (cM kvs [.inl (i:Int),.inl low,.inl high] (.int (Mx.dC b d ((Ma.ar ps ws).drop i) low high))):=by
 cases e:cc kvs [.inl  i ,.inl low,.inl _] with
 | none=>show h.put hi hl hh e
 | some v =>
  rw[Z4 (λkv dj ek=>?_) (by rw[e];rfl)];.show h
  .obtain⟨j,lo,dh,e1,_,_,_,e2⟩:=h.2 kv dj;rw[ek] at e1;have a2:low=lo:=by injection e1 with _ z;injection z with z _;injection z
   have a3:high=dh:=by simp_all
   have a4:i=j:=by lia
   subst a4 a2 a3;show e2
noncomputable def lK:Option (Int×Int)->V
 | none=>.ax
 | some p=>.int p.1
noncomputable def no:Option (Int×Int)->V
 | none=>.ax
 | some p=>.int p.2
def LH(d:Nat)(low high:Int):Prop:=(-810<=low/\low<=high/\high<=810)/\high-low<=d
inductive nu(r:Nat)(vs:List V)(H:Hp)(Q:VK)(aw:XK):Prop
 | mk:∀(k0:Nat) (sh rl kn f a c:Addr) (rs:List Addr) (bj:List (List Addr)) (b d:Nat) (ps:List Nat) (ws:List Int) (low high:Int),(vs=[.ref sh,.int (k0:Int),.int low,.int high])->(fP H k0 sh rl kn f a c rs bj b d ps ws)->(1<=k0)->(k0+r=ps.length)->(LH d low high)->(d<=4000)->(∀H',(∃kvs,H' kn=some (.dT kvs)/\cI b d ps ws kvs)->Kp [kn] H H'->Q (.int (Mx.dC b d ((Ma.ar ps ws).drop k0) low high)) H')->nu r vs H Q aw
inductive io(r:Nat)(vs:List V)(H:Hp)(Q:VK)(aw:XK):Prop
 | mk:∀(k0:Nat) (sh rl kn f a c:Addr) (rs:List Addr) (bj:List (List Addr)) (b d:Nat) (ps:List Nat) (ws:List Int) (sp:Addr) (fC:Nat) (here:Int) (row:List Int) (lh:Option (Int×Int)),(vs=[.ref sh,.ref sp,lK lh,no lh])->(fP H k0 sh rl kn f a c rs bj b d ps ws)->(H sp=some (.lst [.int (k0:Int),.int (fC:Int),.int here]))->(k0+(r+1)=ps.length)->((Ma.ar ps ws)[k0]?=some row)->(fC<=row.length)->((-(135*(fC:Int))<=here/\here<=135*(fC:Int)))->(d<=4000)->((∀p,lh=some p->LH d p.1 p.2))->(∀H',(∃kvs,H' kn=some (.dT kvs)/\cI b d ps ws kvs)->Kp [kn] H H'->Q (.int (Mx.ju b d (row.drop fC) ((Ma.ar ps ws).drop (k0+1)) here lh)) H')->io r vs H Q aw
def fP.bE{sh rl kn f a c t:Addr}(S:fP H k0 sh rl kn f a c rs bj b d ps ws)(ht:H t=some (.dK (ay g)))(ux:bj[k0]?=some ts)(hm:t∈ts)(k:Kp [t,kn] H H')(h:∃kvs,H' kn=some (.dT kvs)/\cI b d ps ws kvs):fP H' (k0+1) sh rl kn f a c rs bj b d ps ws:=by
 obtain⟨uK,e0,_⟩:=S.kn
 have k':∀x o,H x=some o->(∀kvs,o≠.dT kvs)->x≠t->H' x=some o:=λx o e n nt=>k x o e<|λz=>by
  rcases a1L.mp z with z | z;.show nt z
  .have z':x=kn:=by simpa using z
   rw[z',e0] at e;show n _ (a1Q e).symm
 have k2:∀x o,H x=some o->(∀kvs,o≠.dT kvs)->(∀kvs,o≠.dK kvs)->H' x=some o:=λx o e n n2=>k' x o e n<|λz=>by
  rw[z,ht] at e;show n2 _ (a1Q e).symm
 show⟨k2 _ _ S.hs (λ_ z=>nomatch z) (λ_ z=>nomatch z),⟨k2 _ _ S.fr.tp (λ_ z=>nomatch z) (λ_ z=>nomatch z),k2 _ _ S.fr.hp (λ_ z=>nomatch z) (λ_ z=>nomatch z),k2 _ _ S.fr.hw (λ_ z=>nomatch z) (λ_ z=>nomatch z),S.fr.ok⟩,k2 _ _ S.hr (λ_ z=>nomatch z) (λ_ z=>nomatch z),S.ln,S.lt,λi row ra lJ h1 h2 h3 h4=>?_,S.ap,h⟩;obtain⟨r1,r2,r3⟩:=S.rw i row ra lJ Z h2 h3 h4;show⟨k2 _ _ r1 (λ_ z=>nomatch z) (λ_ z=>nomatch z),r2,λj t' e=>?_⟩;obtain⟨g',h5,h6⟩:=r3 j t' e
 show⟨g',k' _ _ h5 (λ_ z=>nomatch z)<|λz=>by
  subst z;show S.ap k0 i ts lJ Z ux h4 t' hm<|a1K e,h6⟩
def zn:aS ["sheet","part","low","high","rows","d","known","frame"] ["sheet","part","low","high"] (h_ xm):=⟨μ,μ,μ,ξ,μ,ξ,ξ⟩
def Z5(F:aM K "_law_free" "_law_free" xm f fd)(T:Txt mg):aA P w K mg base aI 1 f fd ["sheet","part","low","high"] (nu 0):=by
 show F.ok zn λao A outer s H vs Q E hr h=>?_
 .obtain⟨k0,sh,rl,kn,f,a,c,rs,bj,b,d,ps,ws,low,high,rfl,S,k1,kr,lh,hd,k⟩:=h;have nd:=zn.nd;show⟨_,(b_ (eJ (pv 0)<|rq μ<|r_ (k_ 4)<|r_ (k_ 5)<|r_ (k_ 6)<|r_ (k_ 7) fj) <|b_ (E_ (t_ dI (pv 1) (dw T.len (by rfl)<|pv 4)<|aY _) (g_<|m_ e_) q_) jb),⟨_,μ,sh,_,μ,ae.of S.hs,μ,_,_,μ,_,_,μ,_,_,μ,_,_,μ,μ,?_⟩⟩;show⟨_,μ,_,μ,rl,_,μ,.inl<|ae.of S.hr,μ,_,μ,?_⟩;have hl:(rs.map V.ref).length=k0:=by rw[a1H,S.ln];lia
  rw[hl,decide_eq_true μ];show bI ?_;have e:(Ma.ar ps ws).drop k0=[]:=List.drop_eq_nil_of_le (by rw[Ma.D_];lia);have:=k H S.kn Kp.refl;rw[e] at this;show this
def Et(F:aM K "_law_free" "_law_free" xm f fd)(T:Txt mg)(rH:ak P w K mg base lv "_law_from" ["sheet","spot","low","high"] (io r)):aA P w K mg base aI (lv+1) f fd ["sheet","part","low","high"] (nu (r+1)):=by
 show F.ok zn λao A outer s H vs Q E hr h=>?_
 .obtain⟨k0,sh,rl,kn,f,a,c,rs,bj,b,d,ps,ws,low,high,rfl,S,k1,kr,lh,hd,k⟩:=h;have nd:=zn.nd;have hu:=ic hr;show⟨_,(b_ (eJ (pv 0) (rq μ (r_ (k_ 4) (r_ (k_ 5) (r_ (k_ 6) (r_ (k_ 7) fj)))))) (b_ (E_ (t_ dI (pv 1) (dw T.len η (pv 4)) (aY _)) (g_ (m_ e_)) q_) (b_ (E_ (Hh (UL hu (dJ (a_ (pv 1) (a_ (pv 2) (a_ (pv 3) d_)))) (pv 6))) (g_ (qF hu (pv 6) (dJ (a_ (pv 1) (a_ (pv 2) (a_ (pv 3) d_)))) (o_ rH hr η (a_ (pv 0) (a_ (x_ (a_ (pv 1) (a_ e_ (a_ e_ d_)))) (a_ (pv 2) (a_ (pv 3) d_))))) μ)) q_) (g_ (m_ (kZ hu (pv 6) (dJ (a_ (pv 1) (a_ (pv 2) (a_ (pv 3) d_)))) (λ_ _=>rfl))))))),?_⟩;have l4:=S.fr.ok.l4;have zo:=lh.1;show⟨_,μ,sh,_,μ,ae.of S.hs,μ,_,_,μ,_,_,μ,_,_,μ,_,_,μ,μ,⟨_,μ,_,μ,rl,_,μ,.inl (ae.of S.hr),μ,_,μ,?_⟩⟩;have hl:(rs.map V.ref).length=ps.length:=by rw[a1H,S.ln]
  rw[hl,decide_eq_false (λz=>by injection z with z;lia)];show aG ⟨_,μ,_,μ,_,μ,sz θ,λt1 jZ=>?_⟩;have s1:=f_ (o:=.tup [.int (k0:Int),.int low,.int high]) jZ;have u1:(upd H t1 (.tup [.int (k0:Int),.int low,.int high])) t1=some (.tup (([.inl (k0:Int),.inl low,.inl high]:List aD).map kV)):=c_;generalize upd H t1 (.tup [.int (k0:Int),.int low,.int high])=H1 at s1 u1⊢;have S1:=S.keep s1;obtain⟨kvs,ek,Na⟩:=S1.kn;show⟨_,μ,kn,_,μ,eU.t ek u1,_,μ,?_⟩;have aZ:∀kvs,cI b d ps ws kvs->∀v,cc kvs [.inl (k0:Int),.inl low,.inl high]=some v->v=.int (Mx.dC b d ((Ma.ar ps ws).drop k0) low high):=λkvs h v e=>h.get e;show Zn (fun σ H'=>σ=[some (.ref sh),some (.int (k0:Int)),some (.int low),some (.int high),some (.ref rl),some (.int d),some (.ref kn),some (.ref f)]/\Kp [kn] H H'/\∃kvs,H' kn=some (.dT kvs)/\cI b d ps ws kvs/\cc kvs [.inl (k0:Int),.inl low,.inl high]=some (.int (Mx.dC b d ((Ma.ar ps ws).drop k0) low high))) ?tail (λhc hT=>?au) (λhc=>?els)
  case els =>
   show⟨μ,Kp.of s1,kvs,ek,Na,?_⟩
   cases e:cc kvs [.inl (k0:Int),.inl low,.inl high] with
   | none=>rw[e] at hc;show absurd μ hc
   | some v=>rw[aZ kvs Na v e]
  case au =>
   obtain⟨row,aT⟩:∃row,(Ma.ar ps ws)[k0]?=some row:=⟨_,a2a (by rw[Ma.D_];lia)⟩;show⟨_,μ,_,μ,sz θ,λsp fW=>?_⟩;have s2:=f_ (o:=.lst [.int (k0:Int),.int 0,.int 0]) fW;have u2:(upd H1 sp (.lst [.int (k0:Int),.int 0,.int 0])) sp=_:=c_;generalize upd H1 sp (.lst [.int (k0:Int),.int 0,.int 0])=H2 at s2 u2⊢;have S2:=S1.keep s2;show⟨_,μ,_,μ,k0,sh,rl,kn,f,a,c,rs,bj,b,d,ps,ws,sp,0,0,row,some (low,high),μ,S2,u2,kr,aT,a2u _,⟨ζ,ζ⟩,hd,λp hp=>by cases hp;show lh,λH3 nv k3=>?_⟩;obtain⟨a1B,Z6,Nb⟩:=nv;show⟨_,μ,_,μ,_,μ,_,μ,sz θ,λt2 pJ=>?_⟩;have s4:=f_ (o:=.tup [.int (k0:Int),.int low,.int high]) pJ;have u4:(upd H3 t2 (.tup [.int (k0:Int),.int low,.int high])) t2=some (.tup (([.inl (k0:Int),.inl low,.inl high]:List aD).map kV)):=c_;generalize upd H3 t2 (.tup [.int (k0:Int),.int low,.int high])=H4 at s4 u4⊢
   have ev:Mx.ju b d (row.drop 0) ((Ma.ar ps ws).drop (k0+1)) 0 (some (low,high))=Mx.dC b d ((Ma.ar ps ws).drop k0) low high:=by
    change Mx.nj b d (row.drop 0) ((Ma.ar ps ws).drop (k0+1)) 0 low high=_;rw[a3X,<-Mx.Zv];congr 1;show(a3D (by rw[Ma.D_];lia)).trans (by rw[(a1I.mp aT).2]) |>.symm
   show ev▸?_;show⟨kn,_,μ,kY.t (s4 _ _ Z6) u4 Nb.len,hT _ _ ⟨μ,?_,_,c_,Nb.put2 Z Z Z,?_⟩⟩;.show dL (((Kp.of (s1.trans s2)).trans k3).same s4) (.inl θ)
   .rw[Uw,if_pos μ]
  rintro σ H5 ⟨rfl,k5,Z7,Nd,Z8,Z9⟩;show⟨_,μ,_,μ,_,μ,_,μ,sz θ,λt3 DX=>?_⟩;have s6:=f_ (o:=.tup [.int (k0:Int),.int low,.int high]) DX;have u6:(upd H5 t3 (.tup [.int (k0:Int),.int low,.int high])) t3=some (.tup (([.inl (k0:Int),.inl low,.inl high]:List aD).map kV)):=c_;show⟨kn,.int (Mx.dC b d ((Ma.ar ps ws).drop k0) low high),μ,?_,k _ ⟨Z7,s6 _ _ Nd,Z8⟩ (k5.same s6)⟩;rw[<-Z9];show eU.t (s6 _ _ Nd) u6
def Z':decide (lK lh=.ax)=lh.isNone:=by
 cases lh with
 | none=>rfl
 | some p=>rfl
def Nf:aS ["sheet","spot","low","high","rows","d","known","frame","part","told","here","rests","some","total","rest","whole","ends"] ["sheet","spot","low","high"] (h_ xo):=⟨μ,μ,μ,ξ,μ,ξ,ξ⟩
def nw(F:aM K "_law_from" "_law_from" xo f fd)(T:Txt mg)(Ng:ak P w K mg base lv "_law_free" ["sheet","part","low","high"] (nu r)):aA P w K mg base aI (lv+1) f fd ["sheet","spot","low","high"] (io r):=by
 show F.ok Nf λao A outer s H vs Q E hr h=>?_
 .obtain⟨k0,sh,rl,kn,f,a,c,rs,bj,b,d,ps,ws,sp,fC,here,row,lh,rfl,S,fW,kr,aT,bP,hhe,hd,zo,k⟩:=h;have nd:=Nf.nd;have hu:=ic hr;show⟨_,(b_ (eJ (pv 0) (rq μ (r_ (k_ 4) (r_ (k_ 5) (r_ (k_ 6) (r_ (k_ 7) fj)))))) (b_ (eJ (pv 1) (rq μ (r_ (k_ 8) (r_ (k_ 9) (r_ (k_ 10) fj))))) (b_ (i_ 11 (bf (bf (pv 4) (pv 8)) (pv 9))) (b_ (E_ (t_ mi (pv 2) cX (aY _)) (g_ (m_ (Zt (p_ (xS μ) η T.sum boot_sum (a_ (jg (h_ xo) ["sheet","spot","low","high","rows","d","known","frame","part","told","here","rests","some","total","rest","whole","ends"] ["rests","sheet","part","here"] [11,0,8,10] μ (oM (pv 11)) (λcl C s H fp=>fm) (λcl C s H fp=>(n_ Q_ (kZ hu (pv 1) (pv 0) (λ_ _=>rfl)) (o_ Ng hr η (a_ (pv 2) (a_ (n_ u_ (pv 3) e_) (a_ (n_ u_ (pv 4) (pv 0)) (a_ (n_ u_ (pv 4) (pv 0)) d_))))))) ξ) d_))))) q_) (b_ (i_ 12 (J_ (VD μ) η T.list boot_list (a_ (pv 11) d_))) (b_ (E_ (t_ kH (n_ R_ (n_ u_ (n_ Q_ e_ (pv 5)) (pv 2)) (pv 3)) (p_ UU η T.len PySem.boot_len (a_ (pv 11) d_)) (aY _)) (g_ (i_ 12 (Zr μ T.list T.range η η (a_ (n_ R_ (n_ R_ (pv 3) (pv 5)) (pv 10)) (a_ (n_ u_ (n_ R_ (n_ u_ (pv 2) (pv 5)) (pv 10)) e_) d_))))) q_) (b_ (i_ 13 e_) (b_ (B_ PassesOwn.never μ (I_ (pv 12)) (k_ 14) (b_ (i_ 15 (n_ u_ (pv 10) (pv 14))) (g_ (E_ (PW.pt (vN (Hh (UK hu (pv 14) (pv 11))) (vM (AQ jG jG (n_ R_ (pv 3) (pv 5)) (pv 15) (n_ u_ (pv 2) (pv 5)))))) (b_ (i_ 16 (x_ (a_ (p_ (sL μ) η T.min boot_min (a_ (pv 2) (a_ (pv 15) d_))) (a_ (p_ (AR μ) η T.max boot_max (a_ (pv 3) (a_ (pv 15) d_))) d_)))) (g_ (i_ 13 (n_ u_ (pv 13) (n_ Q_ (kZ hu (pv 11) (pv 14) (λ_ _=>rfl)) (o_ Ng hr η (a_ (pv 0) (a_ (n_ u_ (pv 8) e_) (a_ (bf (pv 16) e_) (a_ (bf (pv 16) e_) d_)))))))))) q_)))) (g_ (m_ (pv 13))))))))))),?_⟩;have ok:=S.fr.ok;have jV:row∈Ma.ar ps ws:=a1K aT;have ZU:=Ma.O_ (λp hp=>(ok.pr p hp).2) jV;obtain⟨ra,mW⟩:∃ra,rs[k0]?=some ra:=⟨_,a2a (by rw[S.ln];lia)⟩;obtain⟨ts,ux⟩:∃ts,bj[k0]?=some ts:=⟨_,a2a (by rw[S.lt];lia)⟩;obtain⟨r1,r2,r3⟩:=S.rw k0 row ra ts (a1M _) aT mW ux;obtain⟨t,ht⟩:∃t,ts[fC]?=some t:=⟨_,a2a Z⟩;obtain⟨g,hg,rJ,gv,Eu⟩:=r3 fC t ht;have htm:t∈ts:=a1K ht;have jY:(row.drop fC).length=row.length-fC:=a2k
  have Nh:∀q∈g,-810<=here+q.1/\here+q.1<=810:=λq hq=>by
   have:=rJ.bd q.1 (a1U.mpr ⟨q,hq,μ⟩);rw[jY] at this;lia
  show⟨_,μ,sh,_,μ,ae.of S.hs,μ,_,_,μ,_,_,μ,_,_,μ,_,_,μ,μ,⟨_,μ,sp,_,μ,ae.of fW,μ,_,_,μ,_,_,μ,_,_,μ,μ,?_⟩⟩;show⟨_,μ,_,μ,rl,_,_,_,μ,μ,ae.of S.hr,Z_ (by rw[a1O,mW];rfl),⟨_,μ,ra,_,_,_,μ,μ,ae.of r1,Z_ (by rw[a1O,ht];rfl),?_⟩⟩;show⟨_,μ,μ,_,μ,?_⟩;rw[Z'];have S1:=S.up (show k0<=k0+1 by lia);obtain⟨uK,rK,Ev⟩:=S.kn;have zp:t≠kn:=λz=>by rw[z,rK] at hg;cases hg
  cases lh with
  | none =>
   show bI ⟨_,μ,t,ay g,μ,hg,λo=>UZ (λi ys H'=>ys=((g.take i).map λq=>q.2*Mx.dC b d ((Ma.ar ps ws).drop (k0+1)) (here+q.1) (here+q.1)).map V.int/\H' t=some (.bE o (.dK (ay g)))/\Kp [t,kn] H H'/\∃kvs,H' kn=some (.dT kvs)/\cI b d ps ws kvs) ⟨μ,c_,dL Kp.refl (.inl θ),uK,by rw[j_ zp.symm];show rK,Ev⟩ (λi ys H' _ h=>h.2.1) ?_ ?_⟩
   .rintro i kk v ys H1 hk ⟨rfl,f1,k1,Ew⟩;obtain⟨q,hq,rfl,rfl⟩:=oZ hk;have qm:=a1K hq;have mH:=Nh q qm;have hv:=gv q qm;have gl:=rJ.len (m:=135*(row.drop fC).length);have KI:g.length<=1621:=by rw[jY] at gl;lia
    have dg:eU H1 t (.int q.1) (some (.int q.2)):=by
     have z:=L_ (k:=q.1) (.inr ⟨o,f1⟩);rw[Me.gN rJ.nd qm] at z;show z
    have SF:=S.bE hg ux htm k1 Ew;show⟨bK (by rw[a1H,a1H,a2d];lia),_,μ,_,μ,t,.int q.2,μ,dg,(⟨_,μ,_,μ,_,_,μ,μ,_,μ,_,μ,_,_,μ,μ,_,μ,_,μ,_,_,μ,μ,k0+1,sh,rl,kn,f,a,c,rs,bj,b,d,ps,ws,here+q.1,here+q.1,θ,SF,Z,Z,⟨⟨mH.1,a2U _,mH.2⟩,Z⟩,hd,λH2 zq k2=>?_⟩)⟩;show⟨_,_,μ,μ,.inl ⟨Z,Z⟩,?_,?_,?_,zq⟩
    .rw[a1P,hq];simp
    .show k2 _ _ f1 (by simpa using zp)
    .show λx ob e n=>k2 _ _ (k1 x ob e n) (λz=>n (a2m _ z))
   .rintro ys H1 ⟨rfl,f1,k1,Ew⟩ wl cO;have el:(ay g).length=g.length:=by rw[ay,a1H]
    rw[el,a1T]
    show⟨wl,_,μ,ae.of c_,t,o,ay g,?_,(λo' u z=>by
     have z':H t=some (.bE o' u):=z;rw[hg] at z';cases z'),?_⟩;.show(f_ cO) _ _ f1
    .have e1:((g.map λq=>q.2*Mx.dC b d ((Ma.ar ps ws).drop (k0+1)) (here+q.1) (here+q.1))).sum=Mx.ju b d (row.drop fC) ((Ma.ar ps ws).drop (k0+1)) here none:=by
      change Mg.tg g (λx=>Mx.dC b d ((Ma.ar ps ws).drop (k0+1)) (here+x) (here+x))=Mx.ng b d (row.drop fC) ((Ma.ar ps ws).drop (k0+1)) here;rw[Eu];rfl
     rw[e1];obtain⟨a0a,ek1,a0b⟩:=Ew;show k _ ⟨a0a,?_,a0b⟩ (λx ob e n=>?_)
     .rw[j_ zp.symm];show(f_ cO) _ _ ek1
     .by_cases hx:x=t;.rw[hx,c_,<-hg,<-hx];show e
      .rw[j_ hx]
       show(f_ cO) _ _ (k1 x ob e (λz=>by
        rcases a1L.mp z with z | z;.show hx z
        .show n z))
  | some lh0 =>
   obtain⟨lo,hi⟩:=lh0;obtain⟨⟨b1,b2,b3⟩,b4⟩:=zo (lo,hi) μ;have gl:=rJ.len (m:=135*(row.drop fC).length);have KI:g.length<=1621:=by rw[jY] at gl;lia
   show aG ⟨_,μ,t,ay g,μ,.inl hg,λl1 bV=>?_⟩
   have e1:((ay g).map λq=>kV q.1)=(Me.keys g).map V.int:=by
    unfold ay Me.keys;rw[a3i,a3i];rfl
   rw[e1];have s1:=f_ (o:=.lst ((Me.keys g).map V.int)) bV;have u1:(upd H l1 (.lst ((Me.keys g).map V.int))) l1=_:=c_;generalize upd H l1 (.lst ((Me.keys g).map V.int))=H1 at s1 u1⊢;show⟨_,μ,_,_,μ,μ,.inl ⟨ζ,ζ⟩,_,μ,_,_,μ,μ,_,μ,_,_,μ,μ,_,μ,t,_,μ,s1 _ _ hg,_,_,μ,μ,_,μ,(CK (fun σ H'=>∃(l2:Addr) (L:List Int),σ=[some (.ref sh),some (.ref sp),some (.int lo),some (.int hi),some (.ref rl),some (.int d),some (.ref kn),some (.ref f),some (.int (k0:Int)),some (.int (fC:Int)),some (.int here),some (.ref t),some (.ref l2),none,none,none,none]/\af H H'/\H' l2=some (.lst (L.map V.int))/\l2≠kn/\(L.map (Mx.term b d g ((Ma.ar ps ws).drop (k0+1)) here lo hi)).sum=Mx.ju b d (row.drop fC) ((Ma.ar ps ws).drop (k0+1)) here (some (lo,hi))) ?tail (λhT=>?au) ?els)⟩
   case els =>
    show⟨l1,Me.keys g,μ,s1,u1,(λz=>by rw[z,rK] at bV;cases bV),?_⟩;rw[Mx.Z2 rJ.nd,Eu];rfl
   case au =>
    show⟨_,μ,_,μ,_,_,μ,μ,_,μ,_,_,μ,μ,_,μ,_,μ,_,_,μ,μ,_,μ,_,_,μ,μ,_,_,μ,μ,_,_,μ,⟨Z,Z,Z,Z⟩,λl2 bz=>?_⟩;have s2:=f_ (o:=.lst ((List.range (lo+(d:Int)-here+1-(hi-(d:Int)-here)).toNat).map λ(i:Nat)=>V.int ((hi-(d:Int)-here)+(i:Int)))) bz;show hT _ _ ⟨l2,(List.range (lo+(d:Int)-here+1-(hi-(d:Int)-here)).toNat).map λ(i:Nat)=>(hi-(d:Int)-here)+(i:Int),μ,s1.trans s2,?_,(λz=>by rw[z,s1 _ _ rK] at bz;cases bz),?_⟩;.rw[c_,a3i];rfl
    .rw[Mx.Z3 rJ.nd _ _ _ _ b4 b2,Eu];rfl
   rintro σ H2 ⟨l2,L,rfl,s2,h2,nl2,hL⟩;show⟨_,μ,l2,μ,⟨_,ae.of h2⟩,Y_ (K:=K) (a:=l2) (xs:=L.map V.int) (λi σ H'=>∃(ip iq dO:Option V),σ=[some (.ref sh),some (.ref sp),some (.int lo),some (.int hi),some (.ref rl),some (.int d),some (.ref kn),some (.ref f),some (.int (k0:Int)),some (.int (fC:Int)),some (.int here),some (.ref t),some (.ref l2),some (.int ((L.take i).map (Mx.term b d g ((Ma.ar ps ws).drop (k0+1)) here lo hi)).sum),ip,iq,dO]/\Kp [kn] H2 H'/\∃kvs,H' kn=some (.dT kvs)/\cI b d ps ws kvs) ⟨none,none,none,μ,Kp.refl,uK,s2 _ _ rK,Ev⟩ (λi σ H' _ h=>by obtain⟨_,_,_,_,z,_⟩:=h;show ae.of (z _ _ h2 (by simpa using nl2))) ?_ ?_⟩
   .rintro i x σ H3 hx ⟨ip,iq,dO,rfl,k3,nv⟩;obtain⟨y,hy,rfl⟩:=Di hx;have g3:H3 t=some (.dK (ay g)):=k3 _ _ (s2 _ _ hg) (by simpa using zp);have K3:Kp [kn] H H3:=(Kp.of s2).trans k3
    have tk:(L.take (i+1)).map (Mx.term b d g ((Ma.ar ps ws).drop (k0+1)) here lo hi)=(L.take i).map (Mx.term b d g ((Ma.ar ps ws).drop (k0+1)) here lo hi)++[Mx.term b d g ((Ma.ar ps ws).drop (k0+1)) here lo hi y]:=by
     rw[a1P,hy,a2i];rfl
    have skip:Mx.term b d g ((Ma.ar ps ws).drop (k0+1)) here lo hi y=0->((L.take (i+1)).map (Mx.term b d g ((Ma.ar ps ws).drop (k0+1)) here lo hi)).sum=((L.take i).map (Mx.term b d g ((Ma.ar ps ws).drop (k0+1)) here lo hi)).sum:=λz=>by
     rw[tk,a2q,z];simp
    show⟨_,μ,_,μ,_,_,μ,μ,⟨_,μ,_,μ,t,_,μ,L_ (.inl g3),_,μ,?_⟩⟩
    cases el:Me.look g y with
    | none =>
     show aG ⟨some (.int y),some (.int (here+y)),dO,?_,k3,nv⟩;rw[skip (by unfold Mx.term Me.gv;rw[el];show a4x _)];rfl
    | some n =>
     have Ni:(y,n)∈g:=by
      unfold Me.look at el;obtain⟨q,hq,rfl⟩:=a4u.mp el;have h1:=a2R hq;have h0:=a4j hq;have h2:q.1=y:=of_decide_eq_true h0;rw[<-h2];show h1
     have mH:=Nh _ Ni;have hv:=gv _ Ni;have eg:Me.gv g y=n:=by unfold Me.gv;rw[el];rfl
     show bI ⟨_,μ,_,μ,_,_,μ,μ,_,μ,_,_,μ,μ,_,μ,?_⟩;by_cases c1:hi-(d:Int)<=here+y
     .rw[decide_eq_true c1];show bI ⟨_,μ,_,μ,_,_,μ,μ,_,_,μ,μ,_,μ,?_⟩;by_cases c2:here+y<=lo+(d:Int)
      .rw[decide_eq_true c2];show bI ⟨_,μ,_,μ,_,_,μ,_,μ,_,μ,_,_,μ,sz θ,λe he=>?_⟩;have s4:=f_ (o:=.lst [.int (Mx.mn lo (here+y)),.int (Mx.mx hi (here+y))]) he;have u4:(upd H3 e (.lst [.int (Mx.mn lo (here+y)),.int (Mx.mx hi (here+y))])) e=_:=c_;have ee:upd H3 e (.lst [.int (if here+y<lo then here+y else lo),.int (if here+y>hi then here+y else hi)])=upd H3 e (.lst [.int (Mx.mn lo (here+y)),.int (Mx.mx hi (here+y))]):=rfl;rw[ee];generalize upd H3 e (.lst [.int (Mx.mn lo (here+y)),.int (Mx.mx hi (here+y))])=H4 at s4 u4⊢
       have dg:eU H4 t (.int y) (some (.int n)):=by
        have z:=L_ (k:=y) (.inl (s4 _ _ g3));rw[el] at z;show z
       have K4:Kp [kn] H H4:=K3.same s4;have uO:∃kvs,H4 kn=some (.dT kvs)/\cI b d ps ws kvs:=let ⟨kvs,e1,e2⟩:=nv;⟨kvs,s4 _ _ e1,e2⟩
       have SF:=S1.kp K4 uO;have m1:Mx.mn lo (here+y)<=lo/\Mx.mn lo (here+y)<=here+y/\(Mx.mn lo (here+y)=lo\/Mx.mn lo (here+y)=here+y):=by unfold Mx.mn;split <;> lia
       have m2:hi<=Mx.mx hi (here+y)/\here+y<=Mx.mx hi (here+y)/\(Mx.mx hi (here+y)=hi\/Mx.mx hi (here+y)=here+y):=by unfold Mx.mx;split <;> lia
       show⟨_,μ,_,μ,_,μ,t,.int n,μ,dg,(⟨_,μ,_,μ,_,_,μ,μ,_,μ,e,_,_,_,μ,μ,ae.of u4,μ,_,μ,e,_,_,_,μ,μ,ae.of u4,μ,k0+1,sh,rl,kn,f,a,c,rs,bj,b,d,ps,ws,Mx.mn lo (here+y),Mx.mx hi (here+y),θ,SF,Z,Z,⟨⟨Z,Z,Z⟩,Z⟩,hd,λH5 kn5 k5=>?_⟩)⟩;show⟨_,_,μ,μ,.inl ⟨Z,Z⟩,_,_,μ,μ,some (.int y),some (.int (here+y)),some (.ref e),?_,((k3.same s4).trans k5),kn5⟩;rw[tk,a2q];unfold Mx.term;rw[if_pos ⟨c1,c2⟩,eg];simp
      .rw[decide_eq_false c2];show aG ⟨some (.int y),some (.int (here+y)),dO,?_,k3,nv⟩;rw[skip (by unfold Mx.term;rw[if_neg (λz=>c2 z.2)];show a4y _)];rfl
     .rw[decide_eq_false c1];show aG ⟨false,μ,aG ⟨some (.int y),some (.int (here+y)),dO,?_,k3,nv⟩⟩;rw[skip (by unfold Mx.term;rw[if_neg (λz=>c1 z.1)];show a4y _)];rfl
   .rintro σ H3 ⟨ip,iq,dO,rfl,k3,nv⟩;rw[a1H,a1T,hL];show⟨_,μ,k _ nv ((Kp.of s2).trans k3)⟩
end Hv
namespace Mx
open Me Mg Mu
section
variable{b d n p t c:Nat}{ws row:List Int}
def sg_(hb:0<b)(ht:t<p):n / b ^ aF p ps2 t*b+c=n / b ^ (p+ps2.sum)*b ^ (t+1)+(n / b ^ aF p ps2 t % b ^ t*b+c):=by
 have:=LY (b:=b) (n:=n) (k:=aF p ps2 t) (i:=t);rw[show aF p ps2 t+t=p+ps2.sum by lia] at this;conv=>lhs;rw[this]
 rw[a2S,a2F,a2P];lia
def Ex(hb:0<b)(hc:c<b):n / b ^ aF p ps2 t % b ^ t*b+c<b ^ (t+1):=by
 have h1:n / b ^ aF p ps2 t % b ^ t<b ^ t:=a3N _ (a2J hb);have:(n / b ^ aF p ps2 t % b ^ t+1)*b<=b ^ t*b:=a2z _ h1;rw[a2S];lia
def Nj(hc:c<b)(ef:row[t]?=some wt):bt b (n / b ^ aF p ps2 t % b ^ t*b+c) (row.take (t+1))=bt b (n / b ^ aF p ps2 t % b ^ t) (row.take t)+(c:Int)*wt:=by
 rw[a1P,ef];show Dm b _ c (row.take t) wt hc
def Ey(hb:0<b)(lL:ps=ps1++p::ps2)(ht:t<p):aR b d ps ws ((n / b ^ aF p ps2 t*b+(c+1))*b ^ aF p ps2 (t+1))=aR b d ps ws ((n / b ^ aF p ps2 t*b+c)*b ^ aF p ps2 (t+1))+ns (λi=>j0 d (bG b ((n / b ^ (p+ps2.sum)*b ^ (t+1)+(n / b ^ aF p ps2 t % b ^ t*b+c))*b ^ aF p ps2 (t+1)+i) (ps1++p::ps2) ws)) (b ^ aF p ps2 (t+1)):=by
 rw[<-sg_ hb ht,<-a3c,a2F _ 1,a3J];unfold aR;rw[re,lL];rfl
def si_(hb:0<b)(hw:ws.length=(p::ps2).sum)(er:ws.take p=row)(ht:t<p)(hc:c<b)(ef:row[t]?=some wt)(hn:n<b ^ (p::ps2).sum) : aR b d (p::ps2) ws ((n / b ^ aF p ps2 t*b+(c+1))*b ^ aF p ps2 (t+1))=aR b d (p::ps2) ws ((n / b ^ aF p ps2 t*b+c)*b ^ aF p ps2 (t+1))+ng b d (row.drop (t+1)) (Ma.ar ps2 (ws.drop p)) (bt b (n / b ^ aF p ps2 t % b ^ t) (row.take t)+(c:Int)*wt):=by
 have hk:=Ey (b:=b) (d:=d) (n:=n) (p:=p) (t:=t) (c:=c) (ps:=p::ps2) (ps1:=[]) (ps2:=ps2) (ws:=ws) hb μ ht;rw[hk,<-Nj hc ef];have h0:n / b ^ (p+ps2.sum)=0:=a3l (by rw[a2b] at hn;show hn);rw[h0,a3j,a3I];congr 1;show MM hb (by rw[a2b] at hw;show hw) er ht (Ex hb hc)
def sh_(hb:0<b)(lL:ps=ps1++p::ps2)(hw:ws.length=ps.sum)(er:(ws.drop ps1.sum).take p=row)(ht:t<p)(hc:c<b)(ef:row[t]?=some wt)(hn:n<b ^ ps.sum)(hp:0<ps1.length) (hd:Ma.aP (bG b (n / b ^ (p+ps2.sum)) ps1 (ws.take ps1.sum))-Ma.aK (bG b (n / b ^ (p+ps2.sum)) ps1 (ws.take ps1.sum))<=d) : aR b d ps ws ((n / b ^ aF p ps2 t*b+(c+1))*b ^ aF p ps2 (t+1))=aR b d ps ws ((n / b ^ aF p ps2 t*b+c)*b ^ aF p ps2 (t+1))+nj b d (row.drop (t+1)) (Ma.ar ps2 (ws.drop (ps1.sum+p))) (bt b (n / b ^ aF p ps2 t % b ^ t) (row.take t)+(c:Int)*wt) (Ma.aK (bG b (n / b ^ (p+ps2.sum)) ps1 (ws.take ps1.sum))) (Ma.aP (bG b (n / b ^ (p+ps2.sum)) ps1 (ws.take ps1.sum))):=by
 rw[Ey hb lL ht,<-Nj hc ef];rw[lL] at hn hw;congr 1;show ZB hb (by rw[a2q,a2b] at hw;show hw) er ht (y' hb hn) (Ex hb hc) hp μ μ hd
theorem Nk(hb:0<b)(lL:ps=ps1++p::ps2)(hw:ws.length=ps.sum)(er:(ws.drop ps1.sum).take p=row)(ht:t<p)(hn:n<b ^ ps.sum)(hp:0<ps1.length) (hd:¬ Ma.aP (bG b (n / b ^ (p+ps2.sum)) ps1 (ws.take ps1.sum))-Ma.aK (bG b (n / b ^ (p+ps2.sum)) ps1 (ws.take ps1.sum))<=d):∀c,c<=b->aR b d ps ws ((n / b ^ aF p ps2 t*b+c)*b ^ aF p ps2 (t+1))=aR b d ps ws ((n / b ^ aF p ps2 t*b+0)*b ^ aF p ps2 (t+1))
 | 0,_=>rfl
 | c+1,hc=>by
  rw[Ey hb lL ht,Nk hb lL hw er ht hn hp hd c (by lia)];rw[lL] at hn hw;have:=ZC (d:=d) hb (by rw[a2q,a2b] at hw;show hw) er ht (y' hb hn) (Ex (n:=n) (ps2:=ps2) (p:=p) (t:=t) hb (show c<b by lia)) hp hd;rw[this,a5h]
def a0c(hb:0<b)(hw:ws.length=(p::ps2).sum):aR b d (p::ps2) ws (b ^ (p::ps2).sum)=ng b d (ws.take p) (Ma.ar ps2 (ws.drop p)) 0:=by
 have h:=MM (d:=d) (v:=0) hb (by show hw) μ (a2u _) θ;rw[a3j] at h;simp only[a3I,a3X,a5q] at h;have e:aF p ps2 0=(p::ps2).sum:=by rw[a2b];lia
 show h
end
end Mx
namespace Hv
open PySem L2
def aA.any{sps:Nat->Sp}(h:∀r,r<n->aA P w K mg base CX k f fd ps (sps r)):aA P w K mg base CX k f fd ps (λvs H Q E=>∃r,r<n/\sps r vs H Q E) := ⟨λvs H Q E ⟨r,hr,q⟩=>(h r hr).len vs H Q E q,λA outer s H args us vs Q E hr he hb hv ⟨r,cf,q⟩=>(h r cf).run A _ s H _ us vs Q E hr he hb hv q⟩
def Ez:Sp:=λvs H Q E=>∃r,r<4/\io r vs H Q E
inductive zr(vs:List V)(H:Hp)(Q:VK)(aw:XK):Prop
 | mk:∀(e:Addr) (ns:List Int) (here:Int),(vs=[.ref e,.int here])->(H e=some (.lst (ns.map V.int)))->(ns.length<=2)->(∀(r:Addr) (H':Hp),H r=none->af H H'->H' r=some (.lst ([Ma.aK (here::ns),Ma.aP (here::ns)].map V.int))->Q (.ref r) H')->zr vs H Q aw
def os_(h0:aA P w K mg base aI 2 f fd l (io 0))(h1:aA P w K mg base aI 4 f fd l (io 1))(h2:aA P w K mg base aI 6 f fd l (io 2))(h3:aA P w K mg base aI 8 f fd l (io 3)):aA P w K mg base aI 8 f fd l Ez :=
 aA.any λr hr=>match r,hr with
  | 0,_=>h0.mono ζ
  | 1,_=>h1.mono ζ
  | 2,_=>h2.mono ζ
  | 3,_=>h3
def Nl:aS ["ends","here"] ["ends","here"] (h_ Cc):=⟨μ,μ,μ,ξ,μ,ξ,ξ⟩
def qB_(F:aM K "_law_ends" "_law_ends" Cc f fd)(T:Txt mg):aA P w K mg base aI 1 f fd ["ends","here"] zr:=by
 show F.ok Nl λao A outer s H vs Q E hr h=>?_
 .obtain⟨e,ns,here,rfl,he,hl,k⟩:=h;show⟨_,(g_ (m_ (x_ (a_ (p_ (tP μ) η T.min boot_min (a_ (n_ mt (x_ (a_ (pv 1) d_)) (pv 0)) d_)) (a_ (p_ (xE μ) η T.max boot_max (a_ (n_ mt (x_ (a_ (pv 1) d_)) (pv 0)) d_)) d_))))),⟨_,μ,sz θ,λl1 bV=>?_⟩⟩;have s1:=f_ (o:=.lst [V.int here]) bV;have u1:(upd H l1 (.lst [V.int here])) l1=_:=c_;generalize upd H l1 (.lst [V.int here])=H1 at s1 u1⊢;show⟨_,μ,l1,e,_,_,μ,μ,u1,s1 _ _ he,sz (by simp;lia),λl2 bz=>?_⟩;have s2:=f_ (o:=.lst ([V.int here]++ns.map V.int)) bz;have u2:(upd H1 l2 (.lst ([V.int here]++ns.map V.int))) l2=some (.lst ((here::ns).map V.int)):=c_;generalize upd H1 l2 (.lst ([V.int here]++ns.map V.int))=H2 at s2 u2⊢;show⟨l2,_,μ,ae.of u2,θ,_,μ,sz θ,λl3 cv=>?_⟩;have s3:=f_ (o:=.lst [V.int here]) cv;have u3:(upd H2 l3 (.lst [V.int here])) l3=_:=c_;generalize upd H2 l3 (.lst [V.int here])=H3 at s3 u3⊢;show⟨_,μ,l3,e,_,_,μ,μ,u3,s3 _ _ (s2 _ _ (s1 _ _ he)),sz (by rw[a1H];simp;lia),λl4 EA=>?_⟩;have s4:=f_ (o:=.lst ([V.int here]++ns.map V.int)) EA;have u4:(upd H3 l4 (.lst ([V.int here]++ns.map V.int))) l4=some (.lst ((here::ns).map V.int)):=c_;have S:=s1.trans (s2.trans (s3.trans s4));show⟨l4,_,μ,ae.of u4,θ,sz θ,λr cf=>k r _ (S.free cf) (S.trans (f_ cf)) c_⟩
end Hv
namespace Mx
open Me Mg Mu
noncomputable def fe(b n:Nat)(ps:List Nat)(ws:List Int)(i:Nat):List Int:=bG b (n / b ^ (ps.sum-(ps.take i).sum)) (ps.take i) (ws.take (ps.take i).sum)
def ir(b n:Nat)(ps:List Nat)(ws:List Int)(i:Nat)(ns:List Int):Prop:=(i=0/\ns=[])\/(0<i/\ns=[Ma.aK (fe b n ps ws i),Ma.aP (fe b n ps ws i)])
noncomputable def cR:List Int->Option (Int×Int)
 | [lo,hi]=>some (lo,hi)
 | _=>none
def rL{i p:Nat}(h:ps[i]?=some p):ps=ps.take i++p::ps.drop (i+1):=by
 have hi:=(a1I.mp h).1;have e:=a3D hi;rw[(a1I.mp h).2] at e;rw[<-e,a2r]
def rM{ps:List Nat}(h:ps[i]?=some p):ps.sum=(ps.take i).sum+(p+(ps.drop (i+1)).sum):=by
 conv=>lhs;rw[rL h]
 rw[a2q,a2b]
def uP{ps:List Nat}(h:ps[i]?=some p):(ps.take (i+1)).sum=(ps.take i).sum+p:=by
 rw[a1P,h,a2q];simp
section
variable{b d n p t c i:Nat}{ws row ns:List Int}
def zt(h:ps[i]?=some p):fe b n ps ws i=bG b (n / b ^ (p+(ps.drop (i+1)).sum)) (ps.take i) (ws.take (ps.take i).sum):=by
 unfold fe;have:=rM h;rw[show ps.sum-(ps.take i).sum=p+(ps.drop (i+1)).sum by lia]
def lY_(hb:0<b)(hw:ws.length=ps.sum)(h:ps[i]?=some p)(hn:n<b ^ ps.sum)(er:(ws.drop (ps.take i).sum).take p=row)(ht:t<p)(hc:c<b)(ef:row[t]?=some wt)(fK:ir b n ps ws i ns)(hd:∀lh,cR ns=some lh->lh.2-lh.1<=d) : aR b d ps ws ((n / b ^ aF p (ps.drop (i+1)) t*b+(c+1))*b ^ aF p (ps.drop (i+1)) (t+1))=aR b d ps ws ((n / b ^ aF p (ps.drop (i+1)) t*b+c)*b ^ aF p (ps.drop (i+1)) (t+1))+ju b d (row.drop (t+1)) ((Ma.ar ps ws).drop (i+1)) (bt b (n / b ^ aF p (ps.drop (i+1)) t % b ^ t) (row.take t)+(c:Int)*wt) (cR ns):=by
 rw[MO,uP h];rcases fK with⟨rfl,rfl⟩ | ⟨hi,rfl⟩
 .have e:=rL h;rw[a5q,a4g,a3I] at e;have es:(ps.take 0).sum=0:=by simp
  rw[es,a3X] at er;rw[es,show(0:Nat)+p=p by lia];change _=_+ng b d (row.drop (t+1)) _ _;have:=si_ (b:=b) (d:=d) (n:=n) (p:=p) (t:=t) (c:=c) (ps2:=ps.drop 1) (ws:=ws) (row:=row) (wt:=wt) hb (by rw[<-e];show hw) er ht hc ef (by rw[<-e];show hn);rw[<-e] at this;show this
 .have eD:=hd _ μ;rw[zt h] at eD⊢;change _=_+nj b d (row.drop (t+1)) _ _ _ _;show sh_ hb (rL h) hw er ht hc ef hn (by rw[a2d];have:=(a1I.mp h).1;lia) eD
def lZ_(hb:0<b)(hw:ws.length=ps.sum)(h:ps[i]?=some p)(hn:n<b ^ ps.sum)(er:(ws.drop (ps.take i).sum).take p=row)(ht:t<p)(hi:0<i)(hd:¬ Ma.aP (fe b n ps ws i)-Ma.aK (fe b n ps ws i)<=d)(c:Nat)(hc:c<=b) : aR b d ps ws ((n / b ^ aF p (ps.drop (i+1)) t*b+c)*b ^ aF p (ps.drop (i+1)) (t+1))=aR b d ps ws ((n / b ^ aF p (ps.drop (i+1)) t*b+0)*b ^ aF p (ps.drop (i+1)) (t+1)):=by
 rw[zt h] at hd;show Nk hb (rL h) hw er ht hn (by rw[a2d];have:=(a1I.mp h).1;lia) hd c hc
def lw_(hb:0<b)(hw:ws.length=ps.sum)(h:ps[i]?=some p)(hn:n<b ^ ps.sum)(er:(ws.drop (ps.take i).sum).take p=row):fe b n ps ws (i+1)=fe b n ps ws i++[bt b (n / b ^ (ps.drop (i+1)).sum % b ^ p) row]:=by
 rw[zt h];have e:=rL h;have hs:=rM h;have:=Zu (n:=n) (ps2:=ps.drop (i+1)) hb (by show e▸?_;show hn) Z er;unfold fe;rw[uP h,show ps.sum-((ps.take i).sum+p)=(ps.drop (i+1)).sum by lia,a1P,h];show this
def Nm(h:0<pre.length):Ma.aK (x::[Ma.aK pre,Ma.aP pre])=Ma.aK (pre++[x])/\Ma.aP (x::[Ma.aK pre,Ma.aP pre])=Ma.aP (pre++[x]):=by
 obtain⟨a1,a2⟩:=Ma.w_ pre h;obtain⟨b1,b2⟩:=Ma.v_ pre h;have hl:0<(x::[Ma.aK pre,Ma.aP pre]).length:=by simp
 obtain⟨c1,c2⟩:=Ma.w_ _ hl;obtain⟨d1,d2⟩:=Ma.v_ _ hl;constructor
 .show Ma.wR ?_ λy hy=>?_;.grind
  .rcases a2l.mp hy with hy | hy
   .have:=d2 (Ma.aK pre) θ;have:=b2 y hy;lia
   .rw[a1X.mp hy];show d2 x θ
 .show Ma.wQ ?_ λy hy=>?_;.grind
  .rcases a2l.mp hy with hy | hy
   .have:=c2 (Ma.aP pre) θ;have:=a2 y hy;lia
   .rw[a1X.mp hy];show c2 x θ
def EB:(fe b n ps ws i).length=(ps.take i).length:=by show Ma.wP _ _
def a0d(hb:0<b)(hw:ws.length=ps.sum)(h:ps[i]?=some p)(hn:n<b ^ ps.sum)(er:(ws.drop (ps.take i).sum).take p=row)(fK:ir b n ps ws i ns):ir b n ps ws (i+1) [Ma.aK (bt b (n / b ^ (ps.drop (i+1)).sum % b ^ p) row::ns),Ma.aP (bt b (n / b ^ (ps.drop (i+1)).sum % b ^ p) row::ns)]:=by
 show .inr ⟨Z,?_⟩;rw[lw_ hb hw h hn er];rcases fK with⟨rfl,rfl⟩ | ⟨hi,rfl⟩
 .have e:fe b n ps ws 0=[]:=a2y (by rw[EB];simp);rfl
 .have hl:0<(fe b n ps ws i).length:=by
   rw[EB,a2d];have:=(a1I.mp h).1;lia
  rw[(Nm hl).1,(Nm hl).2]
def a0e(hb:0<b)(hw:ws.length=ps.sum)(h:ps[i]?=some p)(hn:n<b ^ ps.sum):∀x∈fe b n ps ws i,x∈bG b n ps ws:=λx hx=>by
 have e:=rL h;have hs:=rM h;rw[zt h] at hx;have hu:n / b ^ (p+(ps.drop (i+1)).sum)<b ^ (ps.take i).sum:=y' hb (by show e▸?_;show hn);have aZ:=yO hb _ (p::ps.drop _) ws _ (n % b ^ (p+(ps.drop (i+1)).sum)) hu (by show a3N _<|a2J hb) (by rw[a2b];lia);rw[<-e,a2b,a2D,a3F] at aZ;rw[aZ];show a2n _ hx
end
end Mx
namespace Hv
open PySem L2
def a0f(qx:0<b)(hb:b<=16)(hw:∀x∈r,-9<=x/\x<=9) : -(135*(r.length:Int))<=Mg.bt b q r/\Mg.bt b q r<=135*(r.length:Int):=LP qx hb hw
def Nn(k:Kp [kn] H H')(hk:H kn=some (.dT kvs))(h:H x=some (.lst xs)):H' x=some (.lst xs):=k _ _ h (λz=>by grind)
def sd_(h:Mx.ir b n ps ws i ns):ns=[]\/∃lo hi,ns=[lo,hi]:=by
 rcases h with⟨_,e⟩ | ⟨_,e⟩;.show .inl e
 .show .inr ⟨_,_,e⟩
def sW_{b n d:Nat}(ok:fX b ps ws)(hp:ps[i]?=some p)(hn:n<b ^ ps.sum)(h:Mx.ir b n ps ws i ns)(hd:∀lh,Mx.cR ns=some lh->lh.2-lh.1<=d):∀q,Mx.cR ns=some q->LH d q.1 q.2:=λq hq=>by
 have hdq:=hd q hq;rcases h with⟨_,e⟩ | ⟨hi,e⟩;.rw[e] at hq;cases hq
 .rw[e] at hq;cases hq
  have hl:0<(Mx.fe b n ps ws i).length:=by
   rw[Mx.EB,a2d];have:=(a1I.mp hp).1;lia
  have hb:0<b:=by have:=ok.b2;lia
  have bd:=λx hx=>Ea ok x<|Mx.a0e hb ok.wl hp hn x hx;have h1:=bd _ (Ma.v_ _ hl).1;have h2:=bd _ (Ma.w_ _ hl).1;have h3:=(Ma.v_ _ hl).2 _ (Ma.w_ _ hl).1;show⟨⟨h1.1,h3,h2.2⟩,hdq⟩
def a0g(h:ns=[]\/∃lo hi,ns=[lo,hi]):dc (ns.map V.int++[.ax,.ax]) none (some 2)=[lK (Mx.cR ns),no (Mx.cR ns)]:=by rcases h with rfl | ⟨lo,hi,rfl⟩ <;> rfl
end Hv
namespace Mx
open Me Mg Mu
section
variable{b d n m p t c i q:Nat}{ps:List Nat}{ws row ns:List Int}
def ir.of(h:ir b n ps ws i ns)(e:n / b ^ (ps.sum-(ps.take i).sum)=m / b ^ (ps.sum-(ps.take i).sum)):ir b m ps ws i ns:=by
 unfold ir fe at *;show e▸?_;show h
def No(hb:0<b):q*b ^ aF p (ps.drop (i+1)) t / b ^ aF p (ps.drop (i+1)) t=q:=a4S _ (a2J hb)
def Np(hb:0<b)(h:ps[i]?=some p)(ht:t<=p):q*b ^ aF p (ps.drop (i+1)) t / b ^ (ps.sum-(ps.take i).sum)=q / b ^ t:=by
 have hs:=rM h
 have e:b ^ (ps.sum-(ps.take i).sum)=b ^ aF p (ps.drop (i+1)) t*b ^ t:=by
  rw[<-a2x];congr 1;lia
 rw[e,<-a2E,a4S _ (a2J hb)]
def zu(hb:0<b)(h:ps[i]?=some p)(ht:t<=p)(hq:q<b ^ ((ps.take i).sum+t)):q*b ^ aF p (ps.drop (i+1)) t<b ^ ps.sum:=by
 have hs:=rM h
 have e:b ^ ps.sum=b ^ ((ps.take i).sum+t)*b ^ aF p (ps.drop (i+1)) t:=by
  rw[<-a2x];congr 1;lia
 rw[e];show Nat.mul_lt_mul_of_pos_right hq<|a2J hb
def Nq(hb:0<b)(ht:t<p):(q+1)*b ^ aF p (ps.drop (i+1)) t=(q*b+b)*b ^ aF p (ps.drop (i+1)) (t+1):=by
 have e:b ^ aF p (ps.drop (i+1)) t=b*b ^ aF p (ps.drop (i+1)) (t+1):=by
  rw[<-a3Q];congr 1;lia
 rw[e,<-a2P,a2F,a3J]
def Nr(hb:0<b)(ht:t<p):q*b ^ aF p (ps.drop (i+1)) t=(q*b+0)*b ^ aF p (ps.drop (i+1)) (t+1):=by
 have e:b ^ aF p (ps.drop (i+1)) t=b*b ^ aF p (ps.drop (i+1)) (t+1):=by
  rw[<-a3Q];congr 1;lia
 rw[e,<-a2P];rfl
def a0h(hb:0<b)(hw:ws.length=ps.sum)(h:ps[i]?=some p)(hq:q<b ^ ((ps.take i).sum+t))(er:(ws.drop (ps.take i).sum).take p=row)(ht:t<p)(hc:c<b)(ef:row[t]?=some wt)(fK:ir b (q*b ^ aF p (ps.drop (i+1)) t) ps ws i ns)(hd:∀lh,cR ns=some lh->lh.2-lh.1<=d) : aR b d ps ws ((q*b+(c+1))*b ^ aF p (ps.drop (i+1)) (t+1))=aR b d ps ws ((q*b+c)*b ^ aF p (ps.drop (i+1)) (t+1))+ju b d (row.drop (t+1)) ((Ma.ar ps ws).drop (i+1)) (bt b (q % b ^ t) (row.take t)+(c:Int)*wt) (cR ns):=by
 have:=lY_ (b:=b) (d:=d) (n:=q*b ^ aF p (ps.drop (i+1)) t) (p:=p) (t:=t) (c:=c) (i:=i) (ps:=ps) (ws:=ws) (row:=row) (ns:=ns) (wt:=wt) hb hw h (zu hb h Z hq) er ht hc ef fK hd;rw[No hb] at this;show this
def a0i(hb:0<b)(hw:ws.length=ps.sum)(h:ps[i]?=some p)(hq:q<b ^ ((ps.take i).sum+t))(er:(ws.drop (ps.take i).sum).take p=row)(ht:t<p)(fK:ir b (q*b ^ aF p (ps.drop (i+1)) t) ps ws i ns)(aL:aR b d ps ws (q*b ^ aF p (ps.drop (i+1)) t)<aR b d ps ws ((q+1)*b ^ aF p (ps.drop (i+1)) t)):∀lh,cR ns=some lh->lh.2-lh.1<=d:=λlh hl=>by
 rcases fK with⟨_,rfl⟩ | ⟨hi,rfl⟩;.cases hl
 .cases hl;by_cases z:Ma.aP (fe b (q*b ^ aF p (ps.drop (i+1)) t) ps ws i)-Ma.aK (fe b (q*b ^ aF p (ps.drop (i+1)) t) ps ws i)<=d;.show z
  .exfalso;have:=lZ_ hb hw h (zu hb h Z hq) er ht hi z b (a1M _);rw[No hb,<-Nq hb ht,<-Nr hb ht] at this;lia
end
end Mx
namespace Hv
open PySem L2
inductive uQ(vs:List V)(H:Hp)(Q:VK)(aw:XK):Prop
 | mk:∀(sh rl kn f a c:Addr) (rs:List Addr) (bj:List (List Addr)) (b d:Nat) (ps:List Nat) (ws:List Int) (k:Nat),(vs=[.ref sh,.int k])->(fP H 0 sh rl kn f a c rs bj b d ps ws)->(d<=4000)->(∀(v:V) (H':Hp),(∃kvs,H' kn=some (.dT kvs)/\cI b d ps ws kvs)->Kp [kn] H H'->im b d ps ws k v->Q v H')->uQ vs H Q aw
def Nt:aS ["sheet","k","rows","d","known","frame","number","at","ends","part","size","here","low","high","told","chosen","figure","spot","ways"] ["sheet","k"] (h_ Cd):=⟨μ,μ,μ,ξ,μ,ξ,ξ⟩
def sV_(F:aM K "_law_by" "_law_by" Cd f fd)(T:Txt mg)(EC:ak P w K mg base 1 "_law_many" ["frame"] kX)(rH:ak P w K mg base 8 "_law_from" ["sheet","spot","low","high"] Ez)(ED:ak P w K mg base 1 "_law_ends" ["ends","here"] zr):aA P w K mg base aI 9 f fd ["sheet","k"] uQ:=by
 show F.ok Nt λao A outer s H vs Q E hr h=>?_
 .obtain⟨sh,rl,kn,f,a,c,rs,bj,b,d,ps,ws,n,rfl,S,hd,k⟩:=h;have nd:=Nt.nd;show⟨_,(b_ (eJ (pv 0) (rq μ (r_ (k_ 2) (r_ (k_ 3) (r_ (k_ 4) (r_ (k_ 5) fj)))))) (b_ (E_ (t_ mh (pv 3) e_ (aY _)) (g_ (m_ (bf (x_ (a_ (pv 1) (a_ cX d_))) (J_ kI η T.int boot_int (a_ (ge vZ (pv 1) (o_ EC hr.mo η (a_ (pv 5) d_)) (aY _)) d_))))) q_) (b_ (E_ (t_ vZ (pv 1) (o_ rH hr η (a_ (pv 0) (a_ (x_ (a_ e_ (a_ e_ (a_ e_ d_)))) (a_ cX (a_ cX d_))))) (aY _)) (g_ (m_ cX)) q_) (b_ (i_ 6 e_) (b_ (i_ 7 e_) (b_ (i_ 8 (x_ d_)) (b_ (B_ PassesOwn.never μ (Uf η T.enum (aW (pv 5) e_)) (kF μ (r_ (k_ 9) (r_ (k_ 10) fj))) (b_ (i_ 11 e_) (b_ (eJ (jH kN (n_ mt (pv 8) (x_ (a_ cX (a_ cX d_)))) qj (gH e_)) (rq μ (r_ (k_ 12) (r_ (k_ 13) fj)))) (b_ (B_ PassesOwn.never μ (z_ η T.range (a_ (pv 10) d_)) (k_ 14) (b_ (i_ 15 cX) (b_ (B_ PassesOwn.never μ (z_ η T.range (a_ (aW (pv 5) e_) d_)) (k_ 16) (g_ (E_ (t_ mi (pv 15) cX (aY _)) (b_ (i_ 17 (x_ (a_ (pv 9) (a_ (n_ u_ (pv 14) e_) (a_ (n_ u_ (pv 11) (n_ Q_ (pv 16) (bf (aW (pv 5) e_) (pv 7)))) d_))))) (b_ (i_ 18 (o_ rH hr η (a_ (pv 0) (a_ (pv 17) (a_ (pv 12) (a_ (pv 13) d_)))))) (g_ (E_ (t_ kH (pv 1) (pv 18) (aY _)) (g_ (i_ 15 (pv 16))) (g_ (i_ 1 (n_ R_ (pv 1) (pv 18)))))))) q_))) (b_ (i_ 11 (n_ u_ (pv 11) (n_ Q_ (pv 15) (bf (aW (pv 5) e_) (pv 7))))) (b_ (i_ 6 (n_ u_ (n_ Q_ (pv 6) (aW (pv 5) e_)) (pv 15))) (g_ (i_ 7 (n_ u_ (pv 7) e_)))))))) (g_ (i_ 8 (o_ ED hr.mo η (a_ (pv 8) (a_ (pv 11) d_))))))))) (g_ (m_ (pv 6)))))))))),?_⟩;have ok:=S.fr.ok;have b2:=ok.b2;have b8:=ok.b8;have hb:0<b:=by lia
  have l2:=ok.l2;have l4:=ok.l4;have lm:=ok.sum;have cO:=ok.wl;have hpp:=MH ok;obtain⟨uK,rK,Ev⟩:=S.kn;show⟨_,μ,sh,_,μ,ae.of S.hs,μ,_,_,μ,_,_,μ,_,_,μ,_,_,μ,μ,⟨_,μ,_,_,μ,μ,_,μ,dQ (λhc=>?_) (λhc=>?_)⟩⟩
  .have fi:=of_decide_eq_true hc;show⟨_,μ,sz θ,λl1 bV=>?_⟩;have s1:=f_ (o:=.lst [V.int (n:Int),V.ax]) bV;have u1:(upd H l1 (.lst [V.int (n:Int),V.ax])) l1=_:=c_;generalize upd H l1 (.lst [V.int (n:Int),V.ax])=H1 at s1 u1⊢;show⟨_,μ,_,μ,f,a,c,b,ps,ws,μ,S.fr.keep s1,λH2 s2=>⟨_,_,μ,μ,.inr ⟨_,μ,?_⟩⟩⟩;have S2:=s1.trans s2;by_cases hn:b ^ ps.sum<=n
   .rw[decide_eq_true (show((b ^ ps.sum:Nat):Int)<=(n:Int) by lia)];show bU (v:=.ax) (s2 _ _ u1) μ (k .ax H2 (S.keep S2).kn (Kp.of S2) (.inl ⟨μ,?_⟩));rw[Mx.Eb ok (by lia)];lia
   .rw[decide_eq_false (show ¬ ((b ^ ps.sum:Nat):Int)<=(n:Int) by lia)];show bU (v:=.int (n:Int)) (s2 _ _ u1) μ (k (.int n) H2 (S.keep S2).kn (Kp.of S2) (.inr ⟨n,μ,Z,Mx.MG ok Z,Mx.Eb ok Z n⟩))
  obtain⟨p0,ps0,Nu⟩:∃p ps2,ps=p::ps2:=by
   cases ps with
   | nil=>simp at l2
   | cons p ps2=>show⟨p,ps2,μ⟩
  show⟨_,μ,_,μ,sz θ,λzw a0j=>?_⟩;have s1:=f_ (o:=.lst [V.int 0,V.int 0,V.int 0]) a0j;have u1:(upd H zw (.lst [V.int 0,V.int 0,V.int 0])) zw=_:=c_;generalize upd H zw (.lst [V.int 0,V.int 0,V.int 0])=H1 at s1 u1⊢;have a0k:(Ma.ar ps ws)[0]?=some (ws.take p0):=by rw[Nu,Ma.ar];rfl
  show⟨ps.length-1,Z,0,sh,rl,kn,f,a,c,rs,bj,b,d,ps,ws,zw,0,0,ws.take p0,none,μ,S.keep s1,u1,Z,a0k,a2u _,⟨ζ,ζ⟩,hd,λq hq=>(by cases hq),λH2 zq k2=>?_⟩
  have ev:Mx.ju b d ((ws.take p0).drop 0) ((Ma.ar ps ws).drop (0+1)) 0 none=Mx.aR b d ps ws (b ^ ps.sum):=by
   change Mx.ng b d ((ws.take p0).drop 0) ((Ma.ar ps ws).drop 1) 0=_;rw[Nu] at cO⊢;rw[Mx.a0c hb cO,Ma.ar];rfl
  rw[ev];have nA:Kp [kn] H H2:=(Kp.of s1).trans k2;show⟨_,_,μ,μ,_,μ,dQ (λgq=>?_) (λmG=>?_)⟩;.show k .ax H2 zq nA (.inl ⟨μ,of_decide_eq_true gq⟩)
  have DY:(n:Int)<Mx.aR b d ps ws (b ^ ps.sum):=by
   have:¬ Mx.aR b d ps ws (b ^ ps.sum)<=(n:Int):=λz=>mG (decide_eq_true z);lia
  show⟨sz ζ,λe0 EE=>?_⟩;have s3:=f_ (o:=.lst []) EE;have u3:(upd H2 e0 (.lst [])) e0=some (.lst (([]:List Int).map V.int)):=c_;generalize upd H2 e0 (.lst [])=H3 at s3 u3⊢;have S3:=(S.kp nA zq).keep s3;have SH:∀H',Kp [kn] H3 H'->(∃kvs,H' kn=some (.dT kvs)/\cI b d ps ws kvs)->fP H' 0 sh rl kn f a c rs bj b d ps ws:=λH' k' h'=>S3.kp k' h'
  show⟨_,μ,_,_,_,_,μ,μ,aB.of S3.fr.tp,μ,a,μ,⟨_,ae.of S3.fr.hp⟩,Ui (K:=K) (a:=a) (xs:=az ps) (λi σ H4=>∃(e:Addr) (ns:List Int) (q r:Nat) (v9 bW bQ dD dE ip iq dO gy gz:Option V),σ=[some (.ref sh),some (.int r),some (.ref rl),some (.int d),some (.ref kn),some (.ref f),some (.int q),some (.int (((ps.take i).sum:Nat):Int)),some (.ref e),v9,bW,bQ,dD,dE,ip,iq,dO,gy,gz]/\Kp [kn] H3 H4/\(∃kvs,H4 kn=some (.dT kvs)/\cI b d ps ws kvs)/\H4 e=some (.lst (ns.map V.int))/\Mx.ir b (q*b ^ (ps.sum-(ps.take i).sum)) ps ws i ns/\q<b ^ (ps.take i).sum/\Mx.aR b d ps ws (q*b ^ (ps.sum-(ps.take i).sum))+r=n/\(n:Int)<Mx.aR b d ps ws ((q+1)*b ^ (ps.sum-(ps.take i).sum)))
   ⟨e0,[],0,n,none,none,none,none,none,none,none,none,none,none,μ,Kp.refl,S3.kn,u3,.inl ⟨μ,μ⟩,θ,by rw[a3j];change(0:Int)+n=n;lia,by simp;show DY⟩ (λi σ H4 _ h=>by
    obtain⟨_,_,_,_,_,_,_,_,_,_,_,_,_,_,_,z,_⟩:=h;obtain⟨kv,e1,_⟩:=S3.kn;show ae.of (Nn z e1 S3.fr.hp)) ?_ ?_⟩
  .rintro i x σ H4 tp hx ⟨e,ns,q0,r0,v9,bW,bQ,dD,dE,ip,iq,dO,gy,gz,rfl,k4,uO,e4,uR,EF,jX,Nv⟩ EG;obtain⟨p,hp,rfl⟩:=Kr hx;have gO:i<ps.length:=(a1I.mp hp).1;have yW:=ok.pr p (a1K hp);have aT:=Ma.oB ps ws i p hp;generalize er:(ws.drop (ps.take i).sum).take p=row at aT;have lL:=Mx.rM hp;have cW:row.length=p:=by rw[<-er,a2d,a2k];lia
   have rC:∀y∈row,-9<=y/\y<=9:=λy hy=>ok.wr y (Ma.iK (a1K aT) y hy);have eL0:ps.sum-(ps.take i).sum=Mu.aF p (ps.drop (i+1)) 0:=by unfold Mu.aF;lia
   rw[eL0] at uR jX Nv;have fU:=Mx.a0i (b:=b) (d:=d) (q:=q0) (p:=p) (t:=0) (i:=i) (ps:=ps) (ws:=ws) (row:=row) (ns:=ns) hb cO hp (by simpa using EF) er Z uR Z;have nl:=sd_ uR;have zo:=sW_ ok hp (Mx.zu (q:=q0) hb hp (a2u p) (by simpa using EF)) uR fU;have s5:=f_ (o:=.tup [.int (i:Int),.int (p:Int)]) EG;have u5:(upd H4 tp (.tup [.int (i:Int),.int (p:Int)])) tp=_:=c_;generalize upd H4 tp (.tup [.int (i:Int),.int (p:Int)])=H5 at s5 u5⊢;show⟨tp,_,μ,aB.of u5,μ,_,_,μ,_,_,μ,μ,?_⟩;have e5:=s5 _ _ e4;show⟨_,μ,sz θ,λq1 rD=>?_⟩;have s6:=f_ (o:=.lst [V.ax,V.ax]) rD;have u6:(upd H5 q1 (.lst [V.ax,V.ax])) q1=_:=c_;generalize upd H5 q1 (.lst [V.ax,V.ax])=H6 at s6 u6⊢;show⟨e,q1,_,_,μ,μ,s6 _ _ e5,u6,sz (by rcases nl with rfl | ⟨_,_,rfl⟩ <;> simp),λq2 rE=>?_⟩;have s7:=f_ (o:=.lst (ns.map V.int++[V.ax,V.ax])) rE;have u7:(upd H6 q2 (.lst (ns.map V.int++[V.ax,V.ax]))) q2=_:=c_;generalize upd H6 q2 (.lst (ns.map V.int++[V.ax,V.ax]))=H7 at s7 u7⊢;show⟨_,μ,q2,_,μ,ae.of u7,λq3 hq3=>?_⟩;rw[a0g nl];have s8:=f_ (o:=.lst [lK (Mx.cR ns),no (Mx.cR ns)]) hq3;have u8:(upd H7 q3 (.lst [lK (Mx.cR ns),no (Mx.cR ns)])) q3=_:=c_;generalize upd H7 q3 (.lst [lK (Mx.cR ns),no (Mx.cR ns)])=H8 at s8 u8⊢;show⟨q3,_,μ,ae.of u8,μ,_,_,μ,_,_,μ,μ,?_⟩;have T8:=s5.trans (s6.trans (s7.trans s8));have k8:=k4.same T8;have kn8:∃kvs,H8 kn=some (.dT kvs)/\cI b d ps ws kvs:=let ⟨kv,h1,h2⟩:=uO;⟨kv,T8 _ _ h1,h2⟩
   have e8:=T8 _ _ e4;show⟨_,μ,_,μ,Z,Z,H_ (n:=(p:Int).toNat) (λt σ H9=>∃(q r:Nat) (ip iq dO gy gz:Option V),σ=[some (.ref sh),some (.int r),some (.ref rl),some (.int d),some (.ref kn),some (.ref f),some (.int q),some (.int (((ps.take i).sum+t:Nat):Int)),some (.ref e),some (.int (i:Int)),some (.int (p:Int)),some (.int (Mg.bt b (q % b ^ t) (row.take t))),some (lK (Mx.cR ns)),some (no (Mx.cR ns)),ip,iq,dO,gy,gz]/\Kp [kn] H3 H9/\(∃kvs,H9 kn=some (.dT kvs)/\cI b d ps ws kvs)/\H9 e=some (.lst (ns.map V.int))/\Mx.ir b (q*b ^ Mu.aF p (ps.drop (i+1)) t) ps ws i ns/\q<b ^ ((ps.take i).sum+t)/\Mx.aR b d ps ws (q*b ^ Mu.aF p (ps.drop (i+1)) t)+r=n/\(n:Int)<Mx.aR b d ps ws ((q+1)*b ^ Mu.aF p (ps.drop (i+1)) t)) ⟨q0,r0,ip,iq,dO,gy,gz,by rw[a3u,Nat.mod_one];rfl,k8,kn8,e8,uR,by simpa using EF,jX,Nv⟩ ?_ ?_⟩
   .rintro t σ H9 ht ⟨q,r,ip,iq,dO,gy,gz,rfl,k9,zx,e9,pO,hq,hr,aL⟩;have js:t<p:=by lia
    have ez:(0:Int)+(t:Int)=(t:Int):=a2N _;rw[ez];obtain⟨wt,ef⟩:∃wt,row[t]?=some wt:=⟨_,a2a Z⟩;have hw9:=rC wt (a1K ef)
    have Nw:ws[(ps.take i).sum+t]?=some wt:=by
     rw[<-er,List.getElem?_take,if_pos js,a4m] at ef;show ef
    have hh:=a0f (b:=b) (q:=q % b ^ t) (r:=row.take t) hb b8 λy hy=>rC y (a3G hy);have hrt:(row.take t).length=t:=by rw[a2d];lia
    rw[hrt] at hh;generalize Ny:Mg.bt b (q % b ^ t) (row.take t)=here at hh⊢;have step:=λ(c':Nat) (fi:c'<b)=>Mx.a0h (b:=b) (d:=d) (q:=q) (p:=p) (t:=t) (c:=c') (i:=i) (ps:=ps) (ws:=ws) (row:=row) (ns:=ns) (wt:=wt) hb cO hp hq er js fi ef pO fU;rw[Ny] at step;rw[Mx.Nr hb js] at hr;rw[Mx.Nq hb js] at aL;obtain⟨N,hN⟩:∃N:Nat->Int,N=λc'=>Mx.aR b d ps ws ((q*b+c')*b ^ Mu.aF p (ps.drop (i+1)) (t+1)):=⟨_,μ⟩;have EH:∀c',Mx.aR b d ps ws ((q*b+c')*b ^ Mu.aF p (ps.drop (i+1)) (t+1))=N c':=λc'=>by rw[hN]
    simp only[EH] at step hr aL;have S9:=SH _ k9 zx;show⟨_,μ,_,_,_,_,μ,μ,aB.of S9.fr.tp,μ,_,μ,Z,Z,H_ (n:=(b:Int).toNat) (λc' σ ik=>∃(r':Nat) (ch:V) (dO gy gz:Option V),σ=[some (.ref sh),some (.int r'),some (.ref rl),some (.int d),some (.ref kn),some (.ref f),some (.int q),some (.int (((ps.take i).sum+t:Nat):Int)),some (.ref e),some (.int (i:Int)),some (.int (p:Int)),some (.int here),some (lK (Mx.cR ns)),some (no (Mx.cR ns)),some (.int (t:Int)),some ch,dO,gy,gz]/\Kp [kn] H3 ik/\(∃kvs,ik kn=some (.dT kvs)/\cI b d ps ws kvs)/\ik e=some (.lst (ns.map V.int))/\((ch=.ax/\N c'+r'=n)\/∃c0:Nat,ch=.int c0/\c0<b/\N c0+r'=n/\(n:Int)<N (c0+1))) ⟨r,.ax,dO,gy,gz,μ,k9,zx,e9,.inl ⟨μ,hr⟩⟩ ?_ ?_⟩
    .rintro c' σ ik fi ⟨r',ch,dO,gy,gz,rfl,lM,rN,zy,dY⟩;have EI:c'<b:=by lia
     have ez':(0:Int)+(c':Int)=(c':Int):=a2N _;rw[ez'];show⟨_,μ,μ,_,μ,?_⟩;rcases dY with⟨rfl,cf⟩ | ⟨c0,rfl,h0,h1,h2⟩
     .have lN:=SH _ lM rN;show bI ⟨_,μ,_,μ,_,_,μ,μ,_,μ,_,μ,_,μ,_,_,_,_,μ,μ,aB.of lN.fr.tp,μ,_,μ,c,_,_,_,μ,μ,ae.of lN.fr.hw,Z_ (by rw[a1O,Nw];rfl),_,_,μ,μ,.inr ⟨Z,Z⟩,_,_,μ,μ,sz θ,λsp fW=>?_⟩;have uS:=f_ (o:=.lst [V.int (i:Int),V.int ((t:Int)+1),V.int (here+(c':Int)*wt)]) fW;have uT:(upd ik sp (.lst [V.int (i:Int),V.int ((t:Int)+1),V.int (here+(c':Int)*wt)])) sp=_:=c_;generalize upd ik sp (.lst [V.int (i:Int),V.int ((t:Int)+1),V.int (here+(c':Int)*wt)])=zA at uS uT⊢;have dZ:=Me.xQ (m:=135*(t:Int)) (x:=here) (w:=wt) (d:=c') (b:=b) hh hw9 b8 EI;show⟨_,μ,_,μ,_,μ,_,μ,ps.length-(i+1),Z,i,sh,rl,kn,f,a,c,rs,bj,b,d,ps,ws,sp,t+1,here+(c':Int)*wt,row,Mx.cR ns,μ,(lN.up (a2u i)).keep uS,uT,Z,aT,Z,?_,hd,zo,λEJ Nz nB=>?_⟩
      .push_cast;lia
      have aq:=step c' EI;have NA:=(lM.same uS).trans nB
      have NB:EJ e=some (.lst (ns.map V.int)):=by
       obtain⟨kv,ekv,_⟩:=rN;show Nn nB (uS _ _ ekv) (uS _ _ zy)
      show⟨_,μ,_,μ,_,_,μ,μ,_,μ,dQ (λhl=>?_) (λhl=>?_)⟩
      .have cE:=of_decide_eq_true hl;show⟨_,μ,r',.int (c':Int),some (.int (c':Int)),some (.ref sp),_,μ,NA,Nz,NB,.inr ⟨c',μ,EI,cf,Z⟩⟩
      .have cE:¬ (r':Int)<Mx.ju b d (row.drop (t+1)) ((Ma.ar ps ws).drop (i+1)) (here+(c':Int)*wt) (Mx.cR ns):=λz=>hl (decide_eq_true z);obtain⟨r2,mO⟩:∃r2:Nat,(r':Int)-Mx.ju b d (row.drop (t+1)) ((Ma.ar ps ws).drop (i+1)) (here+(c':Int)*wt) (Mx.cR ns)=(r2:Int):=⟨((r':Int)-Mx.ju b d (row.drop (t+1)) ((Ma.ar ps ws).drop (i+1)) (here+(c':Int)*wt) (Mx.cR ns)).toNat,Z⟩;show⟨_,μ,_,μ,_,_,μ,μ,r2,.ax,some (.int (c':Int)),some (.ref sp),some (.int (Mx.ju b d (row.drop (t+1)) ((Ma.ar ps ws).drop (i+1)) (here+(c':Int)*wt) (Mx.cR ns))),?_,NA,Nz,NB,.inl ⟨μ,Z⟩⟩;rw[<-mO];rfl
     .show aG ⟨r',.int c0,_,_,_,μ,lM,rN,zy,.inr ⟨c0,μ,h0,h1,h2⟩⟩
    .rintro σ ik ⟨r',ch,dO,gy,gz,rfl,lM,rN,zy,dY⟩;have eb:(b:Int).toNat=b:=by lia
     rw[eb] at dY;rcases dY with⟨rfl,cf⟩ | ⟨c0,rfl,h0,h1,h2⟩
     .exfalso;lia
     .have lN:=SH _ lM rN;show⟨_,μ,_,μ,_,μ,_,_,_,_,μ,μ,aB.of lN.fr.tp,μ,_,μ,c,_,_,_,μ,μ,ae.of lN.fr.hw,Z_ (by rw[a1O,Nw];rfl),_,_,μ,μ,.inr ⟨Z,Z⟩,_,_,μ,μ,?_⟩;show⟨_,μ,_,μ,_,_,_,_,μ,μ,aB.of lN.fr.tp,μ,_,_,μ,μ,.inr ⟨Z,Z⟩,_,μ,_,_,μ,μ,⟨_,μ,_,_,μ,μ,q*b+c0,r',some (.int (t:Int)),some (.int (c0:Int)),dO,gy,gz,?_,lM,rN,zy,pO.of ?_,?_,?_,?_⟩⟩
      .have e1:here+(c0:Int)*wt=Mg.bt b ((q*b+c0) % b ^ (t+1)) (row.take (t+1)):=by
        have em:(q*b+c0) % b ^ (t+1)=q % b ^ t*b+c0:=by
         rw[a2S,a2D (b ^ t),Nat.mod_mul,a2D q b,Nat.mul_add_mod,a5g h0,a4k hb,a3l h0,a3h,a2D b];lia
        rw[em,a1P,ef,<-Ny];show(Mg.Dm b _ c0 (row.take t) wt h0).symm
       have e2:(((ps.take i).sum+(t+1):Nat):Int)=(((ps.take i).sum+t:Nat):Int)+1:=by push_cast;lia
       have e3:((q*b+c0:Nat):Int)=(q:Int)*(b:Int)+(c0:Int):=by push_cast;rfl
       rw[<-e1,e2,e3];rfl
      .rw[Mx.Np hb hp Z,Mx.Np hb hp Z,a2S,a2D (b ^ t),<-a2E,a2D q b,a4k hb,a3l h0,a3h]
      .rw[<-a3c,a2S];have:(q+1)*b<=b ^ ((ps.take i).sum+t)*b:=a2z _ hq;rw[a2F] at this;lia
      .rw[EH];show h1
      .rw[a3c,EH];show h2
   .rintro σ H9 ⟨q,r,ip,iq,dO,gy,gz,rfl,k9,zx,e9,pO,hq,hr,aL⟩;have ep:(p:Int).toNat=p:=by lia
    rw[ep] at pO hq hr aL⊢;have NC:Mu.aF p (ps.drop (i+1)) p=(ps.drop (i+1)).sum:=by unfold Mu.aF;lia
    rw[NC] at pO hr aL;have ert:row.take p=row:=a2t Z;rw[ert];show⟨_,μ,_,μ,e,ns,_,μ,e9,by rcases nl with rfl | ⟨_,_,rfl⟩ <;> simp,λe' ik Bm pP ud=>?_⟩;have eS:ps.sum-(ps.take (i+1)).sum=(ps.drop (i+1)).sum:=by rw[Mx.uP hp];lia
    have hqs:q*b ^ (ps.drop (i+1)).sum<b ^ ps.sum:=by
     have:=Mx.zu (q:=q) (t:=p) hb hp (a1M p) hq;rw[NC] at this;show this
    have nx:=Mx.a0d hb cO hp hqs er pO;rw[a4S _ (a2J hb)] at nx;show⟨e',_,q,r,some (.int (i:Int)),some (.int (p:Int)),some (.int (Mg.bt b (q % b ^ p) row)),some (lK (Mx.cR ns)),some (no (Mx.cR ns)),ip,iq,dO,gy,gz,?_,k9.same pP,(let ⟨kv,h1,h2⟩:=zx;⟨kv,pP _ _ h1,h2⟩),ud,by rw[eS];show nx,by rw[Mx.uP hp];show hq,by rw[eS];show hr,by rw[eS];show aL⟩;rw[Mx.uP hp];rfl
  .rintro σ H4 ⟨e,ns,q,r,v9,bW,bQ,dD,dE,ip,iq,dO,gy,gz,rfl,k4,uO,e4,pO,hq,hr,aL⟩;have el:(az ps).length=ps.length:=by simp[az]
   rw[el,a1T] at hq hr aL;rw[a3n,a3u,a5r] at hr aL;have sc:=Mx.lF b d ps ws q;have h01:=Mx.uE b d ps ws q;show⟨_,μ,k (.int q) H4 uO ((nA.same s3).trans k4) (.inr ⟨q,μ,hq,Z,Z⟩)⟩
end Hv
namespace L2
open PySem PySem.Spec PyProof.Rows
mutual
inductive Tree(H:Hp):V->PyData->Prop
 | ax:Tree H .ax .none
 | bl (b:Bool):Tree H (.bl b) (.bool b)
 | int (i:Int):Tree H (.int i) (.int i)
 | str (x:Str):Tree H (.str x) (.str x)
 | lst {a:Addr} {xs:List V} {ds:List PyData} (e:H a=some (.lst xs)) (r:dF H xs ds):Tree H (.ref a) (.list ds)
 | tup {a:Addr} {xs:List V} {ds:List PyData} (e:H a=some (.tup xs)) (r:dF H xs ds):Tree H (.ref a) (.tuple ds)
 | emp {a:Addr} (e:H a=some (.dK [])):Tree H (.ref a) (.dict [])
inductive dF(H:Hp):List V->List PyData->Prop
 | nil:dF H [] []
 | cons {x:V} {xs:List V} {d:PyData} {ds:List PyData} (h:Tree H x d) (t:dF H xs ds):dF H (x::xs) (d::ds)
end
mutual
theorem Tree.keep{H H':Hp}(s:af H H'):∀ {x:V} {d:PyData},Tree H x d->Tree H' x d
 | _,_,.ax=>.ax
 | _,_,.bl b=>.bl b
 | _,_,.int i=>.int i
 | _,_,.str x=>.str x
 | _,_,.lst e r=>.lst (s _ _ e) (dF.keep s r)
 | _,_,.tup e r=>.tup (s _ _ e) (dF.keep s r)
 | _,_,.emp e=>.emp (s _ _ e)
theorem dF.keep{H H':Hp}(s:af H H'):∀ {xs:List V} {ds:List PyData},dF H xs ds->dF H' xs ds
 | _,_,.nil=>.nil
 | _,_,.cons h t=>.cons (Tree.keep s h) (dF.keep s t)
end
section
variable{P:Program}{w:World}{H:Hp}{h:Heap}
def ND(ok:bH P w H h)(e:H a=some (.dK [])):Reads h (.ref a) (.dict []) [a]:=by
 obtain⟨_,_,vs,r,hd⟩:=oG ok e;cases r;obtain⟨o,es,ep,ho,hx,qM,_,hp,_⟩:=hd
 have e0:es.toList=[]:=by
  generalize es.toList=l at hp;cases hp;rfl
 show Reads.dict (as:=[]) ho hx.1 qM (by rw[e0];show .nil)<|by rw[e0];show .nil
mutual
theorem Tree.reads(ok:bH P w H h):∀ {x:V} {d:PyData},Tree H x d->∀v,RelV x v->∃as,Reads h v d as/\∀b∈as,H b≠none
 | _,_,.ax,v,r=>by cases r;show⟨_,.none,θ⟩
 | _,_,.bl b,v,r=>by cases r;show⟨_,.bool b,θ⟩
 | _,_,.int i,v,r=>by obtain⟨t,rfl⟩:=r;show⟨_,.int i t,θ⟩
 | _,_,.str x,v,r=>by obtain⟨t,rfl⟩:=r;show⟨_,.str x t,θ⟩
 | _,_,.lst (a:=a) e rs,v,r=>by
  cases r;obtain⟨_,ad,n,rv,e1⟩:=ok a _ e;obtain⟨as,h1,h2⟩:=dF.reads ok rs ad rv;show⟨_,.list e1 μ μ (by simpa using h1),λb hb=>?_⟩;rcases a1L.mp hb with rfl | hb;.rw[e];simp
  .show h2 b hb
 | _,_,.tup (a:=a) e rs,v,r=>by
  cases r;obtain⟨_,ad,rv,o,e1,c,n,d⟩:=ok a _ e;obtain⟨as,h1,h2⟩:=dF.reads ok rs ad rv;show⟨_,.tuple e1 c d (by simpa using h1),h2⟩
 | _,_,.emp (a:=a) e,v,r=>by
  cases r;show⟨_,ND ok e,λb hb=>?_⟩;have z:b=a:=by simpa using hb
  rw[z,e];simp
theorem dF.reads(ok:bH P w H h):∀ {xs:List V} {ds:List PyData},dF H xs ds->∀ad,aE xs ad->∃as,ReadsAll h ad ds as/\∀b∈as,H b≠none
 | _,_,.nil,ad,r=>by cases r;show⟨_,.nil,θ⟩
 | _,_,.cons q t,ad,r=>by
  cases r with
  | cons r1 r2 =>
   obtain⟨as,h1,h2⟩:=Tree.reads ok q _ r1;obtain⟨bs,h3,h4⟩:=dF.reads ok t _ r2;show⟨_,.cons h1 h3,λb hb=>?_⟩;rcases a2l.mp hb with hb | hb;.show h2 b hb
   .show h4 b hb
end
end
def ReadsAll.NE{h:Heap}{vs:List Value}{as:List Addr}:ReadsAll h vs [] as->as=[]
 | .nil=>rfl
def uU(hg:X.A.guards=some [])(hu:X.A.units+64<cLine):cZ X (.builtin "repr") (λxs H Q=>∃x d,xs=[x]/\Tree H x d/\d.showable=true/\d.depth<=50/\d.shown.length<=sizeLine/\(d.hasDict=true->d=.dict [])/\Q (.str d.shown) H):=by
 intro aa s σ H xs us Q I r h;obtain⟨x,d,rfl,t,hs,hd,hz,hn,q⟩:=h;obtain⟨u,rfl,rx⟩:=vals1 r
 have EK:∀a,x=.ref a->wpAny (model X.prog X.w) X.A (call (.builtin "repr") [u]) (EP X aa σ Q) X.xe s:=λa ea=>by
  subst ea;obtain⟨as,h1,h2⟩:=Tree.reads I.am t u rx;cases rx
  have a0l:d.hasDict=true->sysModules∉as:=λhh z=>by
   have e:=hn hh;subst e
   cases t with
   | emp e =>
    obtain⟨_,hS,_⟩:=oG I.am e
    cases h1 with
    | dict q1 q2 q3 q4 q5 =>
     have e4:=ReadsAll.NE q4;have e5:=ReadsAll.NE q5;subst e4 e5;have z':sysModules=a:=by simpa using z
     rw[<-z'] at hS;simp at hS
  show repr_of_reads' h1 hs a0l hg Z (λb o e=>e) (λh' tk2 tk hk=>(⟨.str d.shown,H,I.kept (t':=tk) hk,⟨_,μ⟩,q⟩)) hz
 cases t with
 | ax=>cases rx;show P.repr_of_none ⟨.str _,H,I.tok _,⟨_,μ⟩,q⟩
 | bl b=>cases rx;show P.repr_of_bool ⟨.str _,H,I.tok _,⟨_,μ⟩,q⟩
 | int i=>obtain⟨tk,rfl⟩:=rx;show P.repr_of_int (by simpa [PyData.showable] using hs) ⟨.str _,H,I.tok _,⟨_,μ⟩,q⟩
 | str y=>obtain⟨tk,rfl⟩:=rx;show P.repr_of_str ⟨.str _,H,I.tok _,⟨_,μ⟩,q⟩ hz
 | lst e rr=>show EK _ μ
 | tup e rr=>show EK _ μ
 | emp e=>show EK _ μ
section
variable{P:Program}{w:World}{H:Hp}{h:Heap}
mutual
theorem Tree.pQ(ok:bH P w H h):∀ {x:V} {d:PyData},Tree H x d->∀v,RelV x v->d.showable=true->d.shown.length<=sizeLine->∃bs,ReadAtMost h d.depth bs/\ReprK P w bs h d.depth v d.shown
 | _,_,.ax,v,r,_,_=>by
  cases r;show⟨[],(λ_ z=>nomatch z),?_⟩;simp only[PyData.shown];show ReprK.of_is ReprIs.none _ _ _
 | _,_,.bl b,v,r,_,_=>by
  cases r;show⟨[],(λ_ z=>nomatch z),?_⟩;simp only[PyData.shown];show ReprK.of_is (ReprIs.bool b) _ _ _
 | _,_,.int i,v,r,hs,_=>by
  obtain⟨t,rfl⟩:=r;show⟨[],(λ_ z=>nomatch z),?_⟩;simp only[PyData.shown];show ReprK.of_is (ReprIs.int t (by simpa [PyData.showable] using hs)) _ _ _
 | _,_,.str x,v,r,_,hz=>by
  obtain⟨t,rfl⟩:=r;show⟨[],(λ_ z=>nomatch z),?_⟩;simp only[PyData.shown] at hz⊢;show ReprK.of_is (ReprIs.str x t hz) _ _ _
 | _,_,.lst (a:=a) (ds:=ds) e rs,v,r,hs,hz=>by
  cases r;have tr:Tree H (.ref a) (.list ds):=.lst e rs;obtain⟨as,rd,_⟩:=Tree.reads ok tr (.ref a) μ;obtain⟨_,ad,n,rv,e1⟩:=ok a _ e;simp only[PyData.shown] at hz;obtain⟨bs,hb,hk⟩:=dF.pQ ok rs ad rv (by simpa [PyData.showable] using hs) (λt ht=>a2o (listText_mem_le ht) hz);have dN:a∉bs:=not_mem_of_deeper rd (by simp only[PyData.depth];lia) hb;show⟨a::bs,ReadAtMost.cons rd (by simp only[PyData.depth];lia) hb,?_⟩;simp only[PyData.depth,PyData.shown]
  cases ad with
  | nil =>
   cases rv;cases rs;simp only[PyData.shownAll,listText_nil];show ReprK.listEmpty e1 μ μ
  | cons u l=>show ReprK.list e1 μ μ dN (by simpa using hk.length_eq) (λi y z=>hk.item i y (by simpa using z))
 | _,_,.tup (a:=a) (ds:=ds) e rs,v,r,hs,hz=>by
  cases r;have tr:Tree H (.ref a) (.tuple ds):=.tup e rs;obtain⟨as,rd,_⟩:=Tree.reads ok tr (.ref a) μ;obtain⟨_,ad,rv,o,e1,c,n,d⟩:=ok a _ e;simp only[PyData.shown] at hz;obtain⟨bs,hb,hk⟩:=dF.pQ ok rs ad rv (by simpa [PyData.showable] using hs) (λt ht=>a2o (tupleText_mem_le ht) hz);have dN:a∉bs:=not_mem_of_deeper rd (by simp only[PyData.depth];lia) hb;show⟨a::bs,ReadAtMost.cons rd (by simp only[PyData.depth];lia) hb,?_⟩;simp only[PyData.depth,PyData.shown];show ReprK.tuple e1 c d dN (by simpa using hk)
 | _,_,.emp (a:=a) e,v,r,_,_=>by
  cases r;have rd:=ND ok e;obtain⟨_,hS,vs,rk,hd⟩:=oG ok e;cases rk;obtain⟨o,es,ep,ho,hx,qM,_,hp,_⟩:=hd
  have e0:es.toList=[]:=by
   generalize es.toList=l at hp;cases hp;rfl
  show⟨[a],ReadAtMost.cons (n:=PyData.depthKv []) rd (by simp only[PyData.depth];lia) (λ_ z=>nomatch z),?_⟩;simp only[PyData.depth,PyData.shown];have nil:ReprAllK P w [] h (PyData.depthKv []) [] (PyData.shownAll []):=by simp only[PyData.shownAll];show .nil
  show ReprK.dict ho hx.1 qM hS θ ?_;have z:=ReprEntriesK.of_two (prog:=P) (w:=w) (as:=[]) (h₀:=h) (d:=PyData.depthKv []) es.toList [] [] (by rw[e0];show nil) (by rw[e0];show nil);simpa [PyData.shownKv] using z
theorem dF.pQ(ok:bH P w H h):∀ {xs:List V} {ds:List PyData},dF H xs ds->∀ad,aE xs ad->PyData.showableAll ds=true->(∀t∈PyData.shownAll ds,t.length<=sizeLine)->
  ∃bs,ReadAtMost h (PyData.depthAll ds) bs/\ReprAllK P w bs h (PyData.depthAll ds) ad (PyData.shownAll ds)
 | _,_,.nil,ad,r,_,_=>by
  cases r;show⟨[],(λ_ z=>nomatch z),by simp only[PyData.shownAll];show .nil⟩
 | _,_,.cons q t,ad,r,hs,hz=>by
  cases r with
  | cons r1 r2 =>
   simp only[PyData.showableAll,a2v] at hs;simp only[PyData.shownAll,a1L,forall_eq_or_imp] at hz;obtain⟨b1,m1,k1⟩:=Tree.pQ ok q _ r1 hs.1 hz.1;obtain⟨b2,m2,k2⟩:=dF.pQ ok t _ r2 hs.2 hz.2;simp only[PyData.depthAll,PyData.shownAll];show⟨b1++b2,(m1.mono (Nat.le_max_left _ _)).append (m2.mono (Nat.le_max_right _ _)),?_⟩;show .cons ((k1.more λb hb=>a2n _ hb).level_le (Nat.le_max_left _ _)) (k2.more_le (λb hb=>a2g _ hb) (Nat.le_max_right _ _))
end
end
def NF(hg:X.A.guards=some [])(hu:X.A.units+64<cLine):cZ X (.builtin "repr") (λxs H Q=>∃x d,xs=[x]/\Tree H x d/\d.showable=true/\d.depth<=50/\d.shown.length<=sizeLine/\Q (.str d.shown) H):=by
 intro aa s σ H xs us Q I r h;obtain⟨x,d,rfl,t,hs,hd,hz,q⟩:=h;obtain⟨u,rfl,rx⟩:=vals1 r
 cases t with
 | ax=>show uU hg hu aa s σ H [.ax] [u] Q I r ⟨_,_,μ,.ax,hs,hd,hz,λz=>by simp[PyData.hasDict] at z,q⟩
 | bl b=>show uU hg hu aa s σ H [.bl b] [u] Q I r ⟨_,_,μ,.bl b,hs,hd,hz,λz=>by simp[PyData.hasDict] at z,q⟩
 | int i=>show uU hg hu aa s σ H [.int i] [u] Q I r ⟨_,_,μ,.int i,hs,hd,hz,λz=>by simp[PyData.hasDict] at z,q⟩
 | str y=>show uU hg hu aa s σ H [.str y] [u] Q I r ⟨_,_,μ,.str y,hs,hd,hz,λz=>by simp[PyData.hasDict] at z,q⟩
 | emp e=>show uU hg hu aa s σ H _ [u] Q I r ⟨_,_,μ,.emp e,hs,hd,hz,λ_=>rfl,q⟩
 | lst e rs =>
  rename_i a ys ds;cases rx;obtain⟨as,rd,_⟩:=Tree.reads I.am (Tree.lst e rs) (.ref a) μ;obtain⟨_,ad,n,rv,e1⟩:=I.am a _ e;simp only[PyData.depth] at hd;obtain⟨bs,hb,hk⟩:=dF.pQ I.am rs ad rv (by simpa [PyData.showable] using hs) (λt ht=>a2o (listText_mem_le ht) hz);have dN:=not_mem_of_deeper rd (by simp only[PyData.depth];lia) hb;have fin:∀h'  t tk ,(∀b o,s.heap.get? b=some o->h'.get? b=some o)->EP X aa σ Q (.str (listText (PyData.shownAll ds)) t) {s with heap:=h',toks:=tk}:=λh' t tk kk => ⟨.str _,H,I.kept kk,⟨_,μ⟩,by simpa only[PyData.shown] using q⟩;show call_repr_slot Z (show s.TypeIs (.ref a) "list" from⟨_,e1,μ⟩) F.slot_list_repr.toG ?_
  cases ad with
  | nil =>
   cases rv;cases rs;show call_list_repr_empty ⟨_,e1,μ⟩ e1 μ ⟨_,_,μ,?_⟩;simpa only[PyData.shownAll,listText_nil] using fin s.heap _ _ λ_ _ z=>z
  | cons v l =>
   show call_list_reprK e1 μ μ dN (by simpa using hk.length_eq) (λi y z=>hk.item i y (by simpa using z)) hg (λb _=>Clear.nil b) (by change X.A.units+1+(PyData.depthAll ds+1)<cLine;lia) (λ_ _ z=>z) (λh' t tk kk=>⟨_,_,μ,fin h' t tk kk⟩) hz
 | tup e rs =>
  rename_i a ys ds;cases rx;obtain⟨as,rd,_⟩:=Tree.reads I.am (Tree.tup e rs) (.ref a) μ;obtain⟨_,ad,rv,o,e1,c,n,d⟩:=I.am a _ e;simp only[PyData.depth] at hd;obtain⟨bs,hb,hk⟩:=dF.pQ I.am rs ad rv (by simpa [PyData.showable] using hs) (λt ht=>a2o (tupleText_mem_le ht) hz);have dN:=not_mem_of_deeper rd (by simp only[PyData.depth];lia) hb;show call_repr_slot Z (show s.TypeIs (.ref a) "tuple" from⟨_,e1,c⟩) F.slot_tuple_repr (call_tuple_reprK e1 c d dN (by simpa using hk) hg (λb _=>Clear.nil b) (by change X.A.units+1+(PyData.depthAll ds+1)<cLine;lia) (λ_ _ z=>z) (λh' t tk kk=>⟨_,_,μ,⟨.str _,H,I.kept (t':=tk) kk,⟨_,μ⟩,by simpa only[PyData.shown] using q⟩⟩) hz)
noncomputable def Off(D:List Addr)(H:Hp):Hp:=λa=>if a∈D then none else H a
def rO(h:H a=some o)(n:a∉D):Off D H a=some o:=by unfold Off;rw[if_neg n];show h
def zB:af (Off D H) H:=λa o h=>by
 unfold Off at h;split at h;.cases h
 .show h
def sc_(k:Hv.Kp D H H'):af (Off D H) (Off D H'):=λa o h=>by
 unfold Off at h⊢;split at h;.cases h
 .rename_i n;rw[if_neg n];show k a o h n
structure GD(n w:Nat)(d:PyData):Prop where
 sh:d.showable=true
 lv:d.leavesShort 40=true
 dp:d.depth<=n
 wt:d.weight<=w
def Th(H:Hp)(n w:Nat)(v:V):Prop:=∃d,Tree H v d/\GD n w d
theorem GD.shown(g:GD n w d)(hw:w<=300000):d.shown.length<=sizeLine:=by
 have h:=PyData.shown_le 40 ζ d g.lv;have h2:=g.wt;have h3:sizeLine=16777216:=by decide
 lia
def mr_(h:i.natAbs<=10 ^ 25):((PyData.int i).shown).length<=40:=by
 have e:=int_text_length_le10 ζ (show i.natAbs<10 ^ 26 from a3x h ζ);change(Str.ofString<|toString i).length<=40;rw[PySem.ofString_length];lia
theorem Th.int(h:i.natAbs<=10 ^ 25):Th H 1 100 (.int i):=by
 have hl:i.natAbs.log2<84:=by
  by_cases h0:i.natAbs=0;.rw[h0];decide
  .show(Nat.log2_lt h0).mpr<|a3x h<|by decide
 show⟨_,.int i,?_,?_,by change 0 <=1;decide,?_⟩;.simp only[PyData.showable,decide_eq_true_eq];lia
 .simp only[PyData.leavesShort,decide_eq_true_eq];show mr_ h
 .simp only[PyData.weight];split <;> lia
end L2
namespace Hv
open PySem L2
structure PP(D:List Addr) where
 holds:Hp->V->Prop
 iT:∀H H' v,Kp D H H'->holds H v->holds H' v
abbrev Le(P P':PP D):Prop:=∀H v,P.holds H v->P'.holds H v
noncomputable def gU(D:List Addr)(lo hi:Int):PP D:=⟨λ_ v=>∃i,v=.int i/\lo<=i/\i<=hi,λ_ _ _ _ h=>h⟩
noncomputable def zC(D:List Addr)(a:Addr):PP D:=⟨λ_ v=>v=.ref a,λ_ _ _ _ h=>h⟩
noncomputable def EL(lo hi:Nat)(It:PP D):PP D:=⟨λH v=>∃a xs,v=.ref a/\H a=some (.lst xs)/\a∉D/\lo<=xs.length/\xs.length<=hi/\∀x∈xs,It.holds H x, λ_ _ _ k ⟨a,xs,e,h,n,l1,l2,it⟩=>⟨a,xs,e,k _ _ h n,n,l1,l2,λx hx=>It.iT _ _ _ k (it x hx)⟩⟩
def Cp(ps:List (Option (PP D)))(σ:St)(H:Hp):Prop:=Paired (λ(q:Option (PP D)) (o:Option V)=>∀P,q=some P->∃v,o=some v/\P.holds H v) ps σ
theorem Cp.iT{D:List Addr}{H H':Hp}(k:Kp D H H'):∀ {ps:List (Option (PP D))} {σ:St},Cp ps σ H->Cp ps σ H'
 | _,_,.nil=>.nil
 | _,_,.cons h t=>.cons (λP e=>let ⟨v,a,b⟩:=h P e;⟨v,a,P.iT _ _ _ k b⟩) (Cp.iT k t)
theorem Cp.get{D:List Addr}{H:Hp}:∀ {ps:List (Option (PP D))} {σ:St} {i:Nat} {P:PP D},Cp ps σ H->ps[i]?=some (some P)->∃v,σ[i]?=some (some v)/\P.holds H v
 | _,_,_,_,.nil,e=>by simp at e
 | _,_,0,P,.cons h _,e=>by
  simp_all
 | _,_,i+1,P,.cons _ t,e=>by
  obtain⟨v,a,b⟩:=Cp.get t (by simpa using e);show⟨v,by simpa using a,b⟩
section
def tT(d:Addr)(ps:List (Option (PP [d])))(P:PP [d]):TE:=fun σ H Q=>Cp ps σ H/\bh H d/\∀v H',bh H' d->Kp [d] H H'->P.holds H' v->Q v H'
def uV(d:Addr)(ps:List (Option (PP [d])))(m:Nat)(It:PP [d]):TA:=fun σ H Q=>Cp ps σ H/\bh H d/\∀vs H',bh H' d->Kp [d] H H'->vs.length=m->(∀v∈vs,It.holds H' v)->Q vs H'
abbrev ET(X:Cx)(d:Addr)(ps:List (Option (PP [d])))(e:Expr)(P:PP [d]):Prop:=PE X e (tT d ps P)
def weak(h:PE X e t)(w:∀ σ H Q,t' σ H Q->t σ H Q):PE X e t':=λaa s σ H Q I q=>h aa s σ H Q I<|w σ H Q q
def iu{P:PP [d]}(h:PE X e t)(w:∀ σ H Q,Cp ps σ H->bh H d->(∀v H',bh H' d->Kp [d] H H'->P.holds H' v->Q v H')->t σ H Q):ET X d ps e P:=λaa s σ H Q I q=>h aa s σ H Q I<|w σ H Q q.1 q.2.1 q.2.2
def NG{It:PP [d]}(h:PA X es t)(w:∀ σ H Q,Cp ps σ H->bh H d->(∀vs H',bh H' d->Kp [d] H H'->vs.length=m->(∀v∈vs,It.holds H' v)->Q vs H')->t σ H Q):PA X es (uV d ps m It):=λpos aa s σ H Q I q=>h pos aa s σ H Q I<|w σ H Q q.1 q.2.1 q.2.2
variable{pos:Pos}{P P':PP [d]}
def j4(h:ET X d ps e P)(l:Le P P'):ET X d ps e P':=iu h λ_ _ _ c k q=>⟨c,k,λv H' D' k' hv=>q v H' D' k'<|l _ _ hv⟩
def zD(h:PE X e (tC v))(hv:∀H,P.holds H v):ET X d ps e P:=iu h λ_ H _ c k q=>q v H k Kp.refl<|hv H
def iw(i:Nat)(h:PE X e (qd i))(hi:ps[i]?=some (some P):=by rfl):ET X d ps e P:=iu h fun σ H Q c k q=>by
 obtain⟨v,e1,e2⟩:=c.get hi;show⟨v,e1,q v H k Kp.refl e2⟩
noncomputable def NH:Expr->Bool
 | .Starred ..=>false
 | _=>true
def kX_(h:NH e=true):starEach (e::es) env=(false,eval e env)::starEach es env:=by cases e <;> first | rfl | (simp[NH] at h)
def EM{It:PP [d]}:PA X [] (uV d ps 0 It):=NG d_ λ_ H _ c k q=>q [] H k Kp.refl μ<|λ_ h=>by simp at h
def dW{It:PP [d]}(ha:ET X d ps e It)(hr:PA X es (uV d ps m It))(hs:starEach (e::es) X.env=(false,eval e X.env)::starEach es X.env:=by show kX_ μ):PA X (e::es) (uV d ps (m+1) It) :=
 NG (a_ ha hr hs) fun σ H Q c k q=>by
  show⟨c,k,λv1 H1 D1 k1 p1=>⟨c.iT k1,D1,λvs H2 D2 k2 hl p2=>q _ _ D2 (k1.trans k2) (by simp[hl]) λv hv=>?_⟩⟩;rcases a1L.mp hv with rfl | hv;.show It.iT _ _ _ k2 p1
  .show p2 v hv
def EN{It:PP [d]}(h:PA X es (uV d ps m It))(hm:m<=100000:=by decide):ET X d ps (.List es pos) (EL m m It):=iu (x_ h) fun σ H Q c k q=>by show⟨c,k,λvs H1 D1 k1 hl p1=>⟨sz<|by lia,λz cU=>q _ _ (D1.keep<|f_ cU) (k1.same<|f_ cU) ⟨z,vs,μ,c_,D1.eY cU,Z,Z,λu hu=>(It.iT _ _ _ (Kp.of (f_ cU)) (p1 u hu))⟩⟩⟩
def EO{It:PP [d]}(ha:ET X d ps a (EL l1 h1 It))(hb:ET X d ps b (gU _ 0 j))(hj:j<l1:=by decide)(hs:qk b:=by intro _ _;rfl):ET X d ps (.Subscript a b pos) It :=
 iu (bf ha hb hs) fun σ H Q c k q=>by
  show⟨c,k,λv1 H1 D1 k1 p1=>⟨c.iT k1,D1,λv2 H2 D2 k2 p2=>?_⟩⟩;obtain⟨x,xs,rfl,hx,nx,a1,a2,itx⟩:=(EL l1 h1 It).iT _ _ _ k2 p1;obtain⟨i,rfl,i0,i1⟩:=p2;obtain⟨v,ev,hv⟩:=Jk i0 Z itx;show bU hx ev<|q _ _ D2 (k1.trans k2) hv
def rP{q1:Pos}(D1:ak X.prog X.w X.K X.mg X.base kl x ["store","many"] gu)(hr:bM kl X.A)(hg:Gl X x)(ha:ET X d ps a (zC _ d))(hb:ET X d ps b (gU _ n n))(h0:0<n:=by decide)(h1:n<1073741824:=by decide)(gi:(x==("__debug__":Str))=false:=by decide) (hs:starEach [a,b] X.env=(false,eval a X.env)::starEach [b] X.env:=by rfl) (cr:starEach [b] X.env=(false,eval b X.env)::starEach [] X.env:=by rfl) (cu:(backTo pos (starEach [b] X.env)).any (·.1)=false:=by rfl) : ET X d ps (.Call (.Name x q1) [a,b] [] pos) (gU _ 0 (n-1)) :=
 iu (o_ D1 hr hg (a_ ha (a_ hb d_ cr) hs) gi hs cu) fun σ H Q c k q=>by
  show⟨c,k,λv1 H1 D1 k1 p1=>⟨c.iT k1,D1,λv2 H2 D2 k2 p2=>?_⟩⟩;obtain⟨m,rfl,m0,m1⟩:=p2;have em:m=n:=by lia
  subst em;cases (show v1=.ref d from p1);show⟨d,m,μ,D2,h0,h1,λr H3 r0 r1 D3 k3=>q _ _ D3 ((k1.trans k2).trans k3) ⟨r,μ,r0,Z⟩⟩
end
def j6:ET X d ps (.Constant (.int i) j pos) (gU _ i i):=zD e_ λ_=>⟨i,μ,a2U _,a2U _⟩
def EQ:ET X d ps (.UnaryOp .USub (.Constant (.int i) j q1) pos) (gU _ (-i) (-i)):=iu (eO eQ e_) fun σ H Q c k q=>⟨i,μ,q _ H k Kp.refl ⟨-i,μ,a2U _,a2U _⟩⟩
def NJ(ha:ET X d ps a (gU _ l1 h1))(hb:ET X d ps b (gU _ l2 h2)):ET X d ps (.BinOp a .Add b pos) (gU _ (l1+l2) (h1+h2)):=iu (n_ u_ ha hb) fun σ H Q c k q=>by
 show⟨c,k,λv1 H1 D1 k1 p1=>⟨c.iT k1,D1,λv2 H2 D2 k2 p2=>?_⟩⟩;obtain⟨i,rfl,x1,x2⟩:=p1;obtain⟨j,rfl,y1,y2⟩:=p2;show⟨i,j,μ,μ,q _ _ D2 (k1.trans k2) ⟨_,μ,Z,Z⟩⟩
def ER(ha:ET X d ps a (gU _ l1 h1))(hb:ET X d ps b (gU _ l2 h2)):ET X d ps (.BinOp a .Sub b pos) (gU _ (l1-h2) (h1-l2)):=iu (n_ R_ ha hb) fun σ H Q c k q=>by
 show⟨c,k,λv1 H1 D1 k1 p1=>⟨c.iT k1,D1,λv2 H2 D2 k2 p2=>?_⟩⟩;obtain⟨i,rfl,x1,x2⟩:=p1;obtain⟨j,rfl,y1,y2⟩:=p2;show⟨i,j,μ,μ,q _ _ D2 (k1.trans k2) ⟨_,μ,Z,Z⟩⟩
def NK:ET X d ps (.BinOp (.Constant (.int 10) j1 q1) .Pow (.Constant (.int 25) j2 q2) pos) (gU _ 10000000000000000000000000 10000000000000000000000000):=iu (n_ nZ e_ e_) fun σ H Q c k q => ⟨10,25,μ,μ,⟨ζ,ζ,ζ⟩,q _ H k Kp.refl ⟨_,μ,ζ,ζ⟩⟩
structure fD(P:Program)(w:World)(K:PySem.W.Frag)(mg:Str->Option Value)(base:Heap)(k:Nat)(C:Addr)(m:Str)(ps:List Str)(sp:Sp):Prop where
 ex:∃f fd,aA P w K mg base aI k f fd ps sp/\qi K C m f/\Binds K fd ps []
structure zE(P:Program)(w:World)(K:PySem.W.Frag)(mg:Str->Option Value)(base:Heap)(k:Nat)(x:Str)(C:Addr)(ps:List Str)(sp:Sp):Prop where
 ex:∃f fd,aA P w K mg base aI k f fd ps sp/\Mk K C f/\mg x=some (.ref C)/\Binds K fd ps []
section
variable{p pos bO:Pos}
def zF{pl:Sem Bool}(c:cA X.K C)(D:fD X.prog X.w X.K X.mg X.base k C m ps sp)(hr:bM k X.A)(he:PE X o ta)(ha:PA X (e::es) t)
  (dZ:starEach (e::es) X.env=(false,eval e X.env)::starEach es X.env:=by rfl) (cu:(backTo pos (starEach es X.env)).any (·.1)=false:=by rfl)
  (ht:eval (.Call (.Attribute o m bO) (e::es) [] pos) X.env=(do
   let ov <-eval o X.env
   standAt bO.atName
   let (f,first) <-holding [ov] (getMethod ov m pl)
   callWith pos f first (backTo pos (starEach (e::es) X.env)) (backToKw pos (keywordEach [] X.env))):=by rfl) :
  PE X (.Call (.Attribute o m bO) (e::es) [] pos) (wk C m sp [] E0 ta t):=by
 obtain⟨f,fd,G,h1,h2⟩:=D.ex;show Si he c h1 G hr h2 .nil wB ha dZ cu ht
def rQ(c:cA X.K C)(D:fD X.prog X.w X.K X.mg X.base k C m ps sp)(hr:bM k X.A)(he:PE X o ta)
  (ht:eval (.Call (.Attribute o m bO) [] [] pos) X.env=(do
   let ov <-eval o X.env
   standAt bO.atName
   let (f,first) <-holding [ov] (getMethod ov m pl)
   callWith pos f first (backTo pos (starEach [] X.env)) (backToKw pos (keywordEach [] X.env))):=by rfl) :
  PE X (.Call (.Attribute o m bO) [] [] pos) (wk C m sp [] E0 ta kL):=by
 obtain⟨f,fd,G,h1,h2⟩:=D.ex;show Sj he c h1 G hr h2 .nil wB ht
def sU_(D:zE X.prog X.w X.K X.mg X.base k x C ps sp)(hr:bM (k+1) X.A)(hg:Gl X x)(ha:PA X (e::es) t)(gi:(x==("__debug__":Str))=false:=by decide) (he:starEach (e::es) X.env=(false,eval e X.env)::starEach es X.env:=by rfl) (cu:(backTo pos (starEach es X.env)).any (·.1)=false:=by rfl):PE X (.Call (.Name x p) (e::es) [] pos) (HP C sp [] E0 t):=by
 obtain⟨f,fd,G,h1,h2,h3⟩:=D.ex;show Sl h1 G hr hg h2 h3 .nil wB ha gi he cu
end
abbrev AF:=Addr×Addr×Addr
inductive j7(vs:List V)(H:Hp)(Q:VK)(aw:XK):Prop
 | mk:∀(f a c:Addr) (b:Nat) (ps:List Nat) (ws:List Int),(vs=[.ref f])->(aU H f a c b ps ws)->(∀(f' a' c':Addr) (H':Hp),af H H'->aU H' f' a' c' b ps ws->H f'=none->H a'=none->H c'=none->a'≠c'->Q (.ref f') H')->j7 vs H Q aw
noncomputable def uW(sl:Addr):List (Str×V):=fI "standing" (.ref sl) []
def lO:(uW sl).lookup ("standing":Str)=some (.ref sl):=by
 unfold uW;rw[wc,if_pos μ]
def ix{m:Str}(h:¬ m="standing"):(uW sl).lookup m=none:=by
 unfold uW;rw[wc,if_neg h];rfl
structure bX(C:Addr)(H:Hp)(kp dx sl:Addr)(as:List AF)(b:Nat)(ps:List Nat)(cJ:List (List Int)):Prop where
 ob:H kp=some (.ins C dx (uW sl))
 ls:H sl=some (.lst (as.map λx=>V.ref x.1))
 len:as.length=cJ.length
 each:∀(i:Nat) (x:AF) (ws:List Int),as[i]?=some x->cJ[i]?=some ws->aU H x.1 x.2.1 x.2.2 b ps ws
theorem bX.keep(S:bX C H kp dx sl as b ps cJ)(s:af H H'):bX C H' kp dx sl as b ps cJ:=⟨s _ _ S.ob,s _ _ S.ls,S.len,λi x ws h1 h2=>(S.each i x ws h1 h2).keep s⟩
def bX.last(S:bX C H kp dx sl as b ps (aH++[ws])):∃ai x,as=ai++[x]/\ai.length=aH.length/\aU H x.1 x.2.1 x.2.2 b ps ws/\df (as.map λx=>V.ref x.1) (-1)=some (V.ref x.1):=by
 have ba:as≠[]:=λz=>by have:=S.len;rw[z] at this;simp at this
 show⟨as.dropLast,as.getLast ba,(a3a ba).symm,?_,?_,?_⟩;.rw[List.length_dropLast,S.len];simp
 .show S.each (as.length-1) _ _ ?_ ?_;.rw[<-List.getLast?_eq_getElem?,List.getLast?_eq_some_getLast ba]
  .rw[S.len,a2p,a2X,Nat.add_sub_cancel,a1V (a1M _)];simp
 .have e:(as.map λx=>V.ref x.1)=(as.dropLast.map λx=>V.ref x.1)++[V.ref (as.getLast ba).1]:=by
   conv=>lhs;rw[<-a3a ba]
   rw[a2i];rfl
  rw[e];show wm _ _
def bX.push(S:bX C H kp dx sl as b ps cJ)(G:aU H x.1 x.2.1 x.2.2 b ps ws)(hk:kp≠sl)(ho:∀x'∈as++[x],sl≠x'.1/\sl≠x'.2.1/\sl≠x'.2.2):bX C (upd H sl (.lst ((as.map λx=>V.ref x.1)++[V.ref x.1]))) kp dx sl (as++[x]) b ps (cJ++[ws]):=by
 have mv:∀ {y:AF} {v:List Int},(sl≠y.1/\sl≠y.2.1/\sl≠y.2.2)->aU H y.1 y.2.1 y.2.2 b ps v->aU (upd H sl (.lst ((as.map λx=>V.ref x.1)++[V.ref x.1]))) y.1 y.2.1 y.2.2 b ps v:=λh g => ⟨by rw[j_ h.1.symm];show g.tp,by rw[j_ h.2.1.symm];show g.hp,by rw[j_ h.2.2.symm];show g.hw,g.ok⟩;show⟨by rw[j_ hk];show S.ob,by rw[c_,a2i];rfl,by simp[S.len],λi y v h1 h2=>?_⟩;by_cases hi:i<as.length
 .rw[a1R hi] at h1;rw[a1R (by rw[<-S.len];show hi)] at h2;show mv (ho y (a2n _ (a1K h1))) (S.each i y v h1 h2)
 .have hl:=(a1I.mp h1).1;rw[a2p,a2X] at hl;have e:i=as.length:=by lia
  subst e;rw[a1V (a1M _)] at h1;rw[S.len,a1V (a1M _)] at h2;simp at h1 h2;subst h1;subst h2;show mv (ho x (a2g _ (a1X.mpr μ))) G
def bX.ES(S:bX C H kp dx sl as b ps cJ)(ba:as≠[]):kp≠sl/\∀x'∈as,sl≠x'.1/\sl≠x'.2.1/\sl≠x'.2.2:=by
 show⟨λz=>(by have h1:=S.ob;rw[z,S.ls] at h1;cases h1),λx hx=>?_⟩;obtain⟨i,hi⟩:=a2H hx;have hl:i<cJ.length:=by rw[<-S.len];show(a1I.mp hi).1
 have G:=S.each i x _ hi (a2a hl);have l2:=G.ok.l2;have cO:=G.ok.wl;have uX:=G.ok.sum;obtain⟨x0,r,rfl⟩:=a4T ba;show⟨λz=>?_,λz=>?_,λz=>?_⟩;.have h1:=G.tp;rw[<-z,S.ls] at h1;cases h1
 .have h1:=G.hp;rw[<-z,S.ls] at h1
  cases ps with
  | nil=>simp at l2
  | cons p q=>simp[az] at h1
 .have h1:=G.hw;rw[<-z,S.ls] at h1;generalize cJ[i]=ww at h1 cO uX
  cases ww with
  | nil=>simp at cO;lia
  | cons p q=>simp at h1
def bX.pop(S:bX C H kp dx sl (ai++[x]) b ps (cJ++[ws]))(ba:ai≠[]):bX C (upd H sl (.lst (ai.map λx=>V.ref x.1))) kp dx sl ai b ps cJ:=by
 have ⟨o1,o2⟩:=S.ES θ;have hl:ai.length=cJ.length:=by have:=S.len;simp at this;show this
 show⟨by rw[j_ o1];show S.ob,c_,hl,λi y v h1 h2=>?_⟩;have hi:=(a1I.mp h1).1;have g:=S.each i y v (by rw[a1R hi];show h1) (by rw[a1R (by lia)];show h2);have h:=o2 y (a2n _<|a1K h1);show⟨by rw[j_ h.1.symm];show g.tp,by rw[j_ h.2.1.symm];show g.hp,by rw[j_ h.2.2.symm];show g.hw,g.ok⟩
abbrev cN(b:Nat)(ps:List Nat)(ws:List Int):Int:=Mx.aR b 0 ps ws (b ^ ps.sum)
inductive rR(vs:List V)(H:Hp)(Q:VK)(aw:XK):Prop
 | mk:∀(f a c:Addr) (b:Nat) (ps:List Nat) (ws:List Int) (p:Nat) (wt:Int),(vs=[.ref f,.int p,.int wt])->(aU H f a c b ps ws)->(p<ws.length)->(-9<=wt)->(wt<=9)->(∀(f' a' c':Addr) (H':Hp),af H H'->aU H' f' a' c' b ps (ws.set p wt)->H f'=none->H a'=none->H c'=none->Q (.ref f') H')->rR vs H Q aw
inductive uY(C:Addr)(vs:List V)(H:Hp)(Q:VK)(aw:XK):Prop
 | mk:∀(kp dx f a c:Addr) (b:Nat) (ps:List Nat) (ws:List Int),(vs=[.ref kp,.ref f])->(H kp=some (.ins C dx []))->(aU H f a c b ps ws)->(∀(sl:Addr) (x:AF) (H':Hp),H sl=none->H x.1=none->H x.2.1=none->H x.2.2=none->bX C H' kp dx sl [x] b ps [ws]->Kp [kp] H H'->Q .ax H')->uY C vs H Q aw
inductive uZ(C:Addr)(vs:List V)(H:Hp)(Q:VK)(aw:XK):Prop
 | mk:∀(kp dx sl:Addr) (as:List AF) (b:Nat) (ps:List Nat) (aH:List (List Int)) (ws:List Int) (p:Nat) (wt:Int),(vs=[.ref kp,.int p,.int wt])->(bX C H kp dx sl as b ps (aH++[ws]))->(p<ws.length)->(-9<=wt)->(wt<=9)->(aH.length<=1000)->(∀(t:Addr) (x:AF) (H':Hp),H t=none->H' t=some (.tup [.int (cN b ps ws),.int (cN b ps (ws.set p wt))])->H x.1=none->H x.2.1=none->H x.2.2=none->bX C H' kp dx sl (as++[x]) b ps (aH++[ws]++[ws.set p wt])->Kp [sl] H H'->Q (.ref t) H')->uZ C vs H Q aw
inductive u9(C:Addr)(vs:List V)(H:Hp)(Q:VK)(aw:XK):Prop
 | mk:∀(kp dx sl:Addr) (ai:List AF) (x:AF) (b:Nat) (ps:List Nat) (aH:List (List Int)) (ws wz:List Int),(vs=[.ref kp])->(bX C H kp dx sl (ai++[x]) b ps (aH++[ws]++[wz]))->(aH.length<=1000)->(∀(t:Addr) (H':Hp),H t=none->H' t=some (.tup [.int (cN b ps wz),.int (cN b ps ws)])->bX C H' kp dx sl ai b ps (aH++[ws])->Kp [sl] H H'->Q (.ref t) H')->u9 C vs H Q aw
inductive va(C:Addr)(vs:List V)(H:Hp)(Q:VK)(aw:XK):Prop
 | mk:∀(kp dx sl:Addr) (as:List AF) (b:Nat) (ps:List Nat) (aH:List (List Int)) (ws:List Int) (d:Nat),(vs=[.ref kp,.int d])->(bX C H kp dx sl as b ps (aH++[ws]))->(∀H':Hp,af H H'->Q (.int (Mx.aR b d ps ws (b ^ ps.sum))) H')->va C vs H Q aw
inductive vb(C:Addr)(vs:List V)(H:Hp)(Q:VK)(aw:XK):Prop
 | mk:∀(kp dx sl:Addr) (as:List AF) (b:Nat) (ps:List Nat) (aH:List (List Int)) (ws:List Int) (k:Nat),(vs=[.ref kp,.int k])->(bX C H kp dx sl as b ps (aH++[ws]))->(∀(v:V) (H':Hp),af H H'->im b 0 ps ws k v->Q v H')->vb C vs H Q aw
inductive pR(C:Addr)(vs:List V)(H:Hp)(Q:VK)(aw:XK):Prop
 | mk:∀(kp dx sl:Addr) (as:List AF) (b:Nat) (ps:List Nat) (cJ:List (List Int)),(vs=[.ref kp])->(bX C H kp dx sl as b ps cJ)->(Q (.int ((cJ.length:Int)-1)) H)->pR C vs H Q aw
def EU(h:p<n):ib n (p:Int)=some p:=by
 unfold ib;simp;lia
def NL:aS ["frame"] ["frame"] (h_ B7):=⟨μ,μ,μ,ξ,μ,ξ,ξ⟩
def lP_(F:aM K "copy_of" "copy_of" B7 f fd)(T:Txt mg):aA P w K mg base aI 1 f fd ["frame"] j7:=by
 show F.ok NL λao A outer s H vs Q E hr h=>?_
 .obtain⟨f,a,c,b,ps,ws,rfl,G,k⟩:=h;show⟨_,(g_<|m_<|dJ<|a_ (aW (pv 0) e_)<|a_ (J_ sW η T.list boot_list<|a_ (aW (pv 0) e_) d_)<|a_ (J_ sW η T.list boot_list<|a_ (aW (pv 0) e_) d_) d_),(⟨_,μ,_,_,_,_,μ,μ,aB.of G.tp,μ,⟨_,μ,_,_,_,_,μ,μ,aB.of G.tp,μ,⟨a,_,μ,.inl (ae.of G.hp),λa' pS=>?_⟩⟩⟩)⟩;have s1:=f_ (o:=.lst (az ps)) pS;have u1:(upd H a'<|.lst<|az ps) a'=_:=c_;show⟨_,μ,_,_,_,_,μ,μ,aB.of<|s1 _ _ G.tp,μ,⟨c,_,μ,.inl<|ae.of<|s1 _ _ G.hw,λc' fi=>⟨sz<|by simp,λf' lr=>?_⟩⟩⟩;have s2:=f_ (o:=.lst (ws.map V.int)) fi;have s3:=f_ (o:=.tup [.int b,.ref a',.ref c']) lr;show k f' a' c' _ (s1.trans<|s2.trans s3) ⟨c_,s3 _ _<|s2 _ _ u1,s3 _ _ c_,G.ok⟩ (s1.free<|s2.free lr) pS (s1.free fi)<|λz=>by rw[<-z,u1] at fi;cases fi
def EV:aS ["frame","place","weight","changed"] ["frame","place","weight"] (h_ xj):=⟨μ,μ,μ,ξ,μ,ξ,ξ⟩
def NM(F:aM K "with_weight" "with_weight" xj f fd)(T:Txt mg)(lP:ak P w K mg base 2 "is_between" ["thing","least","greatest"] jm)(j8:ak P w K mg base 1 "copy_of" ["frame"] j7):aA P w K mg base aI 3 f fd ["frame","place","weight"] rR:=by
 show F.ok EV λao A outer s H vs Q E hr h=>?_
 .obtain⟨f,a,c,b,ps,ws,p,wt,rfl,G,hp,w1,w2,k⟩:=h;have nd:=EV.nd;show⟨_,(b_ (E_ (cY (V_ (o_ lP hr η (a_ (pv 1) (a_ e_ (a_ (n_ R_ (dw T.len η (aW (pv 0) e_)) e_) d_)))))) jb q_) (b_ (E_ (cY (V_ (o_ lP hr η (a_ (pv 2) (a_ (eO eQ e_) (a_ e_ d_)))))) jb q_) (b_ (i_ 3 (o_ j8 hr.mo η (a_ (pv 0) d_))) (b_ (eJ (pv 2) (nV (aW (pv 3) e_) (pv 1) oj)) (g_ (m_ (pv 3))))))),(⟨_,μ,_,μ,Jj G.tp μ ⟨c,_,μ,.inl (ae.of G.hw),_,_,μ,μ,.int (p:Int),0,_,μ,.int _,_,μ,?_⟩⟩)⟩;rw[show bL (.int  p ) 0 ((((ws.map V.int).length))-1)=true by simp[bL];lia];show aG ⟨_,μ,_,μ,.int wt,-9,9,μ,.int _,_,μ,?_⟩;rw[show bL (.int wt) (-9) 9=true by simp[bL];lia];show aG ⟨_,μ,f,a,c,b,ps,ws,μ,G,λf' a' c' H1 s1 G1 nf na nc lQ=>⟨_,μ,_,μ,_,_,_,_,μ,μ,aB.of G1.tp,μ,_,μ,c',_,_,p,μ,μ,G1.hw,by rw[a1H];show EU hp,?_⟩⟩;have e:(ws.map V.int).set p (V.int wt)=(ws.set p wt).map V.int:=by rw[List.map_set]
  have nfc:f'≠c':=λz=>by have h1:=G1.tp;rw[z,G1.hw] at h1;cases h1
  show⟨_,μ,k f' a' c' _ ?_ ⟨by rw[j_ nfc];show G1.tp,by rw[j_ lQ];show G1.hp,by rw[c_,e],?_⟩ nf na nc⟩
  .intro y o hy;rw[j_ (λz=>by rw[z,nc] at hy;cases hy)];show s1 y o hy
  .show⟨G.ok.b2,G.ok.b8,G.ok.l2,G.ok.l4,G.ok.pr,by rw[a3E];show G.ok.wl,λv hv=>by
    rcases a4W hv with h | h;.show G.ok.wr v h
    .subst h;show⟨w1,w2⟩⟩
def NN:aS ["self","frame"] ["self","frame"] (h_ Cm):=⟨μ,μ,μ,ξ,μ,ξ,ξ⟩
def nT_(F:aM K "__init__" "Keeper.__init__" Cm f fd)(nS:gE K C "standing")(lR:ak P w K mg base 5 "need_frame" ["thing"] kT)(j8:ak P w K mg base 1 "copy_of" ["frame"] j7)(cl:cA K C):aA P w K mg base aI 6 f fd ["self","frame"] (uY C):=by
 show F.ok NN λao A outer s H vs Q E hr h=>?_
 .obtain⟨kp,dx,f,a,c,b,ps,ws,rfl,hk,G,k⟩:=h;show⟨_,(b_ (G_ (o_ lR hr η (a_ (pv 1) d_))) (g_ (Sd (pv 0) (x_ (a_ (o_ j8 hr.mo η (a_ (pv 1) d_)) d_)) μ))),⟨_,μ,f,a,c,b,ps,ws,μ,G,λH1 s1=>?_⟩⟩;show⟨_,μ,f,a,c,b,ps,ws,μ,G.keep s1,λf' a' c' H2 s2 G2 nf na nc lQ=>⟨sz θ,λsl gS=>?_⟩⟩;have s3:=f_ (o:=.lst [V.ref f']) gS;have u3:(upd H2 sl (.lst [V.ref f'])) sl=_:=c_;have S3:=(s1.trans s2).trans s3;have hk3:=S3 _ _ hk;have G3:=G2.keep s3;have nk:∀ {y:Addr} {o:HO},H y=none->y≠kp:=λh z=>by rw[z,hk] at h;cases h
  show⟨_,μ,kp,C,dx,[],μ,hk3,cl,nS,ζ,(k sl (f',a',c') _ ((s1.trans s2).free gS) (s1.free nf) (s1.free na) (s1.free nc) ⟨c_,?_,μ,?_⟩ ?_)⟩;.rw[j_ (nk (o:=.lst []) ((s1.trans s2).free gS))];show u3
  .intro i x v h1 h2;have hi:=(a1I.mp h1).1;have e:i=0:=by simp at hi;lia
   subst e;simp at h1 h2;subst h1;subst h2;show⟨by rw[j_ (nk (o:=.lst []) (s1.free nf))];show G3.tp,by rw[j_ (nk (o:=.lst []) (s1.free na))];show G3.hp,by rw[j_ (nk (o:=.lst []) (s1.free nc))];show G3.hw,G3.ok⟩
  .intro y o hy hn;rw[j_ (λz=>hn (by rw[z];show a1X.mpr μ))];show S3 y o hy
def NO:aS ["self"] ["self"] (h_ Cr):=⟨μ,μ,μ,ξ,μ,ξ,ξ⟩
def ib_(F:aM K "changes" "Keeper.changes" Cr f fd)(T:Txt mg)(nS:gE K C "standing")(cl:cA K C):aA P w K mg base aI 1 f fd ["self"] (pR C):=by
 show F.ok NO λao A outer s H vs Q E hr h=>?_
 .obtain⟨kp,dx,sl,as,b,ps,cJ,rfl,S,k⟩:=h;show⟨_,(g_<|m_<|n_ R_ (dw T.len (by rfl)<|kK (pv 0) μ) e_),⟨_,μ,kp,C,dx,_,_,μ,S.ob,cl,nS,lO,sl,_,μ,.inl (ae.of S.ls),_,_,μ,μ,?_⟩⟩;rw[a1H,S.len];show k
def NP:aS ["self"] ["self"] (h_ Cn):=⟨μ,μ,μ,ξ,μ,ξ,ξ⟩
def NQ:aS ["self","d"] ["self","d"] (h_ Co):=⟨μ,μ,μ,ξ,μ,ξ,ξ⟩
def nS_(F:aM K "near" "Keeper.near" Co f fd)(nS:gE K C "standing")(EW:ak P w K mg base 6 "count_near" ["frame","d"] mZ)(cl:cA K C):aA P w K mg base aI 7 f fd ["self","d"] (va C):=by
 show F.ok NQ λao A outer s H vs Q E hr h=>?_
 .obtain⟨kp,dx,sl,as,b,ps,aH,ws,d,rfl,S,k⟩:=h;show⟨_,(g_<|m_<|o_ EW hr (by rfl)<|a_ (bf (kK (pv 0) μ)<|eO eQ e_)<|a_ (pv 1) d_),?_⟩;obtain⟨ai,x,rfl,zG,G,e⟩:=S.last;show⟨_,μ,kp,C,dx,_,_,μ,S.ob,cl,nS,lO,_,μ,bU S.ls e ⟨_,μ,_,_,_,b,ps,ws,d,μ,G,λH' s'=>k H' s'⟩⟩
def NS:aS ["self","k"] ["self","k"] (h_ Cq):=⟨μ,μ,μ,ξ,μ,ξ,ξ⟩
def nU_(F:aM K "even" "Keeper.even" Cq f fd)(nS:gE K C "standing")(EX:ak P w K mg base 13 "even_by" ["frame","k"] y8)(cl:cA K C):aA P w K mg base aI 14 f fd ["self","k"] (vb C):=by
 show F.ok NS λao A outer s H vs Q E hr h=>?_
 .obtain⟨kp,dx,sl,as,b,ps,aH,ws,j,rfl,S,k⟩:=h;show⟨_,(g_<|m_<|o_ EX hr (by rfl)<|a_ (bf (kK (pv 0) μ)<|eO eQ e_)<|a_ (pv 1) d_),?_⟩;obtain⟨ai,x,rfl,zG,G,e⟩:=S.last;show⟨_,μ,kp,C,dx,_,_,μ,S.ob,cl,nS,lO,_,μ,bU S.ls e ⟨_,μ,_,_,_,b,ps,ws,j,μ,G,λv H' s' hv=>k v H' s' hv⟩⟩
def zH:aS ["self","place","weight","earlier","later"] ["self","place","weight"] (h_ xv):=⟨μ,μ,μ,ξ,μ,ξ,ξ⟩
def NT(F:aM K "weigh" "Keeper.weigh" xv f fd)(nS:gE K C "standing")(zI:ak P w K mg base 3 "with_weight" ["frame","place","weight"] rR)(j9:ak P w K mg base 7 "count_even" ["frame"] lG)(cl:cA K C):aA P w K mg base aI 8 f fd ["self","place","weight"] (uZ C):=by
 show F.ok zH λao A outer s H vs Q E hr h=>?_
 .obtain⟨kp,dx,sl,as,b,ps,aH,ws,p,wt,rfl,S,hp,w1,w2,hl,k⟩:=h;have nd:=zH.nd;show⟨_,(b_ (i_ 3 (bf (kK (pv 0) μ) (eO eQ e_))) (b_ (i_ 4 (o_ zI hr.mo η (a_ (pv 3) (a_ (pv 1) (a_ (pv 2) d_))))) (b_ (G_ (fk PySem.F.plainAttrs_list PySem.F.slot_list_append PySem.F.type_list_append K_ (kK (pv 0) μ) (a_ (pv 4) d_))) (g_ (m_ (dJ (a_ (o_ j9 hr η (a_ (pv 3) d_)) (a_ (o_ j9 hr η (a_ (pv 4) d_)) d_)))))))),?_⟩;obtain⟨ai,x,e0,zG,G,e⟩:=S.last;have ba:as≠[]:=by rw[e0];simp
  obtain⟨o1,o2⟩:=S.ES ba;show⟨_,μ,kp,C,dx,_,_,μ,S.ob,cl,nS,lO,_,μ,bU S.ls e ⟨_,μ,_,μ,_,μ,_,_,_,b,ps,ws,p,wt,μ,G,hp,w1,w2,λf' a' c' H1 s1 G1 nf na nc=>?_⟩⟩;have S1:=S.keep s1;have hs:∀ {y:Addr},H y=none->sl≠y:=λh z=>by rw[<-z,S.ls] at h;cases h
  show⟨_,μ,kp,C,dx,_,_,μ,S1.ob,cl,nS,lO,.inl ⟨μ,_,ae.of S1.ls⟩,_,μ,sl,_,_,μ,μ,S1.ls,bK (by rw[a1H,S.len];simp;lia),?_⟩
  have S2:=S1.push (x:=(f',a',c')) G1 o1 (λx' lj=>by
   rcases a2l.mp lj with h | h;.show o2 x' h
   .rw[a1X.mp h];show⟨hs nf,hs na,hs nc⟩)
  have K2:Kp [sl] H (upd H1 sl (.lst ((as.map λx=>V.ref x.1)++[V.ref f']))):=λy o hy hn=>by
   rw[j_ (λz=>hn (by rw[z];show a1X.mpr μ))];show s1 y o hy
  have Gx:aU (upd H1 sl (.lst ((as.map λx=>V.ref x.1)++[V.ref f']))) x.1 x.2.1 x.2.2 b ps ws:=by
   have h:=o2 x (by rw[e0];simp);have g:=G.keep s1;show⟨by rw[j_ h.1.symm];show g.tp,by rw[j_ h.2.1.symm];show g.hp,by rw[j_ h.2.2.symm];show g.hw,g.ok⟩
  have Gy:aU (upd H1 sl (.lst ((as.map λx=>V.ref x.1)++[V.ref f']))) f' a' c' b ps (ws.set p wt) := ⟨by rw[j_ (hs nf).symm];show G1.tp,by rw[j_ (hs na).symm];show G1.hp,by rw[j_ (hs nc).symm];show G1.hw,G1.ok⟩;generalize upd H1 sl (.lst ((as.map λx=>V.ref x.1)++[V.ref f']))=H2 at S2 K2 Gx Gy⊢;show⟨_,μ,x.1,x.2.1,x.2.2,b,ps,ws,μ,Gx,λH3 s3=>(⟨_,μ,f',a',c',b,ps,_,μ,Gy.keep s3,λH4 s4=>⟨sz θ,λt ht=>?_⟩⟩)⟩;have s5:=f_ (o:=.tup [.int (cN b ps ws),.int (cN b ps (ws.set p wt))]) ht;have K4:Kp [sl] H H4:=(K2.same s3).same s4;show k t (f',a',c') _ (K4.free ht (λz=>by rw[a1X.mp z,(S2.keep (s3.trans s4)).ls] at ht;cases ht)) c_ nf na nc (S2.keep ((s3.trans s4).trans s5)) (K4.same s5)
def EY:aS ["self","undone"] ["self"] (h_ xz):=⟨μ,μ,μ,ξ,μ,ξ,ξ⟩
def NU(F:aM K "undo" "Keeper.undo" xz f fd)(nS:gE K C "standing")(j9:ak P w K mg base 7 "count_even" ["frame"] lG)(cl:cA K C)(jv:fD P w K mg base 1 C "changes" ["self"] (pR C)):aA P w K mg base aI 8 f fd ["self"] (u9 C):=by
 show F.ok EY λao A outer s H vs Q E hr h=>?_
 .obtain⟨kp,dx,sl,ai,x,b,ps,aH,ws,wz,rfl,S,hl,k⟩:=h;have nd:=EY.nd;show⟨_,(b_ (E_ (t_ dI (rQ cl jv hr.mo (pv 0)) e_ (aY _)) jb q_) (b_ (i_ 1 (Il PySem.F.plainAttrs_list PySem.F.slot_list_pop PySem.F.type_list_pop SM (kK (pv 0) μ))) (g_ (m_ (dJ (a_ (o_ j9 hr η (a_ (pv 1) d_)) (a_ (o_ j9 hr η (a_ (bf (kK (pv 0) μ) (eO eQ e_)) d_)) d_))))))),?_⟩
  have Gz:aU H x.1 x.2.1 x.2.2 b ps wz:=by
   have:=S.len;simp at this;show S.each ai.length x wz θ ?_;rw[show ai.length=(aH++[ws]).length by simp;lia,a1V (a1M _)];simp
  have dG:ai.length=aH.length+1:=by have:=S.len;simp at this;lia
  have ba:ai≠[]:=λz=>by rw[z] at dG;simp at dG
  obtain⟨o1,o2⟩:=S.ES θ;show⟨_,μ,kp,dx,_,μ,S.ob,ix ξ,kp,dx,sl,_,b,ps,_,μ,S,μ,_,μ,?_⟩;rw[decide_eq_false (by intro z;injection z with z;simp at z;lia)];show aG ?_;have a0m:((ai++[x]).map λx=>V.ref x.1)[((ai++[x]).map λx=>V.ref x.1).length-1]?=some (V.ref x.1):=by simp
  have a0n:((ai++[x]).map λx=>V.ref x.1).dropLast=ai.map λx=>V.ref x.1:=by rw[a2i];simp
  show⟨_,μ,kp,C,dx,_,_,μ,S.ob,cl,nS,lO,.inl ⟨μ,_,ae.of S.ls⟩,sl,_,_,μ,μ,S.ls,a0m,?_⟩;show a0n▸?_;have S1:=S.pop ba
  have K1:Kp [sl] H (upd H sl (.lst (ai.map λx=>V.ref x.1))):=λy o hy hn=>by
   rw[j_ (λz=>hn (by rw[z];show a1X.mpr μ))];show hy
  have h:=o2 x θ;have G1:aU (upd H sl (.lst (ai.map λx=>V.ref x.1))) x.1 x.2.1 x.2.2 b ps wz:=⟨by rw[j_ h.1.symm];show Gz.tp,by rw[j_ h.2.1.symm];show Gz.hp,by rw[j_ h.2.2.symm];show Gz.hw,Gz.ok⟩;generalize upd H sl (.lst (ai.map λx=>V.ref x.1))=H1 at S1 K1 G1⊢;show⟨_,μ,x.1,x.2.1,x.2.2,b,ps,wz,μ,G1,λH2 s2=>?_⟩;have S2:=S1.keep s2;obtain⟨aj,y,e0,haj,Gy,ey⟩:=S2.last;show⟨_,μ,kp,C,dx,_,_,μ,S2.ob,cl,nS,lO,_,μ,bU S2.ls ey ⟨y.1,y.2.1,y.2.2,b,ps,ws,μ,Gy,λH3 s3=>⟨sz θ,λt ht=>?_⟩⟩⟩;have s4:=f_ (o:=.tup [.int (cN b ps wz),.int (cN b ps ws)]) ht;have K3:Kp [sl] H H3:=(K1.same s2).same s3;show k t _ (K3.free ht (λz=>by rw[a1X.mp z,(S2.keep s3).ls] at ht;cases ht)) c_ (S2.keep (s3.trans s4)) (K3.same s4)
end Hv
namespace L2
open PySem PySem.Spec PyProof.Rows
def zJ(h0:Heap)(H:Hp)(h:Heap)(x:Addr)(C a0 fl:Value):Prop:=h0.get? x=none/\H x=none/\ ∃oe vs T oT ts,h.get? x=some oe/\(oe.cls=C/\vs[0]?=some a0/\oe.dict=none)/\oe.data=.fields vs/\vs[1]?=some (.ref T)/\h0.get? T=none/\H T=none/\T≠x/\h.get? T=some oT/\oT.data=.fields ts/\ts[3]?=some fl
abbrev nC(h0:Heap)(H:Hp)(h:Heap)(x:Addr)(C a0:Value):Prop:=zJ h0 H h x C a0 .none
structure jw(h0:Heap)(H:Hp)(fs:List Addr)(h h':Heap):Prop where
 keep:∀b o,h.get? b=some o->b∉fs->h0.get? b≠none\/H b≠none->h'.get? b=some o
 slot:∀b o,h.get? b=some o->b∈fs->∃sl,h'.get? b=some {o with slots:=sl}
 there:∀b o,h0.get? b≠none->h.get? b=some o->∃o',h'.get? b=some o'
def jw.trans(a:jw h0 H fs h h1)(b:jw h0 H fs h1 h2):jw h0 H fs h h2 :=
 ⟨λc o e n z=>b.keep c o (a.keep c o e n z) n z,λc o e hc=>by
  obtain⟨sl,e1⟩:=a.slot c o e hc;obtain⟨pT,e2⟩:=b.slot c _ e1 hc;show⟨pT,e2⟩,λc o n e=>by
  obtain⟨o1,e1⟩:=a.there c o n e;show b.there c o1 n e1⟩
section
variable{s:Shared}
def NV(lS:A.frames=some (env::outer))(hl:s.heap.FunFrames b0 (env::outer))(hf:env.frame=some L)
  (he:s.heap.get? x=some oe) (hd:oe.data=.fields vs) (hsz:1<vs.size)
  (h:∀ h'  (T:Addr)  oT   ts ,s.heap.objs.size<=T->(∀b o,s.heap.get? b=some o->b∉bD (env::outer)->b≠x->h'.get? b=some o)->(∀b o,s.heap.get? b=some o->b∈bD (env::outer)->∃sl,h'.get? b=some {o with slots:=sl})->
   h'.get? x=some (Obj.mapFields (·.setIfInBounds 1 (.ref T)) oe)->h'.get? T=some oT->oT.data=.fields ts->ts[3]?=some (rawInt L)->Q () {s with heap:=h'}) :
  wpAny M A (do let a <-frameOf env;let pl <-entryPlaceOf L had;let b <-EntryCells.newEntry EZ a .none (rawInt L) .none pl;setField (.ref x) 1 b) Q E s:=by
 have xf:x∉bD (env::outer):=λhm=>by
  obtain⟨_,o,ho,hnf⟩:=hl.mem hm;rw[he] at ho;cases ho;show hnf vs hd
 show wpAny_bind (wpAny_frameOf_fun lS hl hf λg ⟨gs,g1,g2⟩=>wpAny_bind (wpAny_entryPlaceOf λpl cu=>?_));show wpAny_bind (wpAny_newObj_type ?_ (cu.sizeOk5 _ _ _ _ _));have x1:=(g1 x xf).trans he;have nT:=a2K (a1N x1);generalize jQ:({cls:=.type "traceback",data:=.fields ([EZ,.ref L,.none,rawInt L,.none]++(if pl.isEmpty then List.replicate 6 Value.none else pl)).toArray}:Obj)=ob;have nf:ob.isFreed=false:=by rw[<-jQ];rfl
 have x2:=a1J ob x1;show wpAny_setField x2 hd hsz ?_;have dd:=Obj.data_mapFields hd (·.setIfInBounds 1 (Value.ref g.objs.size));have tt:((g.push ob).update x (Obj.mapFields (·.setIfInBounds 1 (Value.ref g.objs.size)))).get? g.objs.size=some ob:=(a2C _ _ (Ne.symm nT)).trans (a1S g nf);show h _ g.objs.size ob ([EZ,.ref L,.none,rawInt L,.none]++(if pl.isEmpty then List.replicate 6 Value.none else pl)).toArray (by rw[gs];show a1M _) (λb o e n nx=>?_) (λb o e hb=>?_) (a3A _ x2 (Obj.isFreed_of_fields dd)) tt (by rw[<-jQ]) ?_;.show(a2C _ _ (Ne.symm nx)).trans (a1J ob ((g1 b n).trans e))
 .obtain⟨sl,e1⟩:=g2 b o e;show⟨sl,(a2C _ _ (λz:x=b=>xf (by rw[z];show hb))).trans (a1J ob e1)⟩
 .first | (simp;done) | (rcases cu with rfl | ⟨_,_,_,_,_,_,_,rfl⟩ <;> simp)
def NW{h:Heap}{T:Addr}(hT:h.objs.size<=T){h0:Heap}(iU:∀b o,h0.get? b=some o->∃o',h.get? b=some o'):h0.get? T=none:=by
 cases q:h0.get? T with
 | none=>rfl
 | some o =>
  obtain⟨o',e⟩:=iU T o q;show absurd (a1N e)<|Nat.not_lt.mpr hT
def NY{h:Heap}{T:Addr}(hT:h.objs.size<=T){H:Hp}(iV:∀b o,H b=some o->∃o',h.get? b=some o'):H T=none:=by
 cases q:H T with
 | none=>rfl
 | some o =>
  obtain⟨o',e⟩:=iV T o q;show absurd (a1N e)<|Nat.not_lt.mpr hT
def NZ(lS:A.frames=some (env::outer))(hl:s.heap.FunFrames b0 (env::outer))(hf:env.frame=some L) (fl:nC h0 H s.heap x C a0) (iU:∀b o,h0.get? b=some o->∃o',s.heap.get? b=some o') (iV:∀b o,H b=some o->∃o',s.heap.get? b=some o') (h:∀h',jw h0 H (bD (env::outer)) s.heap h'->zJ h0 H h' x C a0 (rawInt L)->Q () {s with heap:=h'}):wpAny M A (noteFrame (.ref x) env) Q E s:=by
 obtain⟨x0,xH,oe,vs,T,oT,ts,he,⟨c1,c2,c3⟩,hd,h1,T0,TH,Tx,hT,lT,h3⟩:=fl;unfold noteFrame;simp only[hf];show wpAny_bind (wpAny_field he hd h1 ?_);rw[if_pos (by simp)];show wpAny_bind (wpAny_field hT lT h3 ?_);rw[if_neg (by simp[rawInt])];show wpAny_bind (wpAny_setField hT lT (a2V.mp h3).1 ?_);have gn:∀b,b≠T->(s.heap.update T (Obj.mapFields (·.setIfInBounds 3 Value.none))).get? b=s.heap.get? b:=λb hb=>a2C _ _ (Ne.symm hb)
 have Tf:T∉bD (env::outer):=λhm=>by
  obtain⟨_,o,ho,nf⟩:=hl.mem hm;rw[hT] at ho;cases ho;show nf ts lT
 have bz:=hl.of_keeps λb o e nf=>⟨o,(gn b (λz=>by simp_all)).trans e,μ⟩;show NV lS bz hf ((gn x (Ne.symm Tx)).trans he) hd (a2V.mp h1).1 λh' T' Fa lJ z0 z1 z2 z3 z4 z5 z6=>?_;have sT:s.heap.objs.size<=T':=by simp_all
 have Fb:=a2K (a2c (a1N he) sT);show h h' ⟨λb o e n z=>z1 b o ((gn b (λq=>?_)).trans e) n (λq=>?_),λb o e hb=>z2 b o ((gn b (λq=>Tf (q▸hb))).trans e) hb,λb o n e=>?_⟩ ⟨x0,xH,_,_,T',Fa,lJ,z3,⟨(Obj.cls_mapFields _ _).trans c1,?_,?_⟩,Obj.data_mapFields hd _,?_,NW sT iU,NY sT iV,Fb,z4,z5,z6⟩;.grind
 .grind
 .by_cases hb:b∈bD (env::outer)
  .obtain⟨sl,e1⟩:=z2 b o ((gn b (λq=>Tf (q▸hb))).trans e) hb;show⟨_,e1⟩
  .show⟨o,z1 b o ((gn b (λq=>n (by rw[q];show T0))).trans e) hb (λq=>n (by rw[q];show x0))⟩
 .rw[a4A (by decide)];show c2
 .obtain⟨a,b,c,d⟩:=oe;cases c <;> first | show c3 | cases hd
 .rw[a3m (a2V.mp h1).1]
def ko_(lS:A.frames=some (env::outer))(hl:s.heap.FunFrames b0 (env::outer))(hf:env.frame=some L) (he:s.heap.get? x=some oe) (hd:oe.data=.fields vs) (Fc:oe.dict=none) (h1:vs[1]?=some .none) (lB:vs[0]?=some a0) (x0:h0.get? x=none) (xH:H x=none) (iU:∀b o,h0.get? b=some o->∃o',s.heap.get? b=some o') (iV:∀b o,H b=some o->∃o',s.heap.get? b=some o') (h:∀h',jw h0 H (bD (env::outer)) s.heap h'->zJ h0 H h' x oe.cls a0 (rawInt L)->Q () {s with heap:=h'}):wpAny M A (noteFrame (.ref x) env) Q E s:=by
 unfold noteFrame;simp only[hf];show wpAny_bind<|wpAny_field he hd h1 ?_;show NV lS hl hf he hd (a2V.mp h1).1 λh' T' Fa lJ sT z1 z2 z3 z4 z5 z6=>?_;have Fb:=a2K (a2c (a1N he) sT);show h h' ⟨λb o e n z=>z1 b o e n<|λq=>?_,z2,λb o n e=>?_⟩ ⟨x0,xH,_,_,T',Fa,lJ,z3,⟨Obj.cls_mapFields _ _,?_,?_⟩,Obj.data_mapFields hd _,?_,NW sT iU,NY sT iV,Fb,z4,z5,z6⟩;.simp_all
 .by_cases hb:b∈bD (env::outer)
  .obtain⟨sl,e1⟩:=z2 b o e hb;show⟨_,e1⟩
  .show⟨o,z1 b o e hb<|λq=>n<|by rw[q];show x0⟩
 .rw[a4A (by decide)];show lB
 .obtain⟨a,b,c,d⟩:=oe;cases c <;> first | show Fc | cases hd
 .rw[a3m (a2V.mp h1).1]
def zK(hl:s.heap.FunFrames b0 l)(f:zJ h0 H s.heap x C a0 fl) (iU:∀b o,h0.get? b=some o->∃o',s.heap.get? b=some o') (iV:∀b o,H b=some o->∃o',s.heap.get? b=some o') (h:∀h',jw h0 H (bD l) s.heap h'->nC h0 H h' x C a0->Q () {s with heap:=h'}):wpAny M A (setFlight (.ref x) none) Q E s:=by
 obtain⟨x0,xH,oe,vs,T,oT,ts,he,hc,hd,h1,T0,TH,Tx,hT,lT,h3⟩:=f;have N1:=(a2V.mp h3).1;show wpAny_bind (wpAny_field he hd h1 ?_);show wpAny_setField hT lT N1 ?_;have gn:∀b,b≠T->(s.heap.update T (Obj.mapFields (·.setIfInBounds 3 ((none:Option Addr).elim Value.none λf=>rawInt f)))).get? b=s.heap.get? b:=λb hb=>a2C _ _ (Ne.symm hb)
 have Tf:T∉bD l:=λhm=>by
  obtain⟨_,o,ho,nf⟩:=hl.mem hm;rw[hT] at ho;cases ho;show nf ts lT
 have tt:=a3A (Obj.mapFields (·.setIfInBounds 3 ((none:Option Addr).elim Value.none λf=>rawInt f))) hT (Obj.isFreed_of_fields (Obj.data_mapFields lT _));show h _ ⟨λb o e n z=>(gn b (λq=>?_)).trans e,λb o e hb=>⟨o.slots,(gn b (λq=>Tf (q▸hb))).trans e⟩,λb o n e=>⟨o,(gn b (λq=>n (by rw[q];show T0))).trans e⟩⟩ ⟨x0,xH,oe,vs,T,_,_,(gn x (Ne.symm Tx)).trans he,hc,hd,h1,T0,TH,Tx,tt,Obj.data_mapFields lT _,?_⟩;.simp_all
 .rw[a3m N1];rfl
theorem Fd{h h' b0:Heap}:∀ {l:List Env},h.FunFrames b0 l->(∀b o,h.get? b=some o->b∈bD l->∃sl,h'.get? b=some {o with slots:=sl})->h'.FunFrames b0 l
 | [],_,_=>trivial
 | env::l,⟨kk,⟨L,o,hf,hn,ho,hd⟩,r⟩,hs=>by
  have e:bD (env::l)=L::bD l:=by rw[bD,a4b,hf];rfl
  rw[e] at hs;obtain⟨sl,e1⟩:=hs L o ho θ;show⟨kk,⟨L,_,hf,hn,e1,hd⟩,Fd r λb o' eb hb=>hs b o' eb<|by simp[hb]⟩
def ks_(lS:A.frames=some (env::outer))(hl:s.heap.FunFrames b0 (env::outer))(hf:env.frame=some L) (fl:nC h0 H s.heap x C a0) (iU:∀b o,h0.get? b=some o->∃o',s.heap.get? b=some o') (am:bH P w H s.heap) (nP:∀b∈bD (env::outer),H b=none) (iV:∀b o,H b=some o->∃o',s.heap.get? b=some o') (h:∀h',jw h0 H (bD (env::outer)) s.heap h'->nC h0 H h' x C a0->Q () {s with heap:=h'}):wpAny M A (leaving env (.ref x)) Q E s:=by
 show wpAny_bind<|NZ lS hl hf fl iU iV λh2 nr fa=>(zK (l:=env::outer) (Fd hl nr.slot) fa (λb o e=>?_) (λb o e=>?_) λh3 rS Fe=>h h3 (nr.trans rS) Fe)
 .obtain⟨o1,e1⟩:=iU b o e;show nr.there b o1 (by rw[e];show λz=>by cases z) e1
 .obtain⟨o1,e1⟩:=iV b o e;show⟨o1,nr.keep b o1 e1 (λz=>by rw[nP b z] at e;cases e)<|.inr<|by rw[e];show λz=>by cases z⟩
def ij_(lS:A.frames=some (env::outer))(hl:s.heap.FunFrames b0 (env::outer))(hf:env.frame=some L) (he:s.heap.get? x=some oe) (hd:oe.data=.fields vs) (Fc:oe.dict=none) (h1:vs[1]?=some .none) (lB:vs[0]?=some a0) (x0:h0.get? x=none) (xH:H x=none) (iU:∀b o,h0.get? b=some o->∃o',s.heap.get? b=some o') (nP:∀b∈bD (env::outer),H b=none) (iV:∀b o,H b=some o->∃o',s.heap.get? b=some o') (h:∀h',jw h0 H (bD (env::outer)) s.heap h'->nC h0 H h' x oe.cls a0->Q () {s with heap:=h'}):wpAny M A (leaving env (.ref x)) Q E s:=by
 show wpAny_bind<|ko_ lS hl hf he hd Fc h1 lB x0 xH iU iV λh2 nr fa=>(zK (l:=env::outer) (Fd hl nr.slot) fa (λb o e=>?_) (λb o e=>?_) λh3 rS Fe=>h h3 (nr.trans rS) Fe)
 .obtain⟨o1,e1⟩:=iU b o e;show nr.there b o1 (by rw[e];show λz=>by cases z) e1
 .obtain⟨o1,e1⟩:=iV b o e;show⟨o1,nr.keep b o1 e1 (λz=>by rw[nP b z] at e;cases e)<|.inr<|by rw[e];show λz=>by cases z⟩
end
def ci.there(x:ci P w H h a o):∃u,h.get? a=some u:=by
 cases o with
 | lst xs=>obtain⟨_,_,_,_,e⟩:=x;show⟨_,e⟩
 | tup xs=>obtain⟨_,_,_,ob,e,_⟩:=x;show⟨_,e⟩
 | dK kvs=>obtain⟨_,_,_,_,ob,_,_,e,_⟩:=x;show⟨_,e⟩
 | dT kvs=>obtain⟨_,_,_,_,ob,_,_,e,_⟩:=x;show⟨_,e⟩
 | set S n=>obtain⟨ob,_,_,_,e,_⟩:=x;show⟨_,e⟩
 | ins C dx fs=>obtain⟨_,_,_,e,_⟩:=x;show⟨_,e⟩
 | own y=>obtain⟨ob,e⟩:=x;show⟨_,e⟩
 | xd fs=>obtain⟨_,⟨od,_,_,e,_⟩,_⟩:=x;show⟨_,e⟩
 | vF lo hi=>obtain⟨_,_,_,e⟩:=x;show⟨_,e⟩
 | bE ob u=>show⟨_,x.1⟩
 | l9 ps=>show⟨_,x⟩
 | met f y=>show⟨_,x⟩
 | ext φ=>obtain⟨_,⟨o,e⟩,_⟩:=x;show⟨_,e⟩
def bY(P:Program)(w:World):fV:=λouter H s E e s'=>∃(x C:Addr) (a0:Value) (H':Hp),e=.ref x/\s'.os=s.os/\AllBare s'.gens/\Un (bD outer) [] H H' s.heap s'.heap/\bH P w H' s'.heap/\nC s.heap H' s'.heap x (.ref C) a0/\E (.ref C) none H'
section
variable{K:PySem.W.Frag}
def sB_{σ:St}(I:Inv (cb (bY P w) P w K mg base N qual scope f cd A outer s H E) aa σ H' s')(lU:nC s.heap H' s'.heap x (.ref C) a0)(hE:E (.ref C) none H') : (cb (bY P w) P w K mg base N qual scope f cd A outer s H E).xe (.ref x) s':=by
 have gW:∀b:Addr,b∉(cb (bY P w) P w K mg base N qual scope f cd A outer s H E).ex:=λb z=>absurd (show b∈ []  from z)<|by simp
 have vc:bD (cb (bY P w) P w K mg base N qual scope f cd A _ s H E).stack=s.heap.objs.size::bD outer:=rfl;show ks_ I.ok.frames I.stack μ lU (λb o e=>I.base.there b o e<|gW b) I.am I.ku (λb o e=>(I.am b o e).there) λh'' ⟨k1,k2,k3⟩ Ff=>?_;have cP:∀b o,s.heap.get? b=some o->b≠s.heap.objs.size:=λb o e=>a2e<|a1N e;have off:∀b o,s.heap.get? b=some o->b∉bD outer->b∉bD (cb (bY P w) P w K mg base N qual scope f cd A outer s H E).stack:=λb o e n z=>by simp_all
 show⟨x,C,a0,H',μ,I.os,I.bare,⟨λb o e n nb _=>?_,λb o e n hb _=>?_,λb o e n _=>I.base.free b o e n<|gW b,λb o e _=>?_,I.base.fS,I.base.fF,I.base.f9⟩,λb o e=>?_,Ff,hE⟩;.show k1 b o (I.base.keep b o e n nb<|gW b) (off b o e nb)<|.inl<|by rw[e];show λz=>by cases z
 .obtain⟨sl,e1⟩:=I.base.slot b o e n hb (gW b);obtain⟨pT,e2⟩:=k2 b _ e1 (show b∈s.heap.objs.size::bD outer from a2m _ hb);show⟨pT,e2⟩
 .obtain⟨o',e1⟩:=I.base.there b o e (gW b);show k3 b o' (by rw[e];show λz=>by cases z) e1
 .show(I.am b o e).bN (λc u hc q=>?_) (λ_ q=>q) λ_ _ q=>q;have nD:H' c≠none:=by grind
  show k1 c u q (λz=>nD<|I.ku c z)<|.inr nD
def a0o:mj (bY P w) (cb (bY P w) P w K mg base N qual scope f cd A outer s H E) E:=λaa σ H1 s1 e s' I h=>by
 obtain⟨x,C,a0,H',he,os,bare,un,am,lU,hE⟩:=h;subst he;have I':=I.sI os un am bare (λb z=>absurd z<|by simp);have gW:∀b:Addr,b∉(cb (bY P w) P w K mg base N qual scope f cd A outer s H E).ex:=λb z=>absurd (show b∈ []  from z)<|by simp
 have N2:∀b,s1.heap.get? b=none->s.heap.get? b=none:=λb z=>by
  cases q:s.heap.get? b with
  | none=>rfl
  | some o =>
   obtain⟨o',e1⟩:=I.base.there b o q (gW b);rw[z] at e1;cases e1
 obtain⟨x0,xH,oe,vs,T,oT,ts,he,hc,hd,h1,T0,TH,r⟩:=lU;show sB_ I' ⟨N2 _ x0,xH,oe,vs,T,oT,ts,he,hc,hd,h1,N2 _ T0,TH,r⟩ hE
def qO_{σ:St}(I0:Inv (cb (bY P w) P w K mg base N qual scope f cd A outer s H E) aa σ H1 s1)(hx:Heap.MadeExcOf s1.heap h' x (.ref C) vs)(hE:E (.ref C) none H1) : (cb (bY P w) P w K mg base N qual scope f cd A outer s H E).xe (.ref x) {s1 with heap:=h'}:=by
 have gW:∀b:Addr,b∉(cb (bY P w) P w K mg base N qual scope f cd A outer s H E).ex:=λb z=>absurd (show b∈ []  from z) θ;have vc:bD (cb (bY P w) P w K mg base N qual scope f cd A outer s H E).stack=s.heap.objs.size::bD outer:=rfl;have I:Inv (cb (bY P w) P w K mg base N qual scope f cd A outer s H E) aa σ H1 {s1 with heap:=h'}:=I0.kept hx.keeps;obtain⟨t,he,_,_⟩:=hx.there
 have x0:s.heap.get? x=none:=by
  cases q:s.heap.get? x with
  | none=>rfl
  | some o =>
   obtain⟨o',e1⟩:=I0.base.there x o q (gW x);rw[hx.new] at e1;cases e1
 have xH:H1 x=none:=by
  cases q:H1 x with
  | none=>rfl
  | some o =>
   obtain⟨o',e1⟩:=(I0.am x o q).there;rw[hx.new] at e1;cases e1
 show ij_ I.ok.frames I.stack μ he μ μ μ μ x0 xH (λb o e=>I.base.there b o e (gW b)) I.ku (λb o e=>(I.am b o e).there) λh'' ⟨k1,k2,k3⟩ Ff=>?_;have cP:∀b o,s.heap.get? b=some o->b≠s.heap.objs.size:=λb o e=>a2e (a1N e);have off:∀b o,s.heap.get? b=some o->b∉bD outer->b∉bD (cb (bY P w) P w K mg base N qual scope f cd A outer s H E).stack:=λb o e n z=>by simp_all
 show⟨x,C,_,H1,μ,I.os,I.bare,⟨λb o e n nb _=>?_,λb o e n hb _=>?_,λb o e n _=>I.base.free b o e n (gW b),λb o e _=>?_,I.base.fS,I.base.fF,I.base.f9⟩,λb o e=>?_,Ff,hE⟩;.show k1 b o (I.base.keep b o e n nb (gW b)) (off b o e nb) (.inl (by rw[e];show λz=>by cases z))
 .obtain⟨sl,e1⟩:=I.base.slot b o e n hb (gW b);obtain⟨pT,e2⟩:=k2 b _ e1 (show b∈s.heap.objs.size::bD outer from a2m _ hb);show⟨pT,e2⟩
 .obtain⟨o',e1⟩:=I.base.there b o e (gW b);show k3 b o' (by rw[e];show λz=>by cases z) e1
 .show(I.am b o e).bN (λc u hc q=>?_) (λ_ q=>q) λ_ _ q=>q
  have nD:H1 c≠none:=by
   rcases hc with hc | hc;.simp_all
   .rw[hc];show λz=>by cases z
  show k1 c u q (λz=>nD (I.ku c z)) (.inr nD)
structure vd(base:Heap)(C:Addr)(gX lV B:String)(gY:List Value):Prop where
 fb:ExcBaseFacts B gX lV gY
 ob:∃bm N nm q bs hdct sn sub ab col dd k0 k1 k2 k3 k5 mN,base.get? C=some (excClassObj nm q C N bs bm hdct sn sub ab col dd k0 k1 k2 k3 k5 gX)/\base.Ns N mN/\mN "__init__"=none/\OwnTail base gY bm
def rA_(E:XK)(C:Addr)(te:TE):TS:=λ_ σ H=>te σ H λ_ H1=>E (.ref C) none H1
def Fg{np dm pos:Pos}(O:vd base C gX lV B gY)(hg:Gl (cb (bY P w) P w K mg base N qual scope f cd A outer s H E) x)(hm:mg x=some (.ref C)) (he:PE (cb (bY P w) P w K mg base N qual scope f cd A outer s H E) e te) (hd:(x==("__debug__":Str))=false:=by decide) (hs:starEach [e] (cb (bY P w) P w K mg base N qual scope f cd A outer s H E).env=[(false,eval e (cb (bY P w) P w K mg base N qual scope f cd A outer s H E).env)]:=by rfl) : PS (cb (bY P w) P w K mg base N qual scope f cd A outer s H E) (.Raise (some (.Call (.Name x np) [e] [] dm)) none pos) (rA_ E C te):=by
 intro aa s1 σ H1 D I h;obtain⟨bm,Nc,nm,q,bs,hdct,sn,sub,ab,col,dd,k0,k1,k2,k3,k5,mN,hC,hN,vf,T⟩:=O.ob;show wpAny_Raise_call_subT (nm:=nm) (q:=q) (N:=Nc) (bs:=bs) (hdct:=hdct) (sn:=sn) (sub:=sub) (ab:=ab) (col:=col) (dd:=dd) (k0:=k0) (k1:=k1) (k2:=k2) (k3:=k3) (k5:=k5) O.fb (T.hasType O.fb.hasBase) (I.ok.hd μ) (by show hs▸?_;rfl) vf (sJ I hg hm ⟨μ,?_⟩ hd);show hs▸?_;show Calls.evalArgs_plain<|Calls.spliced_cons<|au (he aa s1 σ H1 _ I h) λv s2 ⟨y,H2,I2,ry,q2⟩=>Calls.spliced_nil ⟨μ,a2o (show 1<=1000 by decide) ζ,I2.bk _ _ hC,hN.keeps I2.bk,T.keeps I2.bk,λh' e hx=>qO_ I2 hx q2⟩
end
section
variable{K:PySem.W.Frag}
def aM.jO{st:Stmt}(F:aM K x qual st f fd)(S:aS N ps (h_ st)) (sR:∀ ao   A   outer   s   H   vs   Q   E ,bM k (A.deeper (envOfC qual (h_ st) s.heap.objs.size f ao))->sp vs H Q E-> ∃t,dP (cb (bY P w) P w K mg base N qual (h_ st) f ao A outer s H E) (A_ st) t/\t {nx:=λ_ H'=>Q .ax H',rt:=Q} (start N vs) H)(len:∀vs H Q E,sp vs H Q E->vs.length=ps.length:=by intro _ _ _ _ h;first|(cases h;subst_vars;rfl)|((repeat obtain⟨_,h⟩:=h);subst_vars;rfl)):aA P w K mg base (bY P w) (k+1) f fd ps sp:=by
 obtain⟨oc,od,kV,bF,pm,an,ao,ct,cS,rfl,lk,fU⟩:=F.ex;show HY lk fU S len λA outer s H vs Q E hr fW=>sR ao A _ s H vs Q E hr fW
def aA.up(F:aA P w K mg base aI k f fd ps sp):aA P w K mg base (bY P w) k f fd ps sp :=
 ⟨F.len,λA outer s H args us vs Q E hr he hb hv hs=>codeAny_mono (F.run A _ s H _ us vs Q E hr he hb hv hs) λr s' hq=>by
  cases r with
  | error e=>show False.elim hq
  | ok fl=>cases fl <;> show hq⟩
def qZ_(X:K.In base)(q:PySem.W.excIn K C gY gX=true):∃nm qn N bs bm hdct sn sub ab col dd k0 k1 k2 k3 k5 cd, base.get? C=some (excClassObj nm qn C N bs bm hdct sn sub ab col dd k0 k1 k2 k3 k5 gX)/\PySem.W.clsIn K C=some cd/\cd.mro=.ref C::bm/\PySem.W.nsOkIn K N=true/\PySem.W.nsIn K N "__init__"=some none/\PySem.W.tailIn K gY bm=true:=by
 unfold PySem.W.excIn at q;split at q
 .rename_i Fh cl sl look;split at q
  .rename_i C' bm k0 k1 k2 k3 n k5 hm hs;simp only[beq_iff_eq,a2v,Bool.not_eq_true'] at q;have ⟨⟨⟨⟨⟨eC,eN⟩,noDel⟩,ht⟩,am⟩,vf⟩:=q;subst eC eN
   cases cl with
   | mk nm bs mro ns qn hd sn sub ab col del =>
   have em:=hm;have ed:del=false:=noDel;subst em ed
   have gS:sl=#[k0,k1,k2,k3,some (.builtin n),k5]:=by
    cases sl with
    | mk l=>show congrArg _ hs
   subst gS
   have ec:PySem.W.clsIn K C'=some ⟨nm,bs,.ref C'::bm,ns,qn,hd,sn,sub,ab,col,false⟩:=by
    unfold PySem.W.clsIn;rw[look]
   show⟨nm,qn,ns,bs,bm,hd,sn,sub,ab,col,Fh,k0,k1,k2,k3,k5,⟨nm,bs,.ref C'::bm,ns,qn,hd,sn,sub,ab,col,false⟩,X _ _ look,ec,μ,am,vf,ht⟩
  .cases q
 .cases q
def N3(fb:ExcBaseFacts B gX lV gY)(X:K.In base)(q:PySem.W.excIn K C gY gX=true):vd base C gX lV B gY:=by
 obtain⟨nm,qn,ns,bs,bm,hd,sn,sub,ab,col,Fh,k0,k1,k2,k3,k5,cd,a1,_,_,am,vf,ht⟩:=qZ_ X q;show⟨fb,bm,ns,nm,qn,bs,hd,sn,sub,ab,col,Fh,k0,k1,k2,k3,k5,base.nsMap ns,a1,.of_isNs<|PySem.W.isNs_of_in X am,PySem.W.nsMap_none_of_in X am vf,PySem.W.tail_of_in X ht⟩
end
def XP(X:Cx)(aa:List (Addr×Obj))(R:St->Addr->Hp->Prop)(e:Value)(s':Shared):Prop := ∃(x C:Addr) (a0:Value) (σ:St) (H1 H':Hp) (s1:Shared),e=.ref x/\Inv X aa σ H1 s1/\s'.os=s1.os/\AllBare s'.gens/\Un (bD X.stack) [] H1 H' s1.heap s'.heap/\bH X.prog X.w H' s'.heap/\nC s1.heap H' s'.heap x (.ref C) a0/\R σ C H'
abbrev TX:=Ends->(St->Addr->Hp->Prop)->St->Hp->Prop
def PX(X:Cx)(st:Stmt)(t:TX):Prop := ∀(aa:List (Addr×Obj)) (s:Shared) (σ:St) (H:Hp) (D:Ends) (R:St->Addr->Hp->Prop),Inv X aa σ H s->t D R σ H->wpAny (model X.prog X.w) X.A (exec st X.env) (SP X aa D) (XP X aa R) s
def zL(X:Cx)(st:List Stmt)(t:TX):Prop := ∀(aa:List (Addr×Obj)) (s:Shared) (σ:St) (H:Hp) (D:Ends) (R:St->Addr->Hp->Prop),Inv X aa σ H s->t D R σ H->wpAny (model X.prog X.w) X.A (execs st X.env) (SP X aa D) (XP X aa R) s
def xIf(tc:TT)(t u:TX):TX:=λD R σ H=>tc σ H λc H1=>if c=true then t D R σ H1 else u D R σ H1
def sS_(hc:PT X.ja c tc)(ha:zL X a ta)(hb:zL X b tb):PX X (.If c a b pos) (xIf tc ta tb):=by
 intro aa s σ H D R I h;have hT:wpAny _ X.A _ (TP X aa σ λd H1=>if d=true then ta D R σ H1 else tb D R σ H1) (XP X aa R) s := wpAny_mono (hc aa s σ H _ (I.gb _) h) (λd s1 ⟨H1,I1,q⟩=>⟨H1,I1.hV,q⟩) λ_ _ z=>False.elim z;show wpAny_If<|au hT λd s1 ⟨H1,I1,q1⟩=>?_
 cases d with
 | true=>show ha aa s1 σ H1 D R I1 q1
 | false=>show hb aa s1 σ H1 D R I1 q1
def Fi{st:Stmt}(h:PX X st tx):zL X [st] tx:=λaa s σ H D R I hw=>by
 show wpAny_execs_cons<|au (h aa s σ H D R I hw) λfl s1 q=>?_
 cases fl with
 | next=>show wpAny_execs_nil q
 | brk=>show q
 | cont=>show q
 | ret u=>show q
section
variable{X:Cx}{s1:Shared}
def Fj(un:Un (bD X.stack) [] H1 H' s1.heap h)(nr:jw s1.heap H' (bD X.stack) h h2):Un (bD X.stack) [] H1 H' s1.heap h2 :=
 ⟨λb o e n nb nx=>nr.keep b o (un.keep b o e n nb nx) nb<|.inl (by rw[e];show λz=>by cases z),
  λb o e n hb nx=>by
   obtain⟨sl,e1⟩:=un.slot b o e n hb nx;obtain⟨pT,e2⟩:=nr.slot b _ e1 hb;show⟨pT,e2⟩,
  un.free,λb o e nx=>by
   obtain⟨o',e1⟩:=un.there b o e nx;show nr.there b o' (by rw[e];show λz=>by cases z) e1,un.fS,un.fF,un.f9⟩
def Fk(am:bH P w H' h)(nr:jw h0 H' fs h h2)(Bj:∀b∈fs,H' b=none):bH P w H' h2:=λb o e=>by
 show(am b o e).bN (λc u hc q=>?_) (λ_ q=>q) λ_ _ q=>q;have nD:H' c≠none:=by grind
 show nr.keep c u q (λz=>nD<|Bj c z)<|.inr nD
end
section
variable{σ:St}
def kJ_(I:Inv X aa σ H s)(hN:X.N.Nodup)(hi:X.N[i]?=some x)(hk:X.env.scope.names.lookup x=some .local)(hv:σ[i]?=some (some v))(Fl:qb X.env.scope x) (vg:X.env.kindOf x=some .local) (h:∀s',Inv X aa (σ.set i none) H s'->Q () s'):wpAny M A (unbindName X.env x) Q E s:=by
 obtain⟨m,hn,hl⟩:=id I.loc;have sH:(X.env.scope.kind==.class || (X.env.scope.kind==.module&&X.env.locals != X.env.globals))=false:=by rw[I.ok.kind];rfl
 have vJ:i<σ.length:=by rw[I.len];show(a1I.mp hi).1
 have iW:=I.iW;obtain⟨u0,r0,lk⟩:=hl i x v hi hv Fl
 have hm:m x=some u0:=by
  rcases lk with⟨_,e⟩ | ⟨k,_⟩;.show e
  .simp_all
 show wpAny_unbindName_local vg hn hm sH λh' u AH hs=>?_;obtain⟨oL,_,_,Hc,_⟩:=id hn;have dN:∀b o,X.cL.heap.get? b=some o->b≠X.env.locals:=λb o e=>a2e (a2c (a1N e) I.ok.above);show h _ ⟨I.ok,I.os,I.bare,⟨λb o e n hb hx=>(hs.2 b (dN b o e)).trans (I.base.keep b o e n hb hx),λb o e n hb hx=>?_,I.base.free,λb o e hx=>?_,I.base.fS,I.base.fF,I.base.f9⟩,⟨_,AH,λj y v' e1 e2 e3=>?_⟩,λy c e=>?_,I.free,I.fH,λp hp=>?_,λb ob e=>?_,by simpa using I.len⟩
 .obtain⟨sl,e1⟩:=I.base.slot b o e n hb hx;show⟨sl,(hs.2 b (dN b o e)).trans e1⟩
 .obtain⟨o',e1⟩:=I.base.there b o e hx;show⟨o',(hs.2 b (dN b o e)).trans e1⟩
 .by_cases hj:j=i;.simp_all
  .rw[a3o (Ne.symm hj)] at e2;obtain⟨u',r',q⟩:=hl j y v' e1 e2 e3;show⟨u',r',?_⟩;rcases q with⟨k,e⟩ | ⟨k,c,e,z⟩
   .have ny:y≠x:=λe=>hj (AG hN e1 (e▸hi));show .inl ⟨k,by simp_all⟩
   .show .inr ⟨k,c,e,z.sameBut hs (iW y c e)⟩
 .obtain⟨w',z⟩:=I.cell y c e;show⟨w',z.sameBut hs (iW y c e)⟩
 .obtain⟨e,n,ne,nf,d⟩:=I.pin p hp;show⟨(hs.2 p.1 ne).trans e,n,ne,nf,d⟩
 .show(I.am b ob e).bN (λc w' hc q=>(hs.2 c λz=>?_).trans q) (λ_ q=>q) λ_ _ q=>q;have hf:=I.free;rw[<-z] at hf;rcases hc with hc | hc;.rw[<-hc,hf] at e;cases e
  .rw[hf] at hc;cases hc
end
def Up(K:PySem.W.Frag)(C B:Addr):Prop:=PySem.W.mroIn K C (.ref B)=some true/\PySem.W.mroIn K B (.type "BaseException")=some true/\PySem.W.typeIn K (.ref B)=some (.type "type")
def kk_{K:PySem.W.Frag}{os:OsState}(X:K.In h)(u:Up K C B)(he:h.get? e=some oe)(sH:oe.cls=.ref C)(hq:Q true ⟨h,g,d,t,os⟩):wpAny M A (excMatches (.ref e) (.ref B)) Q E ⟨h,g,d,t,os⟩:=by
 have L1:=PySem.W.looks_mroIn (M:=M) X u.1;have L2:=PySem.W.looks_mroIn (M:=M) X u.2.1
 obtain⟨od,cd,sl,hB⟩:∃od cd sl,h.get? B=some ⟨.type "type",od,.cls cd,sl⟩:=by
  have z:=u.2.1;have y:=u.2.2;unfold PySem.W.mroIn PySem.W.clsIn at z;split at z
  .rename_i look;unfold PySem.W.typeIn at y;simp only[look] at y;cases y;show⟨_,_,_,X _ _ look⟩
  .cases z
 have f:=tc_notTuple;repeat (first | (with_reducible show wpAny_loadPart_at he ?_;rw[sH]) | with_reducible show wpAny_loadPart_at hB ?_ | with_reducible show L2.at ?_ | with_reducible show L1.at ?_ | wp_step)
 show hq
noncomputable abbrev Cx.marked(X:Cx)(v:Option Value):Cx:={X with A:=X.A.mark v,calm:=false}
section
variable{σ:St}
def Inv.mark(I:Inv X aa σ H s)(v:Option Value):Inv (X.marked v) aa σ H s := ⟨⟨I.ok.mod,I.ok.kind,I.ok.glob,I.ok.blt,I.ok.above,I.ok.inj,I.ok.has,I.ok.nM,(λz=>by cases z),I.ok.frames,I.ok.qc,I.ok.sF,I.ok.bs,I.ok.iB,I.ok.nN,I.ok.nO,I.ok.gD,I.ok.kq⟩,I.os,I.bare,I.base,I.loc,I.cell,I.free,I.fH,I.pin,I.am,I.len⟩
def Inv.unmark(ok:X.Ok)(I:Inv (X.marked v) aa σ H s):Inv X aa σ H s:=⟨ok,I.os,I.bare,I.base,I.loc,I.cell,I.free,I.fH,I.pin,I.am,I.len⟩
noncomputable def lW(x C:Addr):HO:=.ext λh=>∃o,h.get? x=some o/\o.cls=.ref C/\o.dict=none/\∃vs,o.data=.fields vs
def mp_(I:Inv X aa σ H s)(hx:H x=none)(x0:X.cL.heap.get? x=none)(xl:x≠X.env.locals)(xc:∀y c,X.env.cells.lookup y=some c->c≠x)(xp:∀p∈X.pn++aa,p.1≠x)(ok:ci X.prog X.w (upd H x o) s.heap x o):Inv X aa σ (upd H x o) s:=by
 have ne:∀b u,H b=some u->b≠x:=λb u e z=>by rw[z,hx] at e;cases e
 have n0:∀b u,X.cL.heap.get? b=some u->b≠x:=λb u e z=>by rw[z,x0] at e;cases e
 show⟨I.ok,I.os,I.bare,⟨I.base.keep,I.base.slot,λb u e n lj=>?_,I.base.there,λb xs e=>?_,λb u xs e=>?_,λb ps e=>?_⟩,I.loc,I.cell,by rw[j_ xl.symm];show I.free,λy c e=>by rw[j_ (xc y c e)];show I.fH y c e,λp hp=>?_,λb u e=>?_,I.len⟩;.rw[j_ (n0 b u e)];show I.base.free b u e n lj
 .have e1:=I.base.fS b xs e;rw[j_ (ne b _ e1)];show e1
 .have e1:=I.base.fF b u xs e;rw[j_ (ne b _ e1)];show e1
 .obtain⟨more,e1⟩:=I.base.f9 b ps e;show⟨more,by rw[j_ (ne b _ e1)];show e1⟩
 .obtain⟨a1,a2,a3,a4,a5⟩:=I.pin p hp;show⟨a1,by rw[j_ (xp p hp)];show a2,a3,a4,a5⟩
 .by_cases z:b=x
  .subst z;rw[c_] at e;cases e;show ok
  .rw[j_ z] at e;show(I.am b u e).bN (λ_ _ _ q=>q) (λc q=>by rw[j_ (ne c _ q)];show q) λc xs q=>by rw[j_ (ne c _ q)];show q
end
def a0q(K:PySem.W.Frag)(B:Addr)(ie:Nat)(tb:TX)(ts:TS):TS:=λD σ H=>tb D (λaJ C H'=>Up K C B/\∀x,H' x=none->ts {nx:=λbJ H2=>D.nx (bJ.set ie none) H2,rt:=λ_ _=>False} (aJ.set ie (some (.ref x))) (upd H' x (lW x C))) σ H
def rK_(hb:zL X body tb)(wI:X.ex=[])(dZ:X.stack=X.env::X.outer)(a0r:X.env.frame=some X.env.locals)(hN:X.N.Nodup)(hi:X.N[ie]?=some n) (N6:Loc X.env.scope n) (hk:X.env.scope.names.lookup n=some .local) (vg:X.env.kindOf n=some .local) (Fl:qb X.env.scope n) (hg:Gl X cx) (hm:X.mg cx=some (.ref B)) (hs:∀v,dP (X.marked v).ja (N5::N4) ts) (hd:(cx==("__debug__":Str))=false:=by decide) : PS X (.Try body [.ExceptHandler (some (.Name cx cp)) (some n) (N5::N4) hp] [] [] pos) (a0q X.K B ie tb ts):=by
 show λaa s σ H D I h=>wpAny_Try_except (wpAny_mono (hb aa s σ H D _ I h) (λf s1 q=>?_) λe s1 q=>?_)
 .cases f with
  | next=>show wpAny_execs_nil q
  | brk=>show q
  | cont=>show q
  | ret u=>show q
 obtain⟨x,C,a0,iF,H1,H',sc,rfl,Ic,os,bare,un,am,lU,up,hR⟩:=q;have nil:∀(P:Addr->Prop),∀b∈ [] ,P b:=λ_ b z=>absurd z θ;have I1:=Ic.sI os un am bare (nil _);have vc:bD (X.env::X.outer)=bD X.stack:=by rw[dZ]
 show NZ (by rw[<-dZ];show Ic.ok.frames) (by rw[<-dZ];show I1.stack) a0r lU (λb o e=>un.there b o e θ) (λb o e=>(am b o e).there) λh2 Fm fa=>?_;rw[vc] at Fm;have Fn:=Fj un Fm;have Fo:=Fk am Fm (λb hb=>I1.ku b hb);have I2:Inv X aa iF H' {s1 with heap:=h2}:=Ic.sI os Fn Fo bare (nil _);show zK I2.stack fa (λb o e=>Fn.there b o e θ) (λb o e=>(Fo b o e).there) λh3 rS N7=>?_;have Fp:=Fj Fn rS;have Fq:=Fk Fo rS (λb hb=>I2.ku b hb);have I3:Inv X aa iF H' {s1 with heap:=h3}:=Ic.sI os Fp Fq bare (nil _)
 obtain⟨ox,hxo,hxc⟩:∃o,h3.get? x=some o/\o.cls=.ref C:=by
  obtain⟨_,_,oe,_,_,_,_,e1,e2,_⟩:=N7;show⟨oe,e1,e2.1⟩
 show wpAny_handleBy_cons (codeAny_handlers_test (sJ (I3.mark (some (.ref x))) hg hm ?_ hd)) (by intro z;cases z);show kk_ I3.cq up hxo hxc (codeAny_handlers_suite_as ?_);show zK I3.stack N7 (λb o e=>Fp.there b o e θ) (λb o e=>(Fq b o e).there) λh4 N8 a0s=>?_;have un4:=Fj Fp N8;have a0t:=Fk Fq N8 (λb hb=>I3.ku b hb);have I4:Inv X aa iF H' {s1 with heap:=h4}:=Ic.sI os un4 a0t bare (nil _);obtain⟨x0,xH,N9,vs4,_,_,_,e4,c4,d4,_⟩:=a0s;have cP:∀b o,sc.heap.get? b=some o->b≠x:=λb o e z=>by rw[z,x0] at e;cases e
 have I5:Inv X aa iF (upd H' x (lW x C)) {s1 with heap:=h4}:=by
  show mp_ I4 xH ?_ ?_ ?_ ?_ ⟨⟨N9,e4,c4.1,c4.2.2,vs4,d4⟩,⟨N9,e4⟩,λg1 g2 ⟨o,a1,a2⟩ k=>⟨o,k o a1,a2⟩⟩
  .cases z:X.cL.heap.get? x with
   | none=>rfl
   | some o =>
    obtain⟨o',e'⟩:=Ic.base.there x o z (by rw[wI];simp);show absurd μ (cP x o' e')
  .obtain⟨m,⟨o,_,_,ho,_⟩,_⟩:=id Ic.loc;show(cP _ o ho).symm
  .intro y c e;obtain⟨w',o,ho,_⟩:=Ic.cell y c e;show cP _ o ho
  .show λp oq=>cP _ _ (Ic.pin p oq).1
 show nQ I5 hN hi N6 (v:=.ref x) μ (λs6 I6=>(wpAny_mono (hs (some (.ref x)) aa s6 _ _ _ ((I6.mark (some (.ref x))).gb _) (hR x xH)) (λf s7 q7=>?_) λ_ _ z=>False.elim z)) (.inr hk)
 cases f with
 | brk=>obtain⟨_,_,_,z⟩:=q7;show z.elim
 | cont=>obtain⟨_,_,_,z⟩:=q7;show z.elim
 | ret u=>obtain⟨_,_,_,_,_,z⟩:=q7;show z.elim
 | next =>
  obtain⟨eL,H7,I7w,q8⟩:=q7;have I7:=Inv.unmark Ic.ok I7w.hV;have bZ:ie<eL.length:=by rw[I7.len];show(a1I.mp hi).1
  show wpAny_bind (wpAny_bindName (nQ I7 hN hi N6 (v:=.ax) μ (λs8 I8=>?_) (.inr hk)));show wpAny_onRaise (kJ_ I8 hN hi hk (a3t bZ) Fl vg λs9 I9=>?_);rw[List.set_set] at I9;show⟨_,H7,I9,q8⟩
end L2
namespace L2
open PySem PySem.Spec PyProof.Rows PySem.W
structure lX(K:Frag)(C:Addr):Prop where
 hg:findIn K (.ref C) "__getattribute__"=some (some (.builtin "BaseException.__getattribute__"))
 hh:findIn K (.ref C) "__getattr__"=some none
 fo:findObj K C none "__class__"=some (.bind (.builtin "getset_descriptor.__get__") (.builtin "object.__class__"))
 hm:mroIn K C (.type "object")=some true
 hb:mroIn K C (.type "BaseException")=some true
section
variable{K:Frag}
def N'(h:mroIn K C v=some b):∃cd,clsIn K C=some cd:=by
 unfold mroIn at h
 cases e:clsIn K C with
 | none=>rw[e] at h;cases h
 | some cd=>show⟨cd,μ⟩
def Oa(c:lX K C)(X:K.In s.heap)(I:PySem.W.InstAt s.heap x ox C none)(h:Q (.done (.ret (.ref C))) s):wpAny (model prog w) A (Builtin.«object.__getattribute__» ⟨[.ref x,.str "__class__" tk],[]⟩) Q E s:=by
 have L0:=I.type (M:=model prog w);have L1:=looks_find (M:=model prog w) X I c.fo;obtain⟨hh,gg,d,t,os⟩:=s;show wpAny_bind<|wpAny_pure<|wpAny_bind<|wpAny_pure<|wpAny_bind<|L0.at<|wpAny_bind<|L1.at ?_;show wpAny_bind<|wpAny_holding<|wpAny_call<|class_get X I c.hm (wpAny_pure h)
def oz_(c:lX K C)(X:K.In s.heap)(I:PySem.W.InstAt s.heap x ox C none)(h:R (.ok (.ret (.ref C))) s):codeAny (model prog w) A (.call (.builtin "BaseException.__getattribute__") ⟨[.ref x,.str "__class__" tk],[]⟩) R s:=by
 have L0:=I.type (M:=model prog w);have L1:=looks_mroIn (M:=model prog w) X c.hb;have LI:Looks (model prog w) s.heap (isInstance (.ref x) (.type "BaseException")) true:=L0.andThen L1;obtain⟨hh,gg,d,t,os⟩:=s;show codeAny_call_builtin F.excAttr_ValueError.ga.plain F.entry_bexc_ga ?_;have hk:builtinKind "BaseException.__getattribute__"=some .slot:=by decide +kernel
 have a0u:splitId "BaseException.__getattribute__"=some ("BaseException","__getattribute__"):=by decide +kernel
 have ha:=F.args_bexc_ga (.ref x) (.str "__class__" tk);simp only[checkBuiltinCall,hk,a0u];show wpAny_bind (LI.at ?_);simp only[Bool.not_true,a2I,if_false];unfold argsOk at ha;generalize Manifest.signature? "BaseException.__getattribute__"=o at ha⊢
 cases o with
 | none=>show wpAny_pure (Oa (s:=⟨hh,gg,d,t,os⟩) c X I h)
 | some Ob =>
  have pS:Bind.checkArgs "BaseException.__getattribute__" Ob ⟨[.ref x,.str "__class__" tk],[]⟩=pure ():=ha;change wpAny _ _ (Bind.checkArgs "BaseException.__getattribute__" Ob ⟨[.ref x,.str "__class__" tk],[]⟩) _ _ _;rw[pS];show wpAny_pure (Oa (s:=⟨hh,gg,d,t,os⟩) c X I h)
def mF_(c:lX K C)(X:K.In s.heap)(I:PySem.W.InstAt s.heap x ox C none)(h:Q (some (.ref C)) {s with toks:=s.toks+1}):wpAny (model prog w) A (getAttr? (.ref x) "__class__") Q E s:=by
 obtain⟨hh,gg,d,t,os⟩:=s;have L0:=I.type (M:=model prog w);have L1:=looks_findIn (M:=model prog w) X c.hg;have L2:=looks_findIn (M:=model prog w) X c.hh;show wpAny_bind<|wpAny_mkText<|wpAny_bind<|wpAny_attempt<|wpAny_holding<|wpAny_bind<|L0.at<|wpAny_bind<|L1.at ?_;have fz:(Value.builtin "BaseException.__getattribute__"==Value.builtin "object.__getattribute__")=false:=by decide +kernel
 have dS:(onTheHeap (Value.ref C)&&Value.builtin "BaseException.__getattribute__"==Value.builtin "object.__getattribute__")=false:=by rfl
 unfold getAttrByItsOwn hookBefore callGetattribute boundAndCalled;show wpAny_bind<|L2.at<|wpAny_bind<|wpAny_attempt<|wpAny_holding ?_;show wpAny_bind<|wpAny_pure<|wpAny_call<|oz_ c X I (handed_on μ (wpAny_pure h))
def oj_(c:lX K C):KitX K (.ref x) (.ref C) (λh=>∃ox,PySem.W.InstAt h x ox C none) where
 ty:=λ_ _ _ ⟨_,I⟩=>I.type
 it:=λ_ _ X _=>by
  obtain⟨cd,q⟩:=N' c.hm;unfold clsIn at q;split at q
  .rename_i a1 a2 a3 a4 look;intro A' Q' E' s' keep z;show wpAny_bind<|wpAny_loadPart (keep _ _<|X _ _ look)<|wpAny_pure z
  .cases q
 ne:=λh tp dd ad n sl X EG=>by
  obtain⟨cd,q⟩:=N' c.hm;show Bool.eq_false_iff.mpr λsame=>?_;have e:=Value.ref.inj (beq_iff_eq.mp same);subst e;unfold clsIn at q;split at q
  .rename_i a1 a2 a3 a4 look;cases (X _ _ look).symm.trans EG
  .cases q
 ca:=λX ⟨_,I⟩ k=>mF_ c X I k
end
def sC_(ok:bH P w H h)(e:H x=some (lW x C)):∃ox,PySem.W.InstAt h x ox C none:=by
 obtain⟨⟨o,a1,a2,a3,vs,a4⟩,_⟩:=(show ci P w H h x _ from ok x _ e);show⟨o,a1,a2,?_,?_⟩
 .unfold notCls;rw[a4]
 .rw[a3];show trivial
def Oc:cZ X (.builtin "isinstance") (λxs H Q=>∃x C b,∃d:V,∃dv:Value,xs=[.ref x,d]/\H x=some (lW x C)/\lX X.K C/\(∀u,RelV d u->u=dv)/\kitOne X.K (.ref C) dv=some b/\Q (.bl b) H):=by
 intro aa s σ H xs us Q I r h;obtain⟨x,C,b,d,dv,rfl,hx,c,hdv,e,q⟩:=h;obtain⟨u,v,rfl,rx,ry⟩:=vals2 r;cases (show u=Value.ref x from rx);cases hdv v ry;show kia_one (oj_ c) I.cq (sC_ I.am hx) e (λz=>nomatch z) λtk=>⟨.bl b,H,I.tok tk,μ,q⟩
end L2
namespace L2
open PySem PySem.Spec PyProof.Rows
def pU(a b:Sp):Sp:=λvs H Q E=>a vs H Q E\/b vs H Q E
section
variable{K:PySem.W.Frag}
def aA.or(F:aA P w K mg base CX k f fd ps sp)(G:aA P w K mg base CX k f fd ps sO):aA P w K mg base CX k f fd ps (pU sp sO) := ⟨λvs H Q E h=>h.elim (F.len vs H Q E)<|G.len vs H Q E,λA outer s H args us vs Q E hr he hb hv hs=>hs.elim (F.run A _ s H _ us vs Q E hr he hb hv)<|G.run A _ s H _ us vs Q E hr he hb hv⟩
structure zM(P:Program)(w:World)(K:PySem.W.Frag)(mg:Str->Option Value)(base:Heap)(k:Nat)(x:Str)(ps:List Str)(sp:Sp):Prop where
 ex:∃f fd,aA P w K mg base (bY P w) k f fd ps sp/\mg x=some (.ref f)/\PySem.W.keepIn K (.ref f)=true/\Binds K fd ps []
end
section
variable{K:PySem.W.Frag}{p pos:Pos}
def rQ_(D:zM P w K mg base k x ps sp)(hr:bM k (cb (bY P w) P w K mg base N qual scope f cd A outer s H E).A)(hg:Gl (cb (bY P w) P w K mg base N qual scope f cd A outer s H E) x)(ha:PA (cb (bY P w) P w K mg base N qual scope f cd A outer s H E) (e::es) t) (gi:(x==("__debug__":Str))=false:=by decide) (he:starEach (e::es) (cb (bY P w) P w K mg base N qual scope f cd A outer s H E).env=(false,eval e (cb (bY P w) P w K mg base N qual scope f cd A outer s H E).env)::starEach es (cb (bY P w) P w K mg base N qual scope f cd A outer s H E).env:=by rfl) (cu:(backTo pos (starEach es (cb (bY P w) P w K mg base N qual scope f cd A outer s H E).env)).any (·.1)=false:=by rfl):PE (cb (bY P w) P w K mg base N qual scope f cd A outer s H E) (.Call (.Name x p) (e::es) [] pos) (AU sp [] E t):=by
 obtain⟨f',fd,G,h1,h2,h3⟩:=D.ex;show HQ G hr hg h1 h2 h3 .nil a0o ha gi he cu
end
end L2
namespace Hv
open PySem L2
noncomputable def cs(l:List Addr):Nat->Addr:=λj=>l.getD j 0
structure Kind(K:PySem.W.Frag)(c:Nat->Addr)(C:Addr)(i:Nat):Prop where
 cl:lX K C
 lt:i<10
 kt:∀j,j<10->PySem.W.kitOne K (.ref C) (.ref (c j))=some (decide (i=j))
 kv:PySem.W.kitOne K (.ref C) (.type "ValueError")=some true
structure Od(mg:Str->Option Value)(c:Nat->Addr):Prop where
 n0:mg "NoFrame"=some (.ref (c 0))
 n1:mg "NoNumber"=some (.ref (c 1))
 n2:mg "NoPart"=some (.ref (c 2))
 n3:mg "NoSum"=some (.ref (c 3))
 n4:mg "NoMiss"=some (.ref (c 4))
 n5:mg "NoEven"=some (.ref (c 5))
 n6:mg "NoFrames"=some (.ref (c 6))
 n7:mg "NoText"=some (.ref (c 7))
 n8:mg "NoName"=some (.ref (c 8))
 n9:mg "NoRow"=some (.ref (c 9))
 ve:mg "ValueError"=none
def rl_:bootBuiltins "ValueError"=some (.type "ValueError"):=by first | grind | rfl
inductive tK(K:PySem.W.Frag)(c:Addr)(σ:St)(H:Hp)(Q:VK):Prop
 | mk:∀x C b,(σ[0]?=some (some (.ref x)))->(H x=some (lW x C))->(lX K C)->(PySem.W.kitOne K (.ref C) (.ref c)=some b)->(Q (.bl b) H)->tK K c σ H Q
def pk{X:Cx}{c:Addr}{nm cn:Str}{q0 p q pos:Pos}(hi:X.mg "isinstance"=none)(hm:X.mg nm=some (.ref c))(hv:PE X (.Name cn q0) (qd 0))(hg:Gl X "isinstance")(oz:Gl X nm)(hd:(nm==("__debug__":Str))=false:=by decide):PE X (.Call (.Name "isinstance" p) [.Name cn q0,.Name nm q] [] pos) (tK X.K c) :=
 weak (p_ Oc hg hi boot_isinstance<|a_ hv<|a_ (Re (v:=.ref c) oz hm μ hd) d_) fun σ H Q h=>by
  obtain⟨x,C,b,h1,h2,h3,h4,q⟩:=h;show⟨_,h1,x,C,b,_,_,μ,h2,h3,λ_ r=>r,h4,q⟩
noncomputable def gZ:List Str:=["frame","number","part","sum","miss","even","frames","text","name","row"]
def nk_:(gZ.all λx=>PyData.canLay0 (.str x))=true:=by decide +kernel
inductive vh(K:PySem.W.Frag)(c:Nat->Addr)(vs:List V)(H:Hp)(Q:VK)(aw:XK):Prop
 | mk:∀x C,∀i:Nat,∀wd:Str,∀w:Str,(vs=[.ref x,.str w])->(PyData.canLay0 (.str w)=true)->(H x=some (lW x C))->(Kind K c C i)->(gZ[i]?=some wd)->(∀H',af H H'->Q (.bl (decide (wd=w))) H')->vh K c vs H Q aw
@[irreducible] noncomputable def wE:Expr:=(.List [(.Constant (.str "frame") 0 ⟨406,13,406,20⟩),(.Constant (.str "number") 0 ⟨406,22,406,30⟩),(.Constant (.str "part") 0 ⟨406,32,406,38⟩),(.Constant (.str "sum") 0 ⟨406,40,406,45⟩),(.Constant (.str "miss") 0 ⟨406,47,406,53⟩),(.Constant (.str "even") 0 ⟨406,55,406,61⟩),(.Constant (.str "frames") 0 ⟨406,63,406,71⟩),(.Constant (.str "text") 0 ⟨406,73,406,79⟩),(.Constant (.str "name") 0 ⟨406,81,406,87⟩),(.Constant (.str "row") 0 ⟨406,89,406,94⟩)] ⟨406,12,406,95⟩)
def Fs:wE=(.List [(.Constant (.str "frame") 0 ⟨406,13,406,20⟩),(.Constant (.str "number") 0 ⟨406,22,406,30⟩),(.Constant (.str "part") 0 ⟨406,32,406,38⟩),(.Constant (.str "sum") 0 ⟨406,40,406,45⟩),(.Constant (.str "miss") 0 ⟨406,47,406,53⟩),(.Constant (.str "even") 0 ⟨406,55,406,61⟩),(.Constant (.str "frames") 0 ⟨406,63,406,71⟩),(.Constant (.str "text") 0 ⟨406,73,406,79⟩),(.Constant (.str "name") 0 ⟨406,81,406,87⟩),(.Constant (.str "row") 0 ⟨406,89,406,94⟩)] ⟨406,12,406,95⟩):=by unfold wE;rfl
def rw_:TE:=λ_ H Q=>∀l,H l=none->Q (.ref l) (upd H l (.lst (gZ.map V.str)))
def nE_:PE X wE rw_:=by
 rw[Fs];show weak (t:=wf (gG (tC<|.str "frame")<|gG (tC<|.str "number")<|gG (tC<|.str "part")<|gG (tC<|.str "sum")<|gG (tC<|.str "miss")<|gG (tC<|.str "even")<|gG (tC<|.str "frames")<|gG (tC<|.str "text")<|gG (tC<|.str "name")<|gG (tC<|.str "row") kL)) (x_ ?_) fun σ H Q h=>⟨sz<|by decide,λl hl=>h l hl⟩;show a_ eI (a_ eI ?_);show a_ eI (a_ eI ?_);show a_ eI (a_ eI ?_);show a_ eI (a_ eI ?_);show a_ eI (a_ eI ?_);show d_
def oA_(a b:Str):PyData.eqv (.list [.str a]) (.list [.str b])=decide (a=b):=by
 simp[PyData.eqv,PyData.eqvAll];try rfl
abbrev stK(i:Nat):Stmt:=(A_ mC).getD i (.Pass ⟨0,0,0,0⟩)
def ok_:A_ mC=stK 0::stK 1::stK 2::.Assign [(.Name "words" ⟨406,4,406,9⟩)] wE ⟨406,4,406,95⟩::(A_ mC).drop 4:=by show Fs▸?_;rfl
def Oe:aS ["e","due","kinds","words","found"] ["e","due"] (h_ mC):=⟨μ,μ,μ,ξ,μ,ξ,ξ⟩
def qA_{f:Addr}{fd:FuncData}(F:aM K "_law_kind" "_law_kind" mC f fd)(T:Txt mg)(N:Od mg c):aA P w K mg base aI 1 f fd ["e","due"] (vh K c):=by
 show F.ok Oe λao A outer s H vs Q E hr h=>?_
 .obtain⟨x,C,i,wd,wv,rfl,am,hx,kd,hw,k⟩:=h;have vi:PyData.canLay0 (.str wd)=true:=a3Z.mp nk_ wd (a1K hw);have nd:=Oe.nd;have hu:=hr.units;have fA:List.Nodup (["word","kind"]:List Str):=by decide +kernel
  rw[ok_];show⟨_,(b_ (i_ 2 (x_ (a_ (pk T.cC N.n0 (pv 0) η η) (a_ (pk T.cC N.n1 (pv 0) η η) (a_ (pk T.cC N.n2 (pv 0) η η) (a_ (pk T.cC N.n3 (pv 0) η η) d_)))))) (b_ (i_ 2 (n_ mt (pv 2) (x_ (a_ (pk T.cC N.n4 (pv 0) η η) (a_ (pk T.cC N.n5 (pv 0) η η) (a_ (pk T.cC N.n6 (pv 0) η η) d_)))))) (b_ (i_ 2 (n_ mt (pv 2) (x_ (a_ (pk T.cC N.n7 (pv 0) η η) (a_ (pk T.cC N.n8 (pv 0) η η) (a_ (pk T.cC N.n9 (pv 0) η η) d_)))))) (b_ (i_ 3 nE_ (hs:=by rw[Fs];rfl)) (b_ (IW (i:=4) (N:=["word","kind"]) (k:=2) (fr:=[]) nd μ (Or.inl μ) (qu (sc:=h_ mC) (NX:=["e","due","kinds","words","found"]) (k:=2) (fr:=[]) μ μ ξ) (qv (sc:=h_ mC) (NX:=["e","due","kinds","words","found"]) μ ξ) μ (Je η T.zip (pv 3) (pv 2)) (λcl C s H fp=>wT K μ μ (r_ (k_ 0 (hN:=fA)) (r_ (k_ 1 (hN:=fA)) fj))) By (λcl C s H fp=>Bk (V_ (pv 1))) (λcl C s H fp=>pv 0) η) (g_ (m_ (iZ (p_ Oc η T.cC boot_isinstance (a_ (pv 0) (a_ (fu N.ve rl_) d_))) (kE (ge (IZ hu) (pv 4) (x_ (a_ (pv 1) d_)) (aY _))))))))))),(⟨x,C,_,μ,hx,kd.cl,kd.kt 0 ζ,⟨x,C,_,μ,hx,kd.cl,kd.kt 1 ζ,⟨x,C,_,μ,hx,kd.cl,kd.kt 2 ζ,⟨x,C,_,μ,hx,kd.cl,kd.kt 3 ζ,⟨sz θ,λl1 bV=>?_⟩⟩⟩⟩⟩)⟩;have s1:=f_ (o:=.lst [.bl (decide (i=0)),.bl (decide (i=1)),.bl (decide (i=2)),.bl (decide (i=3))]) bV;have u1:(upd H l1 (.lst [.bl (decide (i=0)),.bl (decide (i=1)),.bl (decide (i=2)),.bl (decide (i=3))])) l1=_:=c_;generalize upd H l1 (.lst [.bl (decide (i=0)),.bl (decide (i=1)),.bl (decide (i=2)),.bl (decide (i=3))])=H1 at s1 u1⊢;have fz:=s1 _ _ hx;show⟨_,μ,⟨x,C,_,μ,fz,kd.cl,kd.kt 4 ζ,⟨x,C,_,μ,fz,kd.cl,kd.kt 5 ζ,⟨x,C,_,μ,fz,kd.cl,kd.kt 6 ζ,⟨sz θ,λm2 gL=>?_⟩⟩⟩⟩⟩;have t2:=f_ (o:=.lst [.bl (decide (i=4)),.bl (decide (i=5)),.bl (decide (i=6))]) gL;have v2:(upd H1 m2 (.lst [.bl (decide (i=4)),.bl (decide (i=5)),.bl (decide (i=6))])) m2=_:=c_;generalize upd H1 m2 (.lst [.bl (decide (i=4)),.bl (decide (i=5)),.bl (decide (i=6))])=G2 at t2 v2⊢;show⟨l1,m2,_,_,μ,μ,t2 _ _ u1,v2,sz θ,λl2 bz=>?_⟩;have s2:=(s1.trans t2).trans (f_ (o:=.lst [.bl (decide (i=0)),.bl (decide (i=1)),.bl (decide (i=2)),.bl (decide (i=3)),.bl (decide (i=4)),.bl (decide (i=5)),.bl (decide (i=6))]) bz);have u2:(upd G2 l2 (.lst [.bl (decide (i=0)),.bl (decide (i=1)),.bl (decide (i=2)),.bl (decide (i=3)),.bl (decide (i=4)),.bl (decide (i=5)),.bl (decide (i=6))])) l2=_:=c_;generalize hH2:upd G2 l2 (.lst [.bl (decide (i=0)),.bl (decide (i=1)),.bl (decide (i=2)),.bl (decide (i=3)),.bl (decide (i=4)),.bl (decide (i=5)),.bl (decide (i=6))])=H2 at s2 u2;rw[show upd G2 l2 (.lst ([.bl (decide (i=0)),.bl (decide (i=1)),.bl (decide (i=2)),.bl (decide (i=3))]++[.bl (decide (i=4)),.bl (decide (i=5)),.bl (decide (i=6))]))=H2 from hH2];have Ft:=s2 _ _ hx;show⟨_,μ,⟨x,C,_,μ,Ft,kd.cl,kd.kt 7 ζ,⟨x,C,_,μ,Ft,kd.cl,kd.kt 8 ζ,⟨x,C,_,μ,Ft,kd.cl,kd.kt 9 ζ,⟨sz θ,λm3 hm3=>?_⟩⟩⟩⟩⟩;have t3:=f_ (o:=.lst [.bl (decide (i=7)),.bl (decide (i=8)),.bl (decide (i=9))]) hm3;have v3:(upd H2 m3 (.lst [.bl (decide (i=7)),.bl (decide (i=8)),.bl (decide (i=9))])) m3=_:=c_;generalize upd H2 m3 (.lst [.bl (decide (i=7)),.bl (decide (i=8)),.bl (decide (i=9))])=G3 at t3 v3⊢;show⟨l2,m3,_,_,μ,μ,t3 _ _ u2,v3,sz θ,λl3 cv=>?_⟩;have s3:=(s2.trans t3).trans (f_ (o:=.lst [.bl (decide (i=0)),.bl (decide (i=1)),.bl (decide (i=2)),.bl (decide (i=3)),.bl (decide (i=4)),.bl (decide (i=5)),.bl (decide (i=6)),.bl (decide (i=7)),.bl (decide (i=8)),.bl (decide (i=9))]) cv);have u3:(upd G3 l3 (.lst [.bl (decide (i=0)),.bl (decide (i=1)),.bl (decide (i=2)),.bl (decide (i=3)),.bl (decide (i=4)),.bl (decide (i=5)),.bl (decide (i=6)),.bl (decide (i=7)),.bl (decide (i=8)),.bl (decide (i=9))])) l3=_:=c_;generalize hH3:upd G3 l3 (.lst [.bl (decide (i=0)),.bl (decide (i=1)),.bl (decide (i=2)),.bl (decide (i=3)),.bl (decide (i=4)),.bl (decide (i=5)),.bl (decide (i=6)),.bl (decide (i=7)),.bl (decide (i=8)),.bl (decide (i=9))])=H3 at s3 u3;rw[show upd G3 l3 (.lst ([.bl (decide (i=0)),.bl (decide (i=1)),.bl (decide (i=2)),.bl (decide (i=3)),.bl (decide (i=4)),.bl (decide (i=5)),.bl (decide (i=6))]++[.bl (decide (i=7)),.bl (decide (i=8)),.bl (decide (i=9))]))=H3 from hH3];have ek:([.bl (decide (i=0)),.bl (decide (i=1)),.bl (decide (i=2)),.bl (decide (i=3)),.bl (decide (i=4)),.bl (decide (i=5)),.bl (decide (i=6)),.bl (decide (i=7)),.bl (decide (i=8)),.bl (decide (i=9))]:List V)=(List.range 10).map λj=>V.bl (decide (i=j)):=rfl;rw[ek] at u3;intro q hq;have s4:=s3.trans (f_ (o:=.lst (gZ.map V.str)) hq);have u4:(upd H3 q (.lst (gZ.map V.str))) q=_:=c_;have k4:(upd H3 q (.lst (gZ.map V.str))) l3=_:=(f_ (o:=.lst (gZ.map V.str)) hq) _ _ u3;generalize upd H3 q (.lst (gZ.map V.str))=H4 at s4 u4 k4⊢;show⟨_,μ,_,μ,q,l3,μ,μ,⟨_,ae.of u4⟩,⟨_,ae.of k4⟩,Uh (K:=K) (a:=q) (b:=l3) (xs:=gZ.map V.str) (ys:=(List.range 10).map λj=>V.bl (decide (i=j))) (λm zs H'=>zs=(if i<m then [V.str wd] else [])/\af H4 H') μ ⟨θ,af.refl _⟩ (λm zs H' _ p=>⟨ae.of (p.2 _ _ u4),ae.of (p.2 _ _ k4)⟩) (λm zs H' hi p=>bK (by rw[p.1];split <;> simp)) ?_ ?_⟩
  .rintro m x1 y1 zs H' t dS Of ⟨rfl,s'⟩ ht
   obtain⟨w1,Fu,rfl⟩:∃w1,gZ[m]?=some w1/\x1=.str w1:=by
    rw[a1O] at dS
    cases e:gZ[m]? with
    | none=>rw[e] at dS;cases dS
    | some d=>rw[e] at dS;show⟨d,μ,(a1Q dS).symm⟩
   have hm:m<10:=(a1I.mp Fu).1
   have ey:y1=V.bl (decide (i=m)):=by
    rw[a1O,a4O hm] at Of;show(a1Q Of).symm
   subst ey;have st:=s'.trans (f_ (o:=.tup [.str w1,.bl (decide (i=m))]) ht);show⟨t,_,μ,aB.of c_,μ,_,_,μ,_,_,μ,μ,_,μ,_,μ,(dQ (λh=>?_) (λh=>?_))⟩
   .have e:i=m:=of_decide_eq_true h;subst e;have ew:w1=wd:=by rw[hw] at Fu;show(a1Q Fu).symm
    subst ew;show⟨_,μ,?_,st⟩;rw[if_neg Z,if_pos (by lia)];rfl
   .have e:¬ i=m:=λz=>h (decide_eq_true z);show⟨?_,st⟩;by_cases h2:i<m;.rw[if_pos h2,if_pos (by lia)]
    .rw[if_neg h2,if_neg (by lia)]
  rintro zs H' ⟨rfl,s'⟩ r cf;have a0v:i<(gZ.map V.str).length:=kd.lt;show (if_pos a0v)▸?_;have s5:=s4.trans (s'.trans (f_ (o:=.lst [.str wd]) cf));have u5:(upd H' r (.lst [.str wd])) r=_:=c_;generalize upd H' r (.lst [.str wd])=H5 at s5 u5⊢;show⟨_,μ,x,C,_,_,_,μ,s5 _ _ hx,kd.cl,λ_ r=>r,kd.kv,true,μ,bI ⟨_,μ,_,μ,sz θ,λp hp=>?_⟩⟩;have s6:=s5.trans (f_ (o:=.lst [.str wv]) hp);show⟨.list [.str wd],.list [.str wv],gK ((f_ (o:=.lst [.str wv]) hp) _ _ u5) (.cons (wM wd) .nil),gK c_ (.cons (wM wv) .nil),⟨by simp only[PyData.canLay0,PyData.canLayAll0] at vi⊢;simp[vi],by simp only[PyData.canLay0,PyData.canLayAll0] at am⊢;simp[am],by simp[PyData.depth,PyData.depthAll]⟩,?_⟩;rw[if_neg ζ,oA_];show k _ s6
end Hv
namespace L2
open PySem PySem.Spec PyProof.Rows
end L2
namespace Hv
open PySem L2 PySem.Spec PyProof.Rows
structure pV(P:Program)(w:World)(K:PySem.W.Frag)(mg:Str->Option Value)(base:Heap)(k:Nat)(C:Addr)(m:Str)(ps:List Str)(sp:Sp):Prop where
 ex:∃f fd,aA P w K mg base (bY P w) k f fd ps sp/\qi K C m f/\Binds K fd ps []
section
variable{X:Cx}{pn pos bO jJ:Pos}
def Og(C:Addr)(m:Str)(sp:Sp)(i:Nat)(ta:TE)(t:TA):TX:=λD R σ H=>ta σ H λx H1=>∃a dx fs,x=.ref a/\H1 a=some (.ins C dx fs)/\fs.lookup m=none/\t σ H1 λvs H2=>sp (x::vs) H2 (λv H3=>D.nx (σ.set i (some v)) H3) (λC' _ H3=>∃A,C'=.ref A/\R σ A H3)
def qk_{pl:Sem Bool}(c:cA X.K C)(D:pV X.prog X.w X.K X.mg X.base k C m ps sp)(hN:X.N.Nodup)(hi:X.N[i]?=some n)(hx:Loc X.env.scope n)(hr:bM k X.A)(ho:PE X.ja o ta)(ha:PA X.ja (e::es) t)
  (dZ:starEach (e::es) X.env=(false,eval e X.env)::starEach es X.env:=by rfl) (cu:(backTo pos (starEach es X.env)).any (·.1)=false:=by rfl)
  (ht:eval (.Call (.Attribute o m bO) (e::es) [] pos) X.env=(do
   let ov <-eval o X.env
   standAt bO.atName
   let (f,first) <-holding [ov] (getMethod ov m pl)
   callWith pos f first (backTo pos (starEach (e::es) X.env)) (backToKw pos (keywordEach [] X.env))):=by rfl)
  (hs:swapsWith (.Call (.Attribute o m bO) (e::es) [] pos) (some (.Name n pn)) jJ.line X.env=pure false:=by rfl) (hf:X.fn n=true\/X.env.scope.names.lookup n=some .local:=by first | show .inl μ | show .inr μ | assumption):PX X (.Assign [.Name n pn] (.Call (.Attribute o m bO) (e::es) [] pos) jJ) (Og C m sp i ta t):=by
 obtain⟨f',fd,F,hm,hb⟩:=D.ex;show λaa s σ H D R I h=>wpAny_Assign_Name ?_ hs;have hO:wpAny _ X.A _ (EP X aa σ λx H1=>∃a dx fs,x=.ref a/\H1 a=some (.ins C dx fs)/\fs.lookup m=none/\t σ H1 λvs H2=>sp _ H2 _<|λC' _ H3=>∃A,C'=.ref A/\R σ A H3) (XP X aa R) s := wpAny_mono (ho aa s σ H _ (I.gb _) h) (λu s1 ⟨x,H1,I1,rx,q⟩=>⟨x,H1,I1.hV,rx,q⟩) λ_ _ z=>False.elim z;show a3z (au hO λu s1 h1=>?_) ht;obtain⟨x,H1,I1,rx,a,dx,fs,ex,ea,l,q⟩:=h1;subst ex;obtain rfl:u=Value.ref a:=rx;show sM I1 ea c hm l ?_;have hA:wpAny _ X.A _ (AP X aa σ λvs H2=>sp _ H2 _<|λC' _ H3=>∃A,C'=.ref A/\R σ A H3) (XP X aa R) s1 := wpAny_mono (ha pos aa s1 σ H1 _ (I1.gb _) q) (λus s2 ⟨vs,H2,I2,r,q2⟩=>⟨vs,H2,I2.hV,r,q2⟩) λ_ _ z=>False.elim z;show a4l I.ok.mod.qa hm.kp (au hA λus s2 ⟨vs,H2,I2,r,q2⟩=>⟨I2.cq,?_⟩) dZ cu;have r':aE (V.ref a::vs) _:=.cons μ r;have hl:((Value.ref a::us)++[]).length=ps.length:=by rw[a2Y,<-r'.length];show F.len _ _ _ _ q2
 have ol:=hb s2 _ I2.cq hl;rw[a2Y] at ol;show wpAny_call<|codeAny_mono (F.run X.A _ s2 H2 ⟨Value.ref a::us,[]⟩ _ _ _ _ hr I2.wj ol r' q2) λrs s' hq=>?_
 cases rs with
 | error er =>
  obtain⟨y,C',a0,H',ey,os,bare,un,am,lU,A0,eA,hR⟩:=hq;cases eA;show⟨y,C',a0,σ,H2,H',s2,ey,I2,os,bare,un,am,lU,hR⟩
 | ok fl =>
  cases fl with
  | ret u =>
   obtain⟨v,H',I',rv,q'⟩:=I2.after hq;show nQ I' hN hi hx rv (λs2 I2=>⟨_,H',I2,q'⟩) hf
  | next=>show False.elim hq
  | brk=>show False.elim hq
  | cont=>show False.elim hq
def nA_(c:cA X.K C)(D:pV X.prog X.w X.K X.mg X.base k C m ps sp)(hN:X.N.Nodup)(hi:X.N[i]?=some n)(hx:Loc X.env.scope n)(hr:bM k X.A)(ho:PE X.ja o ta)
  (ht:eval (.Call (.Attribute o m bO) [] [] pos) X.env=(do
   let ov <-eval o X.env
   standAt bO.atName
   let (f,first) <-holding [ov] (getMethod ov m pl)
   callWith pos f first (backTo pos (starEach [] X.env)) (backToKw pos (keywordEach [] X.env))):=by rfl)
  (hs:swapsWith (.Call (.Attribute o m bO) [] [] pos) (some (.Name n pn)) jJ.line X.env=pure false:=by rfl) (hf:X.fn n=true\/X.env.scope.names.lookup n=some .local:=by first | show .inl μ | show .inr μ | assumption):PX X (.Assign [.Name n pn] (.Call (.Attribute o m bO) [] [] pos) jJ) (Og C m sp i ta kL):=by
 obtain⟨f',fd,F,hm,hb⟩:=D.ex;show λaa s σ H D R I h=>wpAny_Assign_Name ?_ hs;have hO:wpAny _ X.A _ (EP X aa σ λx H1=>∃a dx fs,x=.ref a/\H1 a=some (.ins C dx fs)/\fs.lookup m=none/\kL σ H1 λvs H2=>sp _ H2 _<|λC' _ H3=>∃A,C'=.ref A/\R σ A H3) (XP X aa R) s := wpAny_mono (ho aa s σ H _ (I.gb _) h) (λu s1 ⟨x,H1,I1,rx,q⟩=>⟨x,H1,I1.hV,rx,q⟩) λ_ _ z=>False.elim z;show a3z (au hO λu s1 h1=>?_) ht;obtain⟨x,H1,I1,rx,a,dx,fs,ex,ea,l,q⟩:=h1;subst ex;obtain rfl:u=Value.ref a:=rx;show sM I1 ea c hm l ?_;have q2:=q;have r':aE [V.ref a] [Value.ref a]:=.cons μ .nil;have hl:([Value.ref a]++[]).length=ps.length:=by show F.len _ _ _ _ q2
 have ol:=hb s1 [Value.ref a] I1.cq hl;show PySem.W.callWith_K0 I1.cq hm.kp (wpAny_call (codeAny_mono (F.run X.A X.stack s1 H1 ⟨[Value.ref a],[]⟩ [Value.ref a] [V.ref a] _ _ hr I1.wj ol r' q2) λrs s' hq=>?_))
 cases rs with
 | error er =>
  obtain⟨y,C',a0,H',ey,os,bare,un,am,lU,A0,eA,hR⟩:=hq;cases eA;show⟨y,C',a0,σ,H1,H',s1,ey,I1,os,bare,un,am,lU,hR⟩
 | ok fl =>
  cases fl with
  | ret u =>
   obtain⟨v,H',I',rv,q'⟩:=I1.after hq;show nQ I' hN hi hx rv (λs2 I2=>⟨_,H',I2,q'⟩) hf
  | next=>show False.elim hq
  | brk=>show False.elim hq
  | cont=>show False.elim hq
end
end Hv
namespace Hv
open PySem L2
def Oh(c2 c1:Addr)(n:Nat)(pl wt:V)(H:Hp)(E:XK):Prop:=(bL pl 0 ((n:Int)-1)=false/\∀H',af H H'->E (.ref c2) none H')\/(bL pl 0 ((n:Int)-1)=true/\bL wt (-9) 9=false/\∀H',af H H'->E (.ref c1) none H')
inductive zN(c2:Addr)(c1:Addr)(vs:List V)(H:Hp)(vj:VK)(E:XK):Prop
 | mk:∀(f a c:Addr) (b:Nat) (ps:List Nat) (ws:List Int) (pl wt:V),(vs=[.ref f,pl,wt])->(aU H f a c b ps ws)->(d3 H pl)->(d3 H wt)->(Oh c2 c1 ws.length pl wt H E)->zN c2 c1 vs H vj E
inductive zO(C:Addr)(c2:Addr)(c1:Addr)(vs:List V)(H:Hp)(vj:VK)(E:XK):Prop
 | mk:∀(kp dx sl:Addr) (as:List AF) (b:Nat) (ps:List Nat) (aH:List (List Int)) (ws:List Int) (pl wt:V),(vs=[.ref kp,pl,wt])->(bX C H kp dx sl as b ps (aH++[ws]))->(d3 H pl)->(d3 H wt)->(Oh c2 c1 ws.length pl wt H E)->zO C c2 c1 vs H vj E
inductive zP(C:Addr)(c1:Addr)(vs:List V)(H:Hp)(vj:VK)(E:XK):Prop
 | mk:∀(kp dx sl:Addr) (as:List AF) (b:Nat) (ps:List Nat) (ws:List Int),(vs=[.ref kp])->(bX C H kp dx sl as b ps [ws])->(∀H',af H H'->E (.ref c1) none H')->zP C c1 vs H vj E
def nL_(F:aM K "with_weight" "with_weight" xj f fd)(T:Txt mg)(D2:ak P w K mg base 2 "is_between" ["thing","least","greatest"] jm)(O2:vd base c2 gX lV B gY)(h2:mg "NoPart"=some (.ref c2))(O1:vd base c1 a0w a0x B2 a0y)(h1:mg "NoNumber"=some (.ref c1)):aA P w K mg base (bY P w) 3 f fd ["frame","place","weight"] (zN c2 c1):=by
 show F.jO EV λao A outer s H vs Q E hr h=>?_
 .obtain⟨f,a,c,b,ps,ws,pl,wt,rfl,G,tp,tw,h⟩:=h;show⟨_,b_ (E_ (cY<|V_<|o_ D2 hr (by rfl)<|a_ (pv 1)<|a_ e_<|a_ (n_ R_ (dw T.len (by rfl)<|aW (pv 0) e_) e_) d_) (g_<|Fg O2 η h2 eI) q_) <|b_ (E_ (cY<|V_<|o_ D2 hr (by rfl)<|a_ (pv 2)<|a_ (eO eQ e_)<|a_ e_ d_) (g_<|Fg O1 η h1 eI) q_) jb,(⟨_,μ,_,μ,Jj G.tp μ ⟨c,_,μ,.inl (ae.of G.hw),_,_,μ,μ,pl,0,_,μ,tp,_,μ,?_⟩⟩)⟩;rw[a1H];rcases h with⟨e,k⟩ | ⟨e,e2,k⟩
  .rw[e];show bI<|k H<|af.refl _
  .rw[e];show aG ⟨_,μ,_,μ,wt,-9,9,μ,tw,_,μ,?_⟩;show e2▸?_;show bI<|k H<|af.refl _
def jY_(F:aM K "weigh" "Keeper.weigh" xv f fd)(cl:cA K C)(nS:gE K C "standing")(DW:zM P w K mg base 3 "with_weight" ["frame","place","weight"] (pU rR (zN c2 c1))):aA P w K mg base (bY P w) 8 f fd ["self","place","weight"] (zO C c2 c1):=by
 show F.jO zH λao A outer s H vs Q E hr h=>?_
 .obtain⟨kp,dx,sl,as,b,ps,aH,ws,pl,wt,rfl,S,tp,tw,h⟩:=h;have nd:=zH.nd;obtain⟨ai,x,rfl,zG,G,e⟩:=S.last;show⟨_,b_ (i_ 3<|bf (kK (pv 0) μ)<|eO eQ e_)<|b_ (i_ 4<|rQ_ DW hr.mo (by rfl)<|a_ (pv 3)<|a_ (pv 1)<|a_ (pv 2) d_) jb,(⟨_,μ,kp,C,dx,_,_,μ,S.ob,cl,nS,lO,_,μ,bU S.ls e ⟨_,μ,_,μ,_,μ,.inr ⟨_,_,_,b,ps,ws,pl,wt,μ,G,tp,tw,h⟩⟩⟩)⟩
def lL_(F:aM K "undo" "Keeper.undo" xz f fd)(cl:cA K C)(DC:fD P w K mg base 1 C "changes" ["self"] (pR C))(O1:vd base c1 gX lV B gY)(h1:mg "NoNumber"=some (.ref c1)):aA P w K mg base (bY P w) 8 f fd ["self"] (zP C c1):=by
 show F.jO EY λao A outer s H vs Q E hr h=>?_
 .obtain⟨kp,dx,sl,as,b,ps,ws,rfl,S,k⟩:=h;show⟨_,b_ (E_ (t_ dI (rQ cl DC hr.mo<|pv 0) e_<|aY _) (g_<|Fg O1 η h1 eI) q_) jb,⟨_,μ,kp,dx,_,μ,S.ob,ix ξ,kp,dx,sl,as,b,ps,_,μ,S,μ,_,μ,?_⟩⟩;show bI<|k H<|af.refl _
def Fv(xs:List V):Prop:=∀v∈xs,∃a,v=V.ref a
def NR(o:HO):Prop:=∀ys,o=.lst ys->¬ Fv ys
def jx(H H':Hp):Prop:=∀z o,H z=some o->NR o->H' z=some o
def nE{α:Type}(g:α->Addr)(l:List α):Fv (l.map λx=>V.ref (g x)):=λv hv=>by
 obtain⟨x,_,rfl⟩:=a1U.mp hv;show⟨_,μ⟩
def Kp.bN(k:Kp [y] H H')(hy:H y=some (.lst xs))(hr:Fv xs):jx H H':=λz o e n=>k z o e<|λhz=>by
 rw[a1X.mp hz,hy] at e;show n xs (a1Q e).symm hr
def zQ(s:af H H'):jx H H':=λz o e _=>s z o e
def iy:NR (.tup xs):=λ_ z=>by cases z
def se_:NR (.ins C dx fs):=λ_ z=>by cases z
def Oi:NR (.dK kvs):=λ_ z=>by cases z
def rT(h:V.int i∈xs):NR (.lst xs):=λys z r=>by
 cases z;obtain⟨a,e⟩:=r _ h;cases e
def Oj(h:1<=ps.length):NR (.lst (az ps)):=by
 cases ps with
 | nil=>simp at h
 | cons p q=>show rT (i:= p )<|by simp[az]
def Ol{ws:List Int}(h:1<=ws.length):NR (.lst (ws.map V.int)):=by
 cases ws with
 | nil=>simp at h
 | cons p q=>show rT (i:=p)<|by simp
def aU.bN(G:aU H f a c b ps ws)(s:jx H H'):aU H' f a c b ps ws := ⟨s _ _ G.tp iy,s _ _ G.hp<|Oj<|by have:=G.ok.l2;lia,s _ _ G.hw<|Ol<|by have:=G.ok.wl;have:=G.ok.sum;lia,G.ok⟩
def bh.bN(S:bh H st)(s:jx H H'):bh H' st:=let ⟨g,c,k,e⟩:=S;⟨g,c,k,s _ _ e<|rT (i:=g)<|by simp⟩
def bh.ne(S:bh H st)(h:H y=some o)(n:∀g c k:Int,o≠.lst [.int g,.int c,.int k]):y≠st:=λz=>by
 obtain⟨g,c,k,e⟩:=S;rw[z,e] at h;show n g c k (a1Q h).symm
def DT(H:Hp)(x:V):Prop:=x=.ax\/(∃t,x=.bl t)\/(∃i,x=.int i/\-(10:Int) ^ 25<=i/\i<=(10:Int) ^ 25)\/(∃s,x=.str s/\s="1")\/∃a,x=.ref a/\(H a=some (.lst [.int 1])\/H a=some (.tup [.int 1])\/H a=some (.dK []))
def DT.bN(d:DT H x)(s:jx H H'):DT H' x:=by
 rcases d with h | h | h | h | ⟨a,e,h⟩;.show .inl h
 .show .inr<|.inl h
 .show .inr<|.inr<|.inl h
 .show .inr<|.inr<|.inr<|.inl h
 .show .inr<|.inr<|.inr<|.inr ⟨a,e,?_⟩;rcases h with h | h | h;.show .inl<|s _ _ h<|rT (i:=1)<|by simp
  .show .inr<|.inl<|s _ _ h iy
  .show .inr<|.inr<|s _ _ h Oi
def DT.ej(d:DT H x)(S:bh H st)(k:Kp [st] H H'):DT H' x:=by
 rcases d with h | h | h | h | ⟨a,e,h⟩;.show .inl h
 .show .inr<|.inl h
 .show .inr<|.inr<|.inl h
 .show .inr<|.inr<|.inr<|.inl h
 .show .inr<|.inr<|.inr<|.inr ⟨a,e,?_⟩;rcases h with h | h | h;.show .inl<|k _ _ h<|by simpa using S.ne h (by intro _ _ _ z;cases z)
  .show .inr<|.inl<|k _ _ h<|by simpa using S.ne h (by intro _ _ _ z;cases z)
  .show .inr<|.inr<|k _ _ h<|by simpa using S.ne h (by intro _ _ _ z;cases z)
def DT.keep(d:DT H x)(s:af H H'):DT H' x:=d.bN (zQ s)
def DT.rV(d:DT H x):d3 H x:=by
 rcases d with rfl | ⟨t,rfl⟩ | ⟨i,rfl,_⟩ | ⟨s,rfl,_⟩ | ⟨a,rfl,h⟩;.show .ax
 .show .bl t
 .show .int i
 .show .str s
 .rcases h with h | h | h;.show .lst h
  .show .tup h
  .show .dK h
def fZ(H:Hp)(dv:V)(d:Option (V×V)):Prop:=(dv=.ax/\d=none)\/∃t pl wt,dv=.ref t/\d=some (pl,wt)/\H t=some (.tup [pl,wt])/\DT H pl/\DT H wt
theorem fZ.bN(D:fZ H dv d)(s:jx H H'):fZ H' dv d:=by
 rcases D with h | ⟨t,pl,wt,e1,e2,h,d1,d2⟩;.show .inl h
 .show .inr ⟨t,pl,wt,e1,e2,s _ _ h iy,d1.bN s,d2.bN s⟩
def fZ.keep(D:fZ H dv d)(s:af H H'):fZ H' dv d:=D.bN (zQ s)
theorem fZ.ej(D:fZ H dv d)(S:bh H st)(k:Kp [st] H H'):fZ H' dv d:=by
 rcases D with h | ⟨t,pl,wt,e1,e2,h,d1,d2⟩;.show .inl h
 .show .inr ⟨t,pl,wt,e1,e2,k _ _ h<|by simpa using S.ne h (by intro _ _ _ z;cases z),d1.ej S k,d2.ej S k⟩
structure gA(H:Hp)(s f a c e:Addr)(ks:List Addr)(b:Nat)(ps:List Nat)(ws:List Int)(aV:List (Nat×Int)):Prop where
 hs:H s=some (.tup [.ref f,.ref e])
 fr:aU H f a c b ps ws
 he:H e=some (.lst (ks.map V.ref))
 hl:ks.length=aV.length
 hk:∀(i:Nat) (k:Addr) (h:Nat×Int),ks[i]?=some k->aV[i]?=some h->H k=some (.tup [.int h.1,.int h.2])
theorem gA.keep(S:gA H s f a c e ks b ps ws aV)(t:af H H'):gA H' s f a c e ks b ps ws aV := ⟨t _ _ S.hs,S.fr.keep t,t _ _ S.he,S.hl,λi k h h1 h2=>t _ _<|S.hk i k h h1 h2⟩
inductive zR(vs:List V)(H:Hp)(Q:VK)(aw:XK):Prop
 | mk:∀(st s f a c e:Addr) (ks:List Addr) (b:Nat) (ps:List Nat) (ws:List Int) (aV:List (Nat×Int)),(vs=[.ref st,.ref s])->(bh H st)->(gA H s f a c e ks b ps ws aV)->(a≠st)->(c≠st)->(∀(dv:V) (d:Option (V×V)) (H':Hp),bh H' st->Kp [st] H H'->fZ H' dv d->Q dv H')->zR vs H Q aw
def jy(ws:List Int)(aV:List (Nat×Int))(d:Option (V×V))(wd:Str):Prop:=(d=none/\aV=[]/\wd="number")\/∃pl wt,d=some (pl,wt)/\((bL pl 0 ((ws.length:Int)-1)=false/\wd="part")\/(bL pl 0 ((ws.length:Int)-1)=true/\bL wt (-9) 9=false/\wd="number"))
def Fw(ws:List Int)(aV:List (Nat×Int))(d:Option (V×V))(nF:List Int)(nG:List (Nat×Int)):Prop:=(∃h0 p x,d=none/\aV=h0++[(p,x)]/\nG=h0/\nF=ws.set p x)\/∃(p:Nat) (x y:Int),d=some (.int p,.int x)/\p<ws.length/\-9<=x/\x<=9/\ws[p]?=some y/\nF=ws.set p x/\nG=aV++[(p,y)]
def Fx(n:Nat)(aV:List (Nat×Int)):Prop:=∀h∈aV,h.1<n/\-9<=h.2/\h.2<=9
inductive zS(vs:List V)(H:Hp)(Q:VK)(aw:XK):Prop
 | mk:∀(s f a c e:Addr) (ks:List Addr) (b:Nat) (ps:List Nat) (ws:List Int) (aV:List (Nat×Int)) (dv:V) (d:Option (V×V)),(vs=[.ref s,dv])->(gA H s f a c e ks b ps ws aV)->(Fx ws.length aV)->(aV.length<=1000)->(fZ H dv d)->((∀(wd:Str) (H':Hp),af H H'->jy ws aV d wd->Q (.str wd) H'))->((∀(s' f' c' e':Addr) (ks':List Addr) (nF:List Int) (nG:List (Nat×Int)) (H':Hp),af H H'->Fw ws aV d nF nG->gA H' s' f' a c' e' ks' b ps nF nG->H c'=none->Fx nF.length nG->H e'=none->Q (.ref s') H'))->zS vs H Q aw
def Om(ok:fX b ps ws)(h1 : -9<=x)(h2:x<=9):fX b ps (ws.set p x) :=
 ⟨ok.b2,ok.b8,ok.l2,ok.l4,ok.pr,by rw[a3E];show ok.wl,λv hv=>by
  rcases a4W hv with h | h;.show ok.wr v h
  .subst h;show⟨h1,h2⟩⟩
def On{α:Type}{l:List α}{x y:α}(h:(l++[x])[i]?=some y):(i<l.length/\l[i]?=some y)\/(i=l.length/\y=x):=by
 by_cases hi:i<l.length;.rw[a1R hi] at h;show .inl ⟨hi,h⟩
 .have hl:=(a1I.mp h).1;rw[a2p,a2X] at hl;have e:i=l.length:=by lia
  subst e;rw[a1V (a1M _)] at h;simp at h;show .inr ⟨μ,h.symm⟩
def zT{α:Type}{l:List α}(h:1<=l.length):∃aH x,l=aH++[x]:=by
 have h1:l≠[]:=λz=>by rw[z] at h;simp at h
 show⟨l.dropLast,l.getLast h1,(a3a h1).symm⟩
def mg_:df ((ts++[t]).map V.ref) (-1)=some (V.ref t):=by rw[a2i];show wm _ _
def oI_(xs:List V)(x:V):dc (xs++[x]) none (some (-1))=xs:=by
 unfold dc;have h1:HT.eR (xs++[x]).length 0 none=0:=rfl
 have h2:HT.eR (xs++[x]).length (xs++[x]).length (some (-1))=xs.length:=by
  change(if  -1 <0 then (-1+((xs++[x]).length:Int)).toNat else min (-1:Int).toNat (xs++[x]).length)=xs.length;rw[if_pos ζ,a2p,a2X];lia
 rw[h1,h2];simp
def Oo:aS ["thing","low","high"] ["thing","low","high"] (h_ Ch):=⟨μ,μ,μ,ξ,μ,ξ,ξ⟩
def lM_{f:Addr}{fd:FuncData}(F:aM K "_law_is_from" "_law_is_from" Ch f fd)(T:Txt mg):aA P w K mg base aI 1 f fd ["thing","low","high"] jm:=by
 show F.ok Oo λao A outer s H vs Q E hr h=>?_
 .obtain⟨x,lo,hi,rfl,ty,k⟩:=h;show⟨_,(g_<|m_<|iZ (p_ T_ η T.cC boot_isinstance<|a_ (pv 0)<|a_ (fu T.int boot_int) d_)<|iZ (AI<|p_ T_ η T.cC boot_isinstance<|a_ (pv 0)<|a_ (fu T.bool boot_bool) d_)<|kE<|HH jG jG (pv 1) (pv 0)<|pv 2),?_⟩
  cases ty with
  | ax=>show⟨_,μ,_,_,_,_,μ,.ax,Jn,false,μ,aG k⟩
  | bl t=>show⟨_,μ,_,_,_,_,μ,.bl t,Jl,true,μ,bI ⟨_,μ,_,_,_,_,μ,.bl t,Jm,true,μ,_,μ,aG k⟩⟩
  | str t=>show⟨_,μ,_,_,_,_,μ,.str t,Jo,false,μ,aG k⟩
  | lst e=>show⟨_,μ,_,_,_,_,μ,.lst e,Jp,false,μ,aG k⟩
  | tup e=>show⟨_,μ,_,_,_,_,μ,.tup e,Jq,false,μ,aG k⟩
  | dK e=>show⟨_,μ,_,_,_,_,μ,.dK e,Jr,false,μ,aG k⟩
  | int i =>
   show⟨_,μ,_,_,_,_,μ,.int i,tI,true,μ,bI ⟨_,μ,_,_,_,_,μ,.int i,mz,false,μ,_,μ,bI ⟨_,μ,_,μ,_,_,μ,μ,_,μ,?_⟩⟩⟩;by_cases h1:lo<=i
   .rw[decide_eq_true h1];show bI ⟨_,μ,_,_,μ,μ,?_⟩;have e:bL (.int i) lo hi=decide (i<=hi):=by simp[bL,h1]
    rw[e] at k;show k
   .rw[decide_eq_false h1];have e:bL (.int i) lo hi=false:=by simp[bL,h1]
    rw[e] at k;show aG k
def Op:aS ["state","deed","frame","early","weights","place","weight","kept"] ["state","deed"] (h_ Ci):=⟨μ,μ,μ,ξ,μ,ξ,ξ⟩
def sa_(F:aM K "_law_due" "_law_due" Ci f fd)(T:Txt mg)(zU:ak P w K mg base 1 "_law_is_from" ["thing","low","high"] jm):aA P w K mg base aI 2 f fd ["state","deed"] zS:=by
 show F.ok Op λao A outer s H vs Q E hr h=>?_
 .obtain⟨s,f,a,c,e,ks,b,ps,ws,aV,dv,d,rfl,S,jX,wF,D,kw,Oq⟩:=h;have nd:=Op.nd;show⟨_,(b_ (eJ (pv 0) (kF μ (r_ (k_ 2) (r_ (k_ 3) fj)))) (b_ (i_ 4 (J_ sW η T.list boot_list (a_ (aW (pv 2) e_) d_))) (b_ (E_ (t_ mi (pv 1) cX (aY _)) (b_ (E_ (t_ (y9 P w μ μ hr.units) (pv 3) (x_ d_) (aY _)) (g_ (m_ eI)) q_) (b_ (eJ (bf (pv 3) (eO eQ e_)) (kF μ (r_ (k_ 5) (r_ (k_ 6) fj)))) (b_ (eJ (pv 6) (nV (pv 4) (pv 5) oj)) (g_ (m_ (dJ (a_ (dJ (a_ (aW (pv 2) e_) (a_ (aW (pv 2) e_) (a_ (pv 4) d_)))) (a_ (jH kN (pv 3) qj (gH (eO eQ e_))) d_)))))))) q_) (b_ (eJ (pv 1) (kF μ (r_ (k_ 5) (r_ (k_ 6) fj)))) (b_ (E_ (cY (V_ (o_ zU hr η (a_ (pv 5) (a_ e_ (a_ (n_ R_ (dw T.len η (pv 4)) e_) d_)))))) (g_ (m_ eI)) q_) (b_ (E_ (cY (V_ (o_ zU hr η (a_ (pv 6) (a_ (eO eQ e_) (a_ e_ d_)))))) (g_ (m_ eI)) q_) (b_ (i_ 7 (dJ (a_ (pv 5) (a_ (bf (pv 4) (pv 5)) d_)))) (b_ (eJ (pv 6) (nV (pv 4) (pv 5) oj)) (g_ (m_ (dJ (a_ (dJ (a_ (aW (pv 2) e_) (a_ (aW (pv 2) e_) (a_ (pv 4) d_)))) (a_ (n_ mt (pv 3) (x_ (a_ (pv 7) d_))) d_))))))))))))),?_⟩;have ok:=S.fr.ok;have cO:=ok.wl;have uX:=ok.sum;show⟨_,μ,s,_,μ,aB.of S.hs,μ,_,_,μ,_,_,μ,μ,(⟨_,μ,_,_,_,_,μ,μ,aB.of S.fr.tp,μ,⟨c,_,μ,.inl (ae.of S.fr.hw),λwl zV=>?_⟩⟩)⟩;have s1:=f_ (o:=.lst (ws.map V.int)) zV;have u1:(upd H wl (.lst (ws.map V.int))) wl=_:=c_;have S1:=S.keep s1;have n1:∀ {y:Addr} {o:HO},H y=some o->y≠wl:=λh z=>by rw[z,zV] at h;cases h
  have mv:∀ {o':HO},af H (upd (upd H wl (.lst (ws.map V.int))) wl o'):=λ{o'} y o h=>by rw[j_ (n1 h),j_ (n1 h)];show h
  rcases D with⟨rfl,rfl⟩ | ⟨t,pl,wt,rfl,rfl,ht,d1,d2⟩
  .show⟨_,μ,μ,_,μ,bI ?_⟩;rcases Nat.eq_zero_or_pos aV.length with h0 | h0
   .have eh:aV=[]:=a2y h0;have ek:ks=[]:=a2y (by rw[S.hl];show h0);subst ek;show⟨_,μ,sz θ,λl hl=>?_⟩;have s2:=f_ (o:=.lst []) hl;show L2.jh (gK (s2 _ _ S1.he) .nil) (gK c_ .nil) μ (by simp[PyData.depth,PyData.depthAll]) ⟨_,μ,bI (kw _ _ (s1.trans s2) (.inl ⟨μ,eh,μ⟩))⟩
   .obtain⟨oU,⟨p,x⟩,rfl⟩:=zT (l:=aV) h0;obtain⟨kj,kz,rfl⟩:=zT (l:=ks) (by rw[S.hl];show h0);have qR:kj.length=oU.length:=by have:=S.hl;simp at this;show this
    have Os:=S1.hk kj.length kz (p,x) θ (by rw[qR];simp);have Fy:=jX (p,x) θ;show⟨_,μ,sz θ,λl hl=>?_⟩;have s2:=f_ (o:=.lst []) hl
    have hdt:∃de,Paired (gm P w (upd (upd H wl (.lst (ws.map V.int))) l (.lst []))) ((kj++[kz]).map V.ref) de/\de≠[]/\PyData.canLayAll0 de=true/\PyData.depthAll de<=1:=by
     have gen:∀(kk:List Addr) (hh:List (Nat×Int)),kk.length=hh.length->(∀(i:Nat) (k:Addr) (h:Nat×Int),kk[i]?=some k->hh[i]?=some h->(upd (upd H wl (.lst (ws.map V.int))) l (.lst [])) k=some (.tup [.int h.1,.int h.2]))->∃de,Paired (gm P w (upd (upd H wl (.lst (ws.map V.int))) l (.lst []))) (kk.map V.ref) de/\de.length=kk.length/\PyData.canLayAll0 de=true/\PyData.depthAll de<=1:=by
      intro kk
      induction kk with
      | nil=>show λhh _ _=>⟨[],.nil,μ,μ,a2u _⟩
      | cons k0 kr ih =>
       intro hh cE h
       cases hh with
       | nil=>simp at cE
       | cons g0 gr =>
        obtain⟨de,q1,q2,q3,q4⟩:=ih gr (by simpa using cE) (λi k h' e1 e2=>h (i+1) k h' (by simpa using e1) (by simpa using e2));have e0:=h 0 k0 g0 μ μ;show⟨.tuple [.int g0.1,.int g0.2]::de,.cons (qy e0 (.cons (iJ _) (.cons (iJ _) .nil))) q1,by simp[q2],?_,?_⟩;.simp[PyData.canLayAll0,PyData.canLay0,q3]
        .simp only[PyData.depthAll,PyData.depth];lia
     obtain⟨de,q1,q2,q3,q4⟩:=gen (kj++[kz]) (oU++[(p,x)]) (by simp[qR]) (λi k h e1 e2=>s2 _ _ (S1.hk i k h e1 e2));show⟨de,q1,λz=>by rw[z] at q2;simp at q2,q3,q4⟩
    obtain⟨de,q1,q2,q3,q4⟩:=hdt;show⟨.list de,.list [],gK (s2 _ _ S1.he) q1,gK c_ .nil,⟨by simpa [PyData.canLay0] using q3,μ,by simp only[PyData.depth];lia⟩,?_⟩
    have eq0:PyData.eqv (.list de) (.list [])=false:=by
     cases de with
     | nil=>show absurd μ q2
     | cons x y=>simp[PyData.eqv,PyData.eqvAll]
    rw[if_neg ζ,eq0];show⟨_,μ,aG ?_⟩;have S2:=S1.keep s2;have u2:=s2 _ _ u1;have nl1:∀ {y:Addr} {o:HO},H y=some o->y≠l:=λh z=>by rw[z] at h;rw[s1 _ _ h] at hl;cases hl
    have nwl:wl≠l:=λz=>by rw[<-z,u1] at hl;cases hl
    generalize upd (upd H wl (.lst (ws.map V.int))) l (.lst [])=H2 at S2 u2 s2 q1⊢;have T2:=s1.trans s2;have a0z:=s2 _ _ Os;show⟨_,μ,_,μ,bU S2.he mg_ ⟨kz,_,μ,aB.of a0z,μ,_,_,μ,_,_,μ,μ,⟨_,μ,_,μ,_,μ,wl,_,_,p,μ,μ,u2,by rw[a1H];show EU Fy.1,?_⟩⟩⟩;have e3:(ws.map V.int).set p (V.int x)=(ws.set p x).map V.int:=by rw[List.map_set]
    rw[e3];have s3:af H (upd H2 wl (.lst ((ws.set p x).map V.int))):=λy o h=>by rw[j_ (n1 h)];show T2 _ _ h
    have u3:(upd H2 wl (.lst ((ws.set p x).map V.int))) wl=_:=c_;generalize upd H2 wl (.lst ((ws.set p x).map V.int))=H3 at s3 u3⊢;have S3:=S.keep s3;show⟨_,μ,_,_,_,_,μ,μ,aB.of S3.fr.tp,μ,_,μ,_,_,_,_,μ,μ,aB.of S3.fr.tp,μ,_,μ,sz θ,λft Fz=>?_⟩;have s4:=f_ (o:=.tup [.int b,.ref a,.ref wl]) Fz;have u4:(upd H3 ft (.tup [.int b,.ref a,.ref wl])) ft=_:=c_;generalize upd H3 ft (.tup [.int b,.ref a,.ref wl])=H4 at s4 u4⊢;have S4:=S3.keep s4;show⟨_,μ,_,μ,_,μ,e,_,μ,ae.of S4.he,λel vk=>⟨sz θ,λaq mI=>?_⟩⟩
    have FA:dc ((kj++[kz]).map V.ref) none (some (-1))=kj.map V.ref:=by
     rw[a2i];show oI_ _ _
    rw[FA] at mI⊢;have s5:=f_ (o:=.lst (kj.map V.ref)) vk;have u5:(upd H4 el (.lst (kj.map V.ref))) el=_:=c_;generalize upd H4 el (.lst (kj.map V.ref))=H5 at s5 u5 mI⊢;have s6:=f_ (o:=.tup [.ref ft,.ref el]) mI;have T6:=((s3.trans s4).trans s5).trans s6;show Oq _ ft wl el kj (ws.set p x) oU _ T6 (.inl ⟨oU,p,x,μ,μ,μ,μ⟩) ⟨c_,⟨s6 _ _ (s5 _ _ u4),T6 _ _ S.fr.hp,s6 _ _ (s5 _ _ (s4 _ _ u3)),Om ok Fy.2.1 Fy.2.2⟩,s6 _ _ u5,qR,λi k h e1 e2=>(T6 _ _ (S.hk i k h ?_ ?_))⟩ zV (λh hh=>by rw[a3E];show jX h (a2n _ hh)) ((s3.trans s4).free vk);.rw[a1R (a1I.mp e1).1];show e1
    .rw[a1R (a1I.mp e2).1];show e2
  .have jZ:=s1 _ _ ht;have Ot:=d1.keep s1;have Ou:=d2.keep s1;have S1':=S1;generalize upd H wl (.lst (ws.map V.int))=H1 at s1 u1 S1 jZ Ot Ou⊢;show⟨_,μ,μ,_,μ,aG ?_⟩;show⟨_,μ,t,_,μ,aB.of jZ,μ,_,_,μ,_,_,μ,μ,⟨_,μ,_,μ,wl,_,μ,.inl (ae.of u1),_,_,μ,μ,pl,0,_,μ,Ot.rV,_,μ,?_⟩⟩;rw[a1H]
   cases e1:bL pl 0 ((ws.length:Int)-1) with
   | false=>show bI (kw _ _ s1 (.inr ⟨pl,wt,μ,.inl ⟨e1,μ⟩⟩))
   | true =>
    show aG ⟨_,μ,_,μ,wt,-9,9,μ,Ou.rV,_,μ,?_⟩
    cases e2:bL wt (-9) 9 with
    | false=>show bI (kw _ _ s1 (.inr ⟨pl,wt,μ,.inr ⟨e1,e2,μ⟩⟩))
    | true =>
     obtain⟨p,rfl,hp⟩:∃p:Nat,pl=.int p/\p<ws.length:=by
      cases pl with
      | int i =>
       simp only[bL,a2v,decide_eq_true_eq] at e1;show⟨i.toNat,by rw[a4P e1.1],Z⟩
      | _=>cases e1
     obtain⟨x,rfl,dS,fz⟩:∃x:Int,wt=.int x/\-9<=x/\x<=9:=by
      cases wt with
      | int i =>
       simp only[bL,a2v,decide_eq_true_eq] at e2;show⟨i,μ,e2.1,e2.2⟩
      | _=>cases e2
     obtain⟨y,hy⟩:∃y,ws[p]?=some y:=⟨_,a2a hp⟩;have FB:=ok.wr y (a1K hy);have ey:df (ws.map V.int) (p:Int)=some (V.int y):=Z_ (by rw[a1O,hy];rfl);show aG ⟨_,μ,_,μ,_,μ,_,_,_,_,μ,μ,ae.of u1,ey,sz θ,λkt FC=>?_⟩;have s2:=f_ (o:=.tup [.int (p:Int),.int y]) FC;have u2:(upd H1 kt (.tup [.int (p:Int),.int y])) kt=_:=c_;have v2:=s2 _ _ u1;have nkw:kt≠wl:=λz=>by rw[z,u1] at FC;cases FC
     generalize upd H1 kt (.tup [.int (p:Int),.int y])=H2 at s2 u2 v2⊢;show⟨_,μ,_,μ,_,μ,wl,_,_,p,μ,μ,v2,by rw[a1H];show EU hp,?_⟩;have e3:(ws.map V.int).set p (V.int x)=(ws.set p x).map V.int:=by rw[List.map_set]
     rw[e3];have T2:=s1.trans s2;have s3:af H (upd H2 wl (.lst ((ws.set p x).map V.int))):=λy o h=>by rw[j_ (n1 h)];show T2 _ _ h
     have u3:(upd H2 wl (.lst ((ws.set p x).map V.int))) wl=_:=c_;have w3:(upd H2 wl (.lst ((ws.set p x).map V.int))) kt=some (.tup [.int (p:Int),.int y]):=by rw[j_ nkw];show u2
     generalize upd H2 wl (.lst ((ws.set p x).map V.int))=H3 at s3 u3 w3⊢;have S3:=S.keep s3;show⟨_,μ,_,_,_,_,μ,μ,aB.of S3.fr.tp,μ,_,μ,_,_,_,_,μ,μ,aB.of S3.fr.tp,μ,_,μ,sz θ,λft Fz=>?_⟩;have s4:=f_ (o:=.tup [.int b,.ref a,.ref wl]) Fz;have u4:(upd H3 ft (.tup [.int b,.ref a,.ref wl])) ft=_:=c_;generalize upd H3 ft (.tup [.int b,.ref a,.ref wl])=H4 at s4 u4⊢;have S4:=S3.keep s4;show⟨_,μ,_,μ,sz θ,λk1 tS=>?_⟩;have s5:=f_ (o:=.lst [V.ref kt]) tS;have u5:(upd H4 k1 (.lst [V.ref kt])) k1=_:=c_;generalize upd H4 k1 (.lst [V.ref kt])=H5 at s5 u5⊢;have S5:=S4.keep s5;have pW:=S.hl;show⟨e,k1,_,_,μ,μ,S5.he,u5,sz (by simp;lia),λel vk=>⟨sz θ,λaq mI=>?_⟩⟩;have s6:=f_ (o:=.lst (ks.map V.ref++[V.ref kt])) vk;have u6:(upd H5 el (.lst (ks.map V.ref++[V.ref kt]))) el=some (.lst ((ks++[kt]).map V.ref)):=by rw[c_,a2i];rfl
     generalize upd H5 el (.lst (ks.map V.ref++[V.ref kt]))=H6 at s6 u6 mI⊢;have s7:=f_ (o:=.tup [.ref ft,.ref el]) mI;have T7:=((((s3.trans s4).trans s5).trans s6)).trans s7;have Ov:=((s4.trans s5).trans s6).trans s7;show Oq _ ft wl el (ks++[kt]) (ws.set p x) (aV++[(p,y)]) _ T7 (.inr ⟨p,x,y,μ,hp,dS,fz,hy,μ,μ⟩) ⟨c_,⟨((s5.trans s6).trans s7) _ _ u4,T7 _ _ S.fr.hp,Ov _ _ u3,Om ok dS fz⟩,s7 _ _ u6,by simp[pW],λi k h e1 e2=>?_⟩ zV (λh hh=>?_) (((s3.trans s4).trans s5).free vk)
     .rcases On e1 with⟨hi,e1⟩ | ⟨rfl,rfl⟩
      .rw[a1R (by lia)] at e2;show T7 _ _ (S.hk i k h e1 e2)
      .rw[pW,a1V (a1M _)] at e2;simp at e2;subst e2;show Ov _ _ w3
     .rw[a3E];rcases a2l.mp hh with h1 | h1;.show jX h h1
      .rw[a1X.mp h1];show⟨hp,FB.1,FB.2⟩
def vm:bootBuiltins "str"=some (.type "str"):=PyProof.Rows.boot_str
def FD:PySem.W.kitOne K (.type "tuple") (.type "str")=some false:=by kernel_rfl
def Ow:PySem.W.kitOne K (.type "str") (.type "str")=some true:=by kernel_rfl
def FE(d:DT H x)(S:bh H st):DT (Off [st] H) x:=by
 rcases d with h | h | h | h | ⟨a,e,h⟩;.show .inl h
 .show .inr<|.inl h
 .show .inr<|.inr<|.inl h
 .show .inr<|.inr<|.inr<|.inl h
 .show .inr<|.inr<|.inr<|.inr ⟨a,e,?_⟩;rcases h with h | h | h;.show .inl<|rO h<|by simpa using S.ne h (by intro _ _ _ z;cases z)
  .show .inr<|.inl<|rO h<|by simpa using S.ne h (by intro _ _ _ z;cases z)
  .show .inr<|.inr<|rO h<|by simpa using S.ne h (by intro _ _ _ z;cases z)
def FF(h1 : -1000<=i)(h2:i<=1000):DT H (.int i):=.inr (.inr<|.inl ⟨i,μ,a3e ξ h1,a3e h2<|by decide +kernel⟩)
noncomputable def Ox:Stmt->Expr
 | .Assign _ e _=>e
 | .Return (some e) _=>e
 | _=>.Constant .none 0 ⟨0,0,0,0⟩
def rs_{rest:List Stmt}(h:dP X rest t)(w:∀D σ H,t' D σ H->t D σ H):dP X rest t':=λaa s σ H D I q=>h aa s σ H D I<|w D σ H q
noncomputable def bT(D:List Addr):PP D:=⟨λH v=>DT (Off D H) v,λ_ _ _ k h=>h.keep (sc_ k)⟩
section
variable{ps:List (Option (PP [d]))}
def Oy:ET X d ps (.Constant (.bool t) j pos) (bT _):=zD eG λ_=>.inr<|.inl ⟨_,μ⟩
def sF_:ET X d ps (.Constant .none j pos) (bT _):=zD cX λ_=>.inl μ
def sE_:ET X d ps (.Constant (.str "1") j pos) (bT _):=zD eI λ_=>.inr<|.inr<|.inr<|.inl ⟨_,μ,μ⟩
def ke{lo hi:Int}(h1 : -(10:Int) ^ 25<=lo:=by decide +kernel)(h2:hi<=(10:Int) ^ 25:=by decide +kernel):Le (D:=[d]) (gU _ lo hi) (bT _):=λH v ⟨i,e,q1,q2⟩=>.inr<|.inr<|.inl ⟨i,e,a3e h1 q1,a3e q2 h2⟩
def sG_:ET X d ps (.Dict [] [] pos) (bT _):=iu qG fun σ H Q c k q=>λz cU=>q _ _ (k.keep<|f_ cU) (Kp.of<|f_ cU)<|.inr<|.inr<|.inr<|.inr ⟨z,μ,.inr<|.inr<|rO c_<|k.eY cU⟩
def re_:ET X d ps (.List [.Constant (.int 1) j q1] pos) (bT _):=iu (x_<|a_ e_ d_) fun σ H Q c k q=>⟨sz<|by decide,λz cU=>q _ _ (k.keep<|f_ cU) (Kp.of<|f_ cU)<|.inr<|.inr<|.inr<|.inr ⟨z,μ,.inl<|rO c_<|k.eY cU⟩⟩
def rb_:ET X d ps (.Tuple [.Constant (.int 1) j q1] x1 pos) (bT _):=iu (dJ<|a_ e_ d_) fun σ H Q c k q=>⟨sz<|by decide,λz cU=>q _ _ (k.keep<|f_ cU) (Kp.of<|f_ cU)<|.inr<|.inr<|.inr<|.inr ⟨z,μ,.inr<|.inl<|rO c_<|k.eY cU⟩⟩
def FG{pp:(d:Addr)->List (Option (PP [d]))}{R:(d:Addr)->PP [d]}(h:∀d,ET X d (pp d) e (R d)):PE X e (fun σ H Q=>∃d,tT d (pp d) (R d) σ H Q):=λaa s σ H Q I ⟨d,q⟩=>h d aa s σ H Q I q
end
noncomputable abbrev a0A:List Str:=["store","state","frame","early","size","way","place","weight","odd"]
abbrev XD(P:Program)(w:World)(K:PySem.W.Frag)(mg:Str->Option Value)(base:Heap)(f:Addr)(ao:Value)(A:Around)(outer:List Env)(s:Shared)(H:Hp)(E:XK):Cx:=Cx.ja (cb aI P w K mg base a0A "_law_deed" (h_ ii) f ao A outer s H E)
abbrev stD(i:Nat):Stmt:=(A_ ii).getD i (.Pass ⟨0,0,0,0⟩)
noncomputable def su_:Stmt->List Stmt
 | .If _ b _ _=>b
 | _=>[]
abbrev stI(i:Nat):Stmt:=(su_ (stD i)).getD 0 (.Pass ⟨0,0,0,0⟩)
def rh_(D1:ak P w K mg base 1 "_law_take" ["store","many"] gu)(hr:bM 1 (XD P w K mg base f ao A outer s H E).A):ET (XD P w K mg base f ao A outer s H E) d [some (zC _ d),none,none,none,some (gU _ 0 24),none,none,none,some (bT _)] (Ox (stI 7)) (bT _):=by
 show EO (EN (It:=bT _) (m:=6) ?_)<|rP D1 hr η (iw 0<|pv 0) j6;show dW ?_ ?_;.show j4 (iw 4<|pv 4) ke
 show dW ?_ ?_;.show j4 EQ ke
 show dW ?_ ?_;.show iw 8<|pv 8
 show dW ?_ ?_;.show j4 (NJ (iw 4<|pv 4)<|rP D1 hr η (iw 0<|pv 0) j6) ke
 show dW ?_ ?_;.show j4 (ER j6<|iw 4<|pv 4) ke
 show dW ?_ ?_;.show iw 8<|pv 8
 show EM
def oH_(D1:ak P w K mg base 1 "_law_take" ["store","many"] gu)(hr:bM 1 (XD P w K mg base f ao A outer s H E).A):ET (XD P w K mg base f ao A outer s H E) d [some (zC _ d),none,none,none,none,none,none,none,some (bT _)] (Ox (stI 8)) (bT _):=by
 show EO (EN (It:=bT _) (m:=6) ?_)<|rP D1 hr η (iw 0<|pv 0) j6;show dW ?_ ?_;.show j4 j6 ke
 show dW ?_ ?_;.show j4 EQ ke
 show dW ?_ ?_;.show iw 8<|pv 8
 show dW ?_ ?_;.show iw 8<|pv 8
 show dW ?_ ?_;.show j4 (NJ j6<|rP D1 hr η (iw 0<|pv 0) j6) ke
 show dW ?_ ?_;.show j4 (ER EQ<|rP D1 hr η (iw 0<|pv 0) j6) ke
 show EM
@[irreducible] noncomputable def kD:Expr:=(.List [(.Constant (.bool true) 0 ⟨417,11,417,15⟩),(.Constant (.bool false) 0 ⟨417,17,417,22⟩),(.Constant .none 0 ⟨417,24,417,28⟩),(.Constant (.str "1") 0 ⟨417,30,417,33⟩),(.List [(.Constant (.int 1) 0 ⟨417,36,417,37⟩)] ⟨417,35,417,38⟩),(.Tuple [(.Constant (.int 1) 0 ⟨417,41,417,42⟩)] 0 ⟨417,40,417,44⟩),(.Dict [] [] ⟨417,46,417,48⟩),(.BinOp (.Constant (.int 10) 0 ⟨417,50,417,52⟩) .Pow (.Constant (.int 25) 0 ⟨417,56,417,58⟩) ⟨417,50,417,58⟩),(.BinOp (.Constant (.int 0) 0 ⟨417,60,417,61⟩) .Sub (.BinOp (.Constant (.int 10) 0 ⟨417,64,417,66⟩) .Pow (.Constant (.int 25) 0 ⟨417,70,417,72⟩) ⟨417,64,417,72⟩) ⟨417,60,417,72⟩)] ⟨417,10,417,73⟩)
def Oz:kD=(.List [(.Constant (.bool true) 0 ⟨417,11,417,15⟩),(.Constant (.bool false) 0 ⟨417,17,417,22⟩),(.Constant .none 0 ⟨417,24,417,28⟩),(.Constant (.str "1") 0 ⟨417,30,417,33⟩),(.List [(.Constant (.int 1) 0 ⟨417,36,417,37⟩)] ⟨417,35,417,38⟩),(.Tuple [(.Constant (.int 1) 0 ⟨417,41,417,42⟩)] 0 ⟨417,40,417,44⟩),(.Dict [] [] ⟨417,46,417,48⟩),(.BinOp (.Constant (.int 10) 0 ⟨417,50,417,52⟩) .Pow (.Constant (.int 25) 0 ⟨417,56,417,58⟩) ⟨417,50,417,58⟩),(.BinOp (.Constant (.int 0) 0 ⟨417,60,417,61⟩) .Sub (.BinOp (.Constant (.int 10) 0 ⟨417,64,417,66⟩) .Pow (.Constant (.int 25) 0 ⟨417,70,417,72⟩) ⟨417,64,417,72⟩) ⟨417,60,417,72⟩)] ⟨417,10,417,73⟩):=by unfold kD;rfl
abbrev FH:Expr:=.Subscript kD (.Call (.Name "_law_take" ⟨417,74,417,83⟩) [(.Name "store" ⟨417,84,417,89⟩),(.Constant (.int 9) 0 ⟨417,91,417,92⟩)] [] ⟨417,74,417,93⟩) ⟨417,10,417,94⟩
def qU_:A_ ii=(A_ ii).getD 0 (.Pass ⟨0,0,0,0⟩)::(A_ ii).getD 1 (.Pass ⟨0,0,0,0⟩)::(A_ ii).getD 2 (.Pass ⟨0,0,0,0⟩)::(A_ ii).getD 3 (.Pass ⟨0,0,0,0⟩)::(A_ ii).getD 4 (.Pass ⟨0,0,0,0⟩)::(A_ ii).getD 5 (.Pass ⟨0,0,0,0⟩)::.Assign [(.Name "odd" ⟨417,4,417,7⟩)] FH ⟨417,4,417,94⟩::(A_ ii).drop 7:=by unfold FH;show Oz▸?_;rfl
def ta_(D1:ak P w K mg base 1 "_law_take" ["store","many"] gu)(hr:bM 1 (XD P w K mg base f ao A outer s H E).A):ET (XD P w K mg base f ao A outer s H E) d [some (zC _ d),none,none,none,none,none,none,none,none] FH (bT _):=by
 show EO (l1:=9) (h1:=9) ?_<|rP D1 hr η (iw 0<|pv 0) j6;rw[Oz];show EN ?_;show dW ?_ ?_;.show Oy
 show dW ?_ ?_;.show Oy
 show dW ?_ ?_;.show sF_
 show dW ?_ ?_;.show sE_
 show dW ?_ ?_;.show re_
 show dW ?_ ?_;.show rb_
 show dW ?_ ?_;.show sG_
 show dW ?_ ?_;.show j4 NK ke
 show dW ?_ ?_;.show j4 (ER j6 NK) ke
 show EM
noncomputable abbrev OA:List Str:=["keeper","deed","due","caught","found","e"]
abbrev XA(P:Program)(w:World)(K:PySem.W.Frag)(mg:Str->Option Value)(base:Heap)(f:Addr)(ao:Value)(A:Around)(outer:List Env)(s:Shared)(H:Hp)(E:XK):Cx:=Cx.ja (cb aI P w K mg base OA "_law_asked" (h_ tM) f ao A outer s H E)
abbrev OB(i:Nat):Stmt:=(A_ tM).getD i (.Pass ⟨0,0,0,0⟩)
def OC:aS OA ["keeper","deed","due"] (h_ tM):=⟨μ,μ,μ,ξ,μ,ξ,ξ⟩
def FI(K:PySem.W.Frag)(c:Nat->Addr):TS:=λD σ H=>(σ[3]?=some (some .ax)/\∃t xs,σ[4]?=some (some (.ref t))/\H t=some (.tup xs)/\∀H',af H H'->D.rt (.ref t) H')\/(∃x C,∃i:Nat,∃wd word:Str,σ[3]?=some (some (.ref x))/\σ[2]?=some (some (.str word))/\H x=some (lW x C)/\Kind K c C i/\gZ[i]?=some wd/\PyData.canLay0 (.str word)=true/\∀H',af H H'->D.rt (.str (if wd=word then word else "other")) H')
inductive zW(C:Addr)(vs:List V)(H:Hp)(Q:VK)(aw:XK):Prop
 | mk:∀(kp dx sl:Addr) (as:List AF) (b:Nat) (ps:List Nat) (aH:List (List Int)) (ws:List Int) (aV:List (Nat×Int)) (dv u:V) (d:Option (V×V)),(vs=[.ref kp,dv,u])->(bX C H kp dx sl as b ps (aH++[ws]))->(aV.length=aH.length)->(aH.length<=900)->(fZ H dv d)->((∀(i0:List (List Int)) (wz:List Int) (ai:List AF) (t:Addr) (H':Hp),d=none->aH=i0++[wz]->(∀x∈ai,x∈as)->H t=none->H' t=some (.tup [.int (cN b ps ws),.int (cN b ps wz)])->bX C H' kp dx sl ai b ps (i0++[wz])->Kp [sl] H H'->Q (.ref t) H'))->((∀(p:Nat) (x:Int) (t:Addr) (xn:AF) (H':Hp),d=some (.int p,.int x)->p<ws.length->-9<=x->x<=9->H t=none->H' t=some (.tup [.int (cN b ps ws),.int (cN b ps (ws.set p x))])->H xn.2.1=none->H xn.2.2=none->bX C H' kp dx sl (as++[xn]) b ps (aH++[ws]++[ws.set p x])->Kp [sl] H H'->Q (.ref t) H'))->((∀wd:Str,jy ws aV d wd->∃word:Str,u=.str word/\PyData.canLay0 (.str word)=true/\∀H',af H H'->Q (.str (if wd=word then word else "other")) H'))->zW C vs H Q aw
def OD:aS ["store","state","frame","early","size","way","place","weight","odd"] ["store","state"] (h_ ii):=⟨μ,μ,μ,ξ,μ,ξ,ξ⟩
def qC_(F:aM K "_law_deed" "_law_deed" ii f fd)(T:Txt mg)(bR:ak P w K mg base 1 "_law_take" ["store","many"] gu):aA P w K mg base aI 2 f fd ["store","state"] zR:=by
 show F.ok OD λao A outer s H vs Q E hr h=>?_
 .obtain⟨st,sa,fa,a,c,e,ks,b,ps,ws,aV,rfl,E0,S,na,nc,k⟩:=h;have nd:=OD.nd;have fY:bM 1 (XD P w K mg base f ao A outer s H E).A:=hr;show qU_▸?_;show⟨_,(b_ (eJ (pv 1) (kF μ (r_ (k_ 2) (r_ (k_ 3) fj)))) (b_ (i_ 4 (dw T.len η (aW (pv 2) e_))) (b_ (i_ 5 (o_ bR hr η (a_ (pv 0) (a_ e_ d_)))) (b_ (E_ (t_ kH (pv 5) e_ (aY _)) (g_ (m_ cX)) q_) (b_ (i_ 6 (o_ bR hr η (a_ (pv 0) (a_ (pv 4) d_)))) (b_ (i_ 7 (bf (x_ (a_ (n_ R_ (o_ bR hr η (a_ (pv 0) (a_ e_ d_))) e_) (a_ (n_ R_ (o_ bR hr η (a_ (pv 0) (a_ e_ d_))) e_) (a_ e_ (a_ (bf (aW (pv 2) e_) (pv 6)) d_))))) (o_ bR hr η (a_ (pv 0) (a_ e_ d_))))) (b_ (i_ 8 (FG λd=>ta_ (d:=d) bR fY)) (b_ (zc (E_ (t_ dI (pv 5) e_ (aY _)) (g_ (i_ 6 (FG λd=>rh_ (d:=d) bR fY))) q_)) (b_ (zc (E_ (PW.pt (iY (t_ dI (pv 5) e_ (aY _)) (kA (PW.pt (vN (t_ dI (pv 5) e_ (aY _)) (vM (t_ dI (o_ bR hr η (a_ (pv 0) (a_ e_ d_))) e_ (aY _)))))))) (g_ (i_ 7 (FG λd=>oH_ (d:=d) bR fY))) q_)) (g_ (m_ (dJ (a_ (pv 6) (a_ (pv 7) d_)))))))))))))),?_⟩;have ok:=S.fr.ok;have cO:=ok.wl;have uX:=ok.sum;show⟨_,μ,sa,_,μ,aB.of S.hs,μ,_,_,μ,_,_,μ,μ,⟨_,μ,_,_,_,_,μ,μ,aB.of S.fr.tp,μ,c,_,μ,.inl (ae.of S.fr.hw),?_⟩⟩;rw[a1H];show⟨_,μ,st,8,μ,E0,ζ,ζ,λr1 H1 OE OF E1 k1=>?_⟩;show⟨_,μ,_,_,μ,μ,_,μ,dQ (λ_=>k .ax none H1 E1 k1 (.inl ⟨μ,μ⟩)) (λ_=>⟨_,μ,_,μ,st,_,μ,E1,Z,Z,λr2 H2 OG OH E2 k2=>?_⟩)⟩;obtain⟨p,rfl⟩:∃p:Nat,r2=(p:Int):=⟨r2.toNat,Z⟩;obtain⟨y,hy⟩:∃y,ws[p]?=some y:=⟨_,a2a Z⟩;have ey:df (ws.map V.int) (p:Int)=some (V.int y):=Z_ (by rw[a1O,hy];rfl);show⟨_,μ,st,19,μ,E2,ζ,ζ,λr3 H3 OI OJ E3 k3=>⟨_,_,μ,μ,_,μ,st,19,μ,E3,ζ,ζ,λr4 H4 rW rX E4 k4=>?_⟩⟩;have K4:=((k1.trans k2).trans k3).trans k4;have G4:=S.fr.Zm E0 na nc K4;show⟨_,_,μ,μ,_,μ,_,_,_,_,μ,μ,aB.of G4.tp,μ,_,μ,_,_,_,_,μ,μ,ae.of G4.hw,ey,sz θ,λl hl=>?_⟩;have t5:=f_ (o:=.lst ([r3-9,r4-9,1,y].map V.int)) hl;have u5:(upd H4 l (.lst ([r3-9,r4-9,1,y].map V.int))) l=_:=c_;have nls:l∉[st]:=E4.eY hl;have e5:upd H4 l (.lst [V.int (r3-9),V.int (r4-9),V.int 1,V.int y])=upd H4 l (.lst ([r3-9,r4-9,1,y].map V.int)):=rfl;have E5:=E4.keep t5;have K5:=K4.same t5;rw[e5];generalize upd H4 l (.lst ([r3-9,r4-9,1,y].map V.int))=H5 at t5 u5 E5 K5⊢;show⟨_,μ,st,4,μ,E5,ζ,ζ,λr5 H6 OL OM E6 k6=>?_⟩
  obtain⟨wv,ewv,wv1,wv2⟩:=mL (ns:=[r3-9,r4-9,1,y]) (i:=r5) (Pr:=λn => -9<=n/\n<=9) OL OM (λn hn=>by
   have FB:=ok.wr y (a1K hy);simp only[a1L,a1Z,or_false] at hn;rcases hn with rfl | rfl | rfl | rfl <;> lia);show bU (k6 _ _ u5 nls) ewv ?_;have K6:=K5.trans k6;show⟨st,.cons (λP e=>by cases e;show⟨_,μ,μ⟩) (.cons (λP e=>by cases e) (.cons (λP e=>by cases e) (.cons (λP e=>by cases e) (.cons (λP e=>by cases e) (.cons (λP e=>by cases e) (.cons (λP e=>by cases e) (.cons (λP e=>by cases e) (.cons (λP e=>by cases e) .nil)))))))),E6,λod rY zX zY ho=>?_⟩;have ON:Kp [st] H rY:=K6.trans zY;have FJ:DT rY od:=DT.keep ho zB;show⟨fun σ H'=>∃pl,σ=[some (.ref st),some (.ref sa),some (.ref fa),some (.ref e),some (.int (ws.length:Int)),some (.int r1),some pl,some (.int wv),some od]/\DT H' pl/\DT H' od/\bh H' st/\Kp [st] H H',?if1,?uM⟩
  case if1 =>
   show⟨_,μ,μ,_,μ,dQ (λ_=>?_) (λ_=>⟨_,μ,FF Z Z,FJ,zX,ON⟩)⟩;show⟨st,.cons (λP e=>by cases e;show⟨_,μ,μ⟩) (.cons (λP e=>by cases e) (.cons (λP e=>by cases e) (.cons (λP e=>by cases e) (.cons (λP e=>by cases e;show⟨_,μ,⟨_,μ,Z,Z⟩⟩) (.cons (λP e=>by cases e) (.cons (λP e=>by cases e) (.cons (λP e=>by cases e) (.cons (λP e=>by cases e;show⟨_,μ,FE FJ zX⟩) .nil)))))))),zX,λpl FK vn kf hp=>⟨pl,μ,DT.keep hp zB,FJ.ej zX kf,vn,ON.trans kf⟩⟩
  rintro σ zA ⟨pl,rfl,hp,OO,nH,zZ⟩;show⟨fun σ H'=>∃wt,σ=[some (.ref st),some (.ref sa),some (.ref fa),some (.ref e),some (.int (ws.length:Int)),some (.int r1),some pl,some wt,some od]/\DT H' pl/\DT H' wt/\bh H' st/\Kp [st] H H',?if2,?jL⟩
  case if2 =>
   show⟨_,μ,μ,_,μ,dQ (λ_=>bI ?_) (λ_=>⟨_,μ,μ,_,μ,dQ (λ_=>⟨_,μ,st,2,μ,nH,ζ,ζ,λq0 EJ q00 q01 rZ nB=>⟨μ,_,μ,dQ (λ_=>?_) (λ_=>⟨_,μ,hp.ej nH nB,FF Z Z,rZ,zZ.trans nB⟩)⟩⟩) (λ_=>aG ⟨_,μ,hp,FF Z Z,nH,zZ⟩)⟩)⟩;.show⟨st,.cons (λP e=>by cases e;show⟨_,μ,μ⟩) (.cons (λP e=>by cases e) (.cons (λP e=>by cases e) (.cons (λP e=>by cases e) (.cons (λP e=>by cases e) (.cons (λP e=>by cases e) (.cons (λP e=>by cases e) (.cons (λP e=>by cases e) (.cons (λP e=>by cases e;show⟨_,μ,FE OO nH⟩) .nil)))))))),nH,λwt FK vn kf hw=>⟨wt,μ,hp.ej nH kf,DT.keep hw zB,vn,zZ.trans kf⟩⟩
   .show⟨st,.cons (λP e=>by cases e;show⟨_,μ,μ⟩) (.cons (λP e=>by cases e) (.cons (λP e=>by cases e) (.cons (λP e=>by cases e) (.cons (λP e=>by cases e) (.cons (λP e=>by cases e) (.cons (λP e=>by cases e) (.cons (λP e=>by cases e) (.cons (λP e=>by cases e;show⟨_,μ,FE (OO.ej nH nB) rZ⟩) .nil)))))))),rZ,λwt FK vn kf hw=>⟨wt,μ,(hp.ej nH nB).ej rZ kf,DT.keep hw zB,vn,(zZ.trans nB).trans kf⟩⟩
  rintro σ EJ ⟨wt,rfl,a0B,a0C,rZ,K13⟩;show⟨_,μ,_,μ,sz θ,λt ht=>?_⟩;have z9:=f_ (o:=.tup [pl,wt]) ht;show k _ (some (pl,wt)) _ (rZ.keep z9) (K13.same z9) (.inr ⟨t,pl,wt,μ,μ,c_,a0B.keep z9,a0C.keep z9⟩)
def ky_{f:Addr}{ao:Value}{A:Around}{outer:List Env}{s:Shared}{H:Hp}{E:XK}(T:Txt mg)(fQ:mg "str"=none)(DK:ak P w K mg base 1 "_law_kind" ["e","due"] (vh K c))(hr:bM 1 (XA P w K mg base f ao A outer s H E).A):dP (XA P w K mg base f ao A outer s H E) [OB 3,OB 4] (FI K c):=by
 show rs_ (b_ (E_ (t_ mi (pv 3) cX (aY _)) (g_ (m_ (bf (x_ (a_ (pv 4) (a_ eI d_))) (J_ kI η T.int boot_int (a_ (p_ T_ η T.cC boot_isinstance (a_ (pv 4) (a_ (fu fQ vm) d_))) d_))))) q_) (g_ (m_ (bf (x_ (a_ eI (a_ (pv 2) d_))) (J_ kI η T.int boot_int (a_ (iZ (p_ T_ η T.cC boot_isinstance (a_ (pv 2) (a_ (fu fQ vm) d_))) (kE (o_ DK hr η (a_ (pv 3) (a_ (pv 2) d_))))) d_)))))) λD σ H h=>?_;rcases h with⟨e3,t,xs,e4,ht,k⟩ | ⟨x,C,i,wd,word,e3,e2,hx,kd,hw,wy,k⟩
 .show⟨_,e3,μ,_,μ,bI ⟨_,e4,sz θ,λl hl=>?_⟩⟩;have s1:=f_ (o:=.lst [V.ref t,V.str "told"]) hl;show⟨_,e4,_,_,_,_,μ,.tup (s1 _ _ ht),FD,.inr ⟨_,μ,bU c_ μ (k _ s1)⟩⟩
 .show⟨_,e3,μ,_,μ,aG ⟨_,e2,sz θ,λl hl=>?_⟩⟩;have s1:=f_ (o:=.lst [V.str "other",V.str word]) hl;have u1:(upd H l (.lst [V.str "other",V.str word])) l=_:=c_;show⟨_,e2,_,_,_,_,μ,.str word,Ow,true,μ,bI ⟨_,e3,_,e2,x,C,i,wd,word,μ,wy,s1 _ _ hx,kd,hw,λH2 s2=>?_⟩⟩;by_cases hq:wd=word
  .rw[decide_eq_true hq];show .inr ⟨_,μ,bU (s2 _ _ u1) μ ?_⟩;have:=k H2 (s1.trans s2);rw[if_pos hq] at this;show this
  .rw[decide_eq_false hq];show .inr ⟨_,μ,bU (s2 _ _ u1) μ ?_⟩;have:=k H2 (s1.trans s2);rw[if_neg hq] at this;show this
def oa_(F:aM K "_law_asked" "_law_asked" tM f fd)(T:Txt mg)(fQ:mg "str"=none)(hB:mg "HalfError"=some (.ref B))(U1:Up K (c 1) B)(U2:Up K (c 2) B)(k1:Kind K c (c 1) 1)(k2:Kind K c (c 2) 2)(cl:cA K C)(DK:ak P w K mg base 1 "_law_kind" ["e","due"] (vh K c)) (MU:pV P w K mg base 8 C "undo" ["self"] (pU (u9 C) (zP C (c 1)))) (MW:pV P w K mg base 8 C "weigh" ["self","place","weight"] (pU (uZ C) (zO C (c 2) (c 1)))):aA P w K mg base aI 9 f fd ["keeper","deed","due"] (zW C):=by
 show F.ok OC λao A outer s H vs Q E hr h=>?_
 .obtain⟨kp,dx,sl,as,b,ps,aH,ws,aV,dv,u,d,rfl,S,hh,hl,D,kU,kW,kB⟩:=h;have nd:=OC.nd;have fY:bM 1 (XA P w K mg base f ao A outer s H E).A:=hr.mono ζ;show⟨_,b_ (i_ 3 cX) (b_ (i_ 4 cX) (b_ (rK_ (ie:=5) (Fi (sS_ (t_ mi (pv 1) cX (aY _)) (Fi (nA_ (i:=4) cl MU nd μ (Or.inl μ) hr (pv 0))) (Fi (qk_ (i:=4) cl MW nd μ (Or.inl μ) hr (pv 0) (a_ (aW (pv 1) e_) (a_ (aW (pv 1) e_) d_)))))) μ μ μ nd μ (Or.inl μ) μ μ (Or.inl μ) η hB (λv=>g_ (i_ 3 (pv 5)))) (ky_ T fQ DK fY))),?_⟩;have hN:∀(t:Addr) (xs:List V) (H':Hp),H' t=some (.tup xs)->(∀jz,af H' jz->Q (.ref t) jz)->FI K c {nx:=λx H'=>Q V.ax H',rt:=Q} [some (.ref kp),some dv,some u,some .ax,some (.ref t),none] H':=λt xs H' h k=>.inl ⟨μ,t,xs,μ,h,k⟩
  have hE:∀(j:Nat) (wd:Str),Up K (c j) B->Kind K c (c j) j->gZ[j]?=some wd->jy ws aV d wd->∀H',af H H'->∃A,Value.ref (c j)=Value.ref A/\Up K A B/\∀x,H' x=none->qd 5 (([some (.ref kp),some dv,some u,some .ax,some .ax,none]:St).set 5 (some (.ref x))) (upd H' x (lW x A)) (λv H2=>FI K c {nx:=λx H'=>Q V.ax H',rt:=Q} (((([some (.ref kp),some dv,some u,some .ax,some .ax,none]:St).set 5 (some (.ref x))).set 3 (some v)).set 5 none) H2) :=
   λj wd U kd hw hd H' s'=>⟨_,μ,U,λx hx=>by
    obtain⟨word,e,wy,k⟩:=kB wd hd;subst e;show⟨_,μ,.inr ⟨x,c j,j,wd,word,μ,μ,c_,kd,hw,wy,λH2 s2=>k H2 ((s'.trans (f_ hx)).trans s2)⟩⟩⟩;show⟨_,μ,μ,_,μ,?_⟩;rcases D with⟨rfl,rfl⟩ | ⟨t,pl,wt,rfl,rfl,ht,d1,d2⟩
  .show bI ⟨_,μ,kp,dx,_,μ,S.ob,ix ξ,?_⟩;rcases Nat.eq_zero_or_pos aH.length with h0 | h0
   .have ei:aH=[]:=a2y h0;subst ei;have eh:aV=[]:=a2y (by rw[hh];rfl);show .inr ⟨kp,dx,sl,as,b,ps,ws,μ,S,hE 1 "number" U1 k1 μ (.inl ⟨μ,eh,μ⟩)⟩
   .obtain⟨i0,wz,rfl⟩:=zT h0;have dG:=S.len;simp at dG;obtain⟨ai,x,rfl⟩:=zT (l:=as) Z;simp at hl;show .inl ⟨kp,dx,sl,ai,x,b,ps,i0,wz,ws,μ,S,Z,λt H' nt ht K' k'=>hN t _ H' ht λjz ia=>kU i0 wz ai t jz μ μ (λy hy=>a2n _ hy) nt (ia _ _ ht) (K'.keep ia) (k'.same ia)⟩
  .show aG ⟨_,μ,kp,dx,_,μ,S.ob,ix ξ,_,μ,_,_,_,_,μ,μ,aB.of ht,μ,_,μ,_,_,_,_,μ,μ,aB.of ht,μ,?_⟩
   cases e1:bL pl 0 ((ws.length:Int)-1) with
   | false=>show .inr ⟨kp,dx,sl,as,b,ps,aH,ws,pl,wt,μ,S,d1.rV,d2.rV,.inl ⟨e1,hE 2 "part" U2 k2 μ (.inr ⟨pl,wt,μ,.inl ⟨e1,μ⟩⟩)⟩⟩
   | true =>
    cases e2:bL wt (-9) 9 with
    | false=>show .inr ⟨kp,dx,sl,as,b,ps,aH,ws,pl,wt,μ,S,d1.rV,d2.rV,.inr ⟨e1,e2,hE 1 "number" U1 k1 μ (.inr ⟨pl,wt,μ,.inr ⟨e1,e2,μ⟩⟩)⟩⟩
    | true =>
     obtain⟨p,rfl,hp⟩:∃p:Nat,pl=.int p/\p<ws.length:=by
      cases pl with
      | int i =>
       simp only[bL,a2v,decide_eq_true_eq] at e1;show⟨i.toNat,by rw[a4P e1.1],Z⟩
      | _=>cases e1
     obtain⟨x,rfl,dS,fz⟩:∃x:Int,wt=.int x/\-9<=x/\x<=9:=by
      cases wt with
      | int i =>
       simp only[bL,a2v,decide_eq_true_eq] at e2;show⟨i,μ,e2.1,e2.2⟩
      | _=>cases e2
     show .inl ⟨kp,dx,sl,as,b,ps,aH,ws,p,x,μ,S,hp,dS,fz,Z,λt' xn H' nt js n1 n2 n3 K' k'=>hN t' _ H' js λjz ia=>kW p x t' xn jz μ hp dS fz nt (ia _ _ js) n2 n3 (K'.keep ia) (k'.same ia)⟩
inductive vo(vs:List V)(H:Hp)(Q:VK)(aw:XK):Prop
 | mk:∀(b:Nat) (r:Addr) (ws:List Int),(vs=[.int b,.ref r])->(H r=some (.lst (ws.map V.int)))->(b<=16)->((∀x∈ws,-9<=x/\x<=9))->(ws.length<=6)->(∀p H',H p=none->af H H'->H' p=some (.dK (ay (Me.aN b ws)))->Q (.ref p) H')->vo vs H Q aw
inductive vp(vs:List V)(H:Hp)(Q:VK)(aw:XK):Prop
 | mk:∀f a c b ps ws,(vs=[.ref f])->(aU H f a c b ps ws)->(∀p qs H',af H H'->H p=none->H' p=some (.lst (qs.map V.ref))->lq H' qs (Ma.ar ps ws)->Q (.ref p) H')->vp vs H Q aw
def OP:aS ["base","weights","found","weight","more","here","figure","there"] ["base","weights"] (h_ Cf):=⟨μ,μ,μ,ξ,μ,ξ,ξ⟩
def qx_(F:aM K "_law_part" "_law_part" Cf f fd)(T:Txt mg):aA P w K mg base aI 1 f fd ["base","weights"] vo:=by
 show F.ok OP λao A outer s H vs Q E hr h=>?_
 .obtain⟨b,r,ws,rfl,aT,hb,hw,bZ,k⟩:=h;have nd:=OP.nd;have hu:=ic hr;show⟨_,(b_ (i_ 2 (CB (Cz e_ e_ Cy) μ μ θ ζ)) (b_ (B_ PassesOwn.never μ (I_ (pv 1)) (k_ 3) (b_ (i_ 4 qG) (b_ (B_ PassesOwn.never μ (oM (pv 2)) (k_ 5) (g_ (B_ PassesOwn.never μ (z_ η T.range (a_ (pv 0) d_)) (k_ 6) (b_ (i_ 7 (n_ u_ (pv 5) (n_ Q_ (pv 6) (pv 3)))) (g_ (qF hu (pv 4) (pv 7) (n_ u_ (mE hu (pv 4) (pv 7) e_ ⟨μ,μ,μ,μ⟩) (kZ hu (pv 2) (pv 5) (λ_ _=>rfl))) μ)))))) (qH (g_ (i_ 2 (pv 4))))))) (g_ (m_ (pv 2))))),?_⟩;show λp0 gQ=>⟨c_,[(Sum.inl 0,.int 1)],μ,ζ,?_⟩;have s0:af H (upd (upd H p0 (.dK [])) p0 (.dK (eV [] [(Sum.inl 0,V.int 1)]))):=N_ (f_ gQ) gQ;have u0:(upd (upd H p0 (.dK [])) p0 (.dK (eV [] [(Sum.inl 0,V.int 1)]))) p0=some (.dK (ay [(0,1)])):=c_;generalize upd (upd H p0 (.dK [])) p0 (.dK (eV [] [(Sum.inl 0,V.int 1)]))=H0 at s0 u0⊢;show⟨_,μ,r,μ,⟨_,ae.of (s0 _ _ aT)⟩,Y_ (K:=K) (a:=r) (xs:=ws.map V.int) (λi σ H2=>∃p v3 v4 v5 v6 v7,σ=[some (.int b),some (.ref r),some (.ref p),v3,v4,v5,v6,v7]/\af H H2/\H p=none/\H2 p=some (.dK (ay (Me.aN b (ws.take i))))) ⟨p0,none,none,none,none,none,μ,s0,gQ,u0⟩ (λi σ H2 _ h=>by obtain⟨_,_,_,_,_,_,_,s2,_⟩:=h;show ae.of (s2 _ _ aT)) ?_ ?_⟩
  .rintro i x σ H2 hx ⟨a,v3,v4,v5,v6,v7,rfl,s2,na,ha⟩;have gO:i<ws.length:=by have:=(a1I.mp hx).1;simpa using this
   obtain⟨wt,hy,rfl⟩:∃y:Int,ws[i]?=some y/\x=.int y:=by
    rw[a1O] at hx
    cases e:ws[i]? with
    | none=>rw[e] at hx;cases hx
    | some d=>rw[e] at hx;show⟨d,μ,(a1Q hx).symm⟩
   have mT:=hw wt (a1K hy);have ok:=CT (i:=i) hw hb;have ew:=Me.xP (b:=b) hy;generalize Me.aN b (ws.take i)=f at ha ok ew;intro l hl;have lu:a≠l:=l_ ha hl;have hlH:H l=none:=s2.free hl;show⟨_,μ,a,ay f,μ,(by rw[j_ lu];show ha),λo=>qI (λj σ H3=>∃v5 v6 v7,σ=[some (.int b),some (.ref r),some (.ref a),some (.int wt),some (.ref l),v5,v6,v7]/\H3 a=some (.bE o (.dK (ay f)))/\Kp [a] H2 H3/\H3 l=some (.dK (ay (Me.U_ (f.take j) b wt)))) ⟨v5,v6,v7,μ,c_,dL (dL Kp.refl (.inr hl)) (.inl θ),?_⟩ (λj σ H3 _ h=>by obtain⟨_,_,_,_,z,_⟩:=h;show z) ?_ ?_⟩;.rw[j_ lu.symm,c_];rfl
   .rintro j kk v σ H3 hk ⟨v5,v6,v7,rfl,fa,kp,bz⟩;obtain⟨p,hp,rfl,rfl⟩:=oZ hk;have pm:=a1K hp;have pb:=ok.bd p.1 (a1U.mpr ⟨p,pm,μ⟩);have o0:=Me.qO ok mT hb j;show⟨_,μ,_,μ,Z,Z,H_ (n:=(b:Int).toNat) (λd σ H4=>∃v6 v7,σ=[some (.int b),some (.ref r),some (.ref a),some (.int wt),some (.ref l),some (.int p.1),v6,v7]/\H4 a=some (.bE o (.dK (ay f)))/\Kp [a] H2 H4/\H4 l=some (.dK (ay (Me.dA p wt d (Me.U_ (f.take j) b wt))))) ⟨v6,v7,μ,fa,kp,bz⟩ ?_ ?_⟩
    .rintro d σ H4 hd ⟨v6,v7,rfl,lw,o7,cv⟩;have eD:d<b:=by lia
     have od:=Me.t8 pb mT hb o0 d Z;have a1C:=Me.Ok.len (m:=135*i+135) (by push_cast at od⊢;show od);show⟨_,μ,_,μ,_,μ,_,_,μ,μ,.inr ⟨Z,Z⟩,_,_,μ,μ,(⟨_,μ,l,μ,.inl ⟨_,.inl cv⟩,_,μ,_,L_ (.inl cv),_,μ,_,μ,a,.int p.2,μ,?_,_,_,mM _,μ,_,μ,_,μ,l,_,μ,ue cv Z,?_⟩)⟩
     .have z:=L_ (k:=p.1) (.inr ⟨o,lw⟩);rw[Me.gN ok.nd pm] at z;show z
     .show⟨_,_,μ,?_,dL o7 (.inr hl),?_⟩;.rw[j_ lu];show lw
      .rw[c_,Me.jP];have e0:(0:Int)+(d:Int)=(d:Int):=a2N _;rw[e0];rfl
    .rintro σ H4 ⟨v6,v7,rfl,lw,o7,cv⟩;show⟨_,_,_,μ,lw,o7,?_⟩;have eb:(b:Int).toNat=b:=by lia
     rw[eb] at cv;rw[Me.xO hp];show cv
   .rintro σ H3 ⟨v5,v6,v7,rfl,fa,kp,bz⟩;have el:(ay f).length=f.length:=by rw[ay,a1H]
    rw[el,a1T] at bz
    show⟨a,o,ay f,fa,(λo' u z=>by
     have z':H a=some (.bE o' u):=z;rw[na] at z';cases z'),_,μ,l,_,_,_,_,_,μ,λx ob e=>?_,hlH,?_⟩
    .have e2:=s2 x ob e;have hx:x≠a:=l_ e na;rw[j_ hx];show kp x ob e2 (by simpa using hx)
    .rw[j_ lu.symm,ew];show bz
  .rintro σ H2 ⟨p,v3,v4,v5,v6,v7,rfl,s2,np,hp⟩;rw[a1H,a1T] at hp;show⟨_,μ,k p H2 np s2 hp⟩
def OQ:aS ["frame","found","at","size"] ["frame"] (h_ Cg):=⟨μ,μ,μ,ξ,μ,ξ,ξ⟩
def qD_(F:aM K "_law_cut" "_law_cut" Cg f fd):aA P w K mg base aI 1 f fd ["frame"] vp:=by
 show F.ok OQ λao A outer s H vs Q E hr h=>?_
 .obtain⟨g,a,r,b,ps,xs,rfl,G,k⟩:=h;have nd:=OQ.nd;show⟨_,(b_ (i_ 1 (x_ d_)) (b_ (i_ 2 e_) (b_ (B_ PassesOwn.never μ (I_ (aW (pv 0) e_)) (k_ 3) (b_ (G_ (fk PySem.F.plainAttrs_list PySem.F.slot_list_append PySem.F.type_list_append K_ (pv 1) (a_ (jH kN (aW (pv 0) e_) (gH (pv 2)) (gH (n_ u_ (pv 2) (pv 3)))) d_))) (g_ (i_ 2 (n_ u_ (pv 2) (pv 3)))))) (g_ (m_ (pv 1)))))),?_⟩;have l4:=G.ok.l4;have aT:=G.hw;show⟨sz ζ,λp hp=>?_⟩;have s1:af H (upd H p (.lst [])):=f_ hp;have G1:=G.keep s1;show⟨_,μ,_,_,_,_,μ,μ,aB.of G1.tp,μ,a,μ,⟨_,ae.of G1.hp⟩,Y_ (K:=K) (λi σ H2=>∃(qs:List Addr) (v4:Option V),σ=[some (.ref g),some (.ref p),some (.int (((ps.take i).sum:Nat):Int)),v4]/\ af H H2/\H2 p=some (.lst (qs.map V.ref))/\qs.length=i/\lq H2 qs ((Ma.ar ps xs).take i)) ⟨[],none,μ,s1,c_,μ,.nil⟩ (λi σ H2 _ h=>by obtain⟨_,_,_,s2,_⟩:=h;show ae.of (s2 _ _ G.hp)) ?_ ?_⟩
  .rintro i x σ H2 hx ⟨qs,v4,rfl,s2,cG,bz,rows⟩
   have hi:i<ps.length:=by
    have:=(a1I.mp hx).1;simpa [az] using this
   have e:ps[i]?=some ps[i]:=by simp[hi]
   have ex:x=V.int ((ps[i]:Nat):Int):=by
    have:(az ps)[i]?=some (V.int ((ps[i]:Nat):Int)):=by simp[az,hi]
    rw[this] at hx;show(a1Q hx).symm
   subst ex;show⟨_,μ,.inl ⟨μ,_,ae.of cG⟩,_,μ,_,_,_,_,μ,μ,aB.of (s2 _ _ G.tp),μ,_,μ,_,μ,_,μ,_,μ,_,_,μ,μ,_,μ,r,_,μ,ae.of (s2 _ _ aT),λq hq=>?_⟩;have pq:p≠q:=l_ cG hq;show⟨p,_,_,μ,μ,(by rw[j_ pq];show cG),bK (by rw[a1H];lia),⟨_,μ,_,μ,_,_,μ,μ,qs++[q],some (.int ((ps[i]:Nat):Int)),?_,N_ (N_ s2 (s2.free hq)) hp,?_,by simp[bz],?_⟩⟩
   .rw[a1P,e,a2q];simp
   .rw[c_];simp
   .rw[a1P,Ma.oB ps xs i ps[i] e];show Paired.snoc (lq.xU (λbb hb row z=>?_) rows) ?_
    .have bp:bb≠p:=sD z cG (by
      intro e;have e':row.map V.int=qs.map V.ref:=by injection e
      have m1:V.ref bb∈row.map V.int:=by rw[e'];show a1U.mpr ⟨bb,hb,μ⟩
      obtain⟨_,_,m2⟩:=a1U.mp m1;cases m2);rw[j_ bp,j_ (l_ z hq)];show z
    .rw[j_ pq.symm,c_,xV,<-a4H,<-a5b]
  .rintro σ H2 ⟨qs,v4,rfl,s2,cG,bz,rows⟩;show⟨_,μ,k p qs H2 s2 hp cG ?_⟩;have e:(az ps).length=(Ma.ar ps xs).length:=by rw[Ma.D_];simp[az]
   rw[e,a1T] at rows;show rows
end Hv
namespace Me
theorem OR(b:Nat)(rows:List (List Int)):∀ks:List Int,cD (dM b rows ks)=(ks.map λk=>ce b rows k).sum
 | []=>rfl
 | k::r=>by
  have ih:=OR b rows r;have h0:=Ln b rows k;unfold dM at ih⊢;by_cases h:0<ce b rows k
  .rw[a4p (by simpa using h),a2f];simp only[cD,a2f,a2b] at ih⊢;rw[ih]
  .rw[a4q (by simpa using h),a2f,a2b,ih];lia
end Me
namespace Hv
open PySem L2
def pX{qs:List Addr}{i:Nat}(h:(qs.map V.ref)[i]?=some x):∃q,qs[i]?=some q/\x=.ref q:=by
 rw[a1O] at h
 cases e:qs[i]? with
 | none=>rw[e] at h;cases h
 | some d=>rw[e] at h;show⟨d,μ,(a1Q h).symm⟩
def OS:aS ["frame","rows","total","here","ways","row"] ["frame"] (h_ xq):=⟨μ,μ,μ,ξ,μ,ξ,ξ⟩
def nX_(F:aM K "_law_even" "_law_even" xq f fd)(T:Txt mg)(r9:ak P w K mg base 1 "_law_part" ["base","weights"] vo)(sd:ak P w K mg base 1 "_law_cut" ["frame"] vp):aA P w K mg base aI 2 f fd ["frame"] lG:=by
 show F.ok OS λao A outer s H vs Q E hr h=>?_
 .obtain⟨g,a,c,b,ps,ws,rfl,G,k⟩:=h;have nd:=OS.nd;have hu:=ic hr;show⟨_,(b_ (qw (h_ xq) ["frame","rows","total","here","ways","row"] ["frame"] [0] (i:=1) nd μ (Or.inl μ) μ (I_ (o_ sd hr η (a_ (pv 0) d_))) (λcl C s H fp=>fm) (λcl C s H fp=>(o_ r9 hr η (a_ (wS K μ (pv 1) e_) (a_ (pv 0) d_)))) ξ η) (b_ (i_ 2 e_) (b_ (B_ PassesOwn.never μ (oM (bf (pv 1) e_)) (k_ 3) (b_ (i_ 4 (kZ hu (bf (pv 1) e_) (pv 3) (λ_ _=>rfl))) (b_ (B_ PassesOwn.never μ (I_ (jH kN (pv 1) (gH e_) qj)) (k_ 5) (g_ (i_ 4 (n_ Q_ (pv 4) (mE hu (pv 5) (pv 3) e_ ⟨μ,μ,μ,μ⟩))))) (g_ (i_ 2 (n_ u_ (pv 2) (pv 4))))))) (qH (g_ (m_ (pv 2))))))),?_⟩;have ok:=G.ok;have b0:0<b:=by have:=ok.b2;lia
  have l4:=ok.l4;have l2:=ok.l2;show⟨_,μ,g,a,c,b,ps,ws,μ,G,λp0 jA H1 s1 gQ iS rows=>?_⟩
  have gw:jA.length=ps.length:=by
   have e:jA.length=(Ma.ar ps ws).length:=rows.length;rw[e,Ma.D_]
  show⟨p0,μ,⟨_,ae.of iS⟩,S_ (K:=K) (a:=p0) (xs:=jA.map V.ref) (λi ys H'=>∃ts,ys=ts.map V.ref/\ts.length=i/\af H1 H'/\Paired (λq row=>H' q=some (.dK (ay (Me.aN b row)))) ts ((Ma.ar ps ws).take i)) ⟨[],μ,μ,af.refl _,.nil⟩ (λi ys H' _ h=>by obtain⟨_,_,_,s',_⟩:=h;show ae.of (s' _ _ iS)) ?_ ?_⟩
  .rintro i x ys H' hx ⟨ts,rfl,bP,s',wa⟩;have gO:i<jA.length:=by have:=(a1I.mp hx).1;simpa using this
   obtain⟨q,hq,rfl⟩:=pX hx;obtain⟨row,hj,aT⟩:=oX rows hq;have hw:=λy hy=>ok.wr y (Ma.iK (a1K hj) y hy);have gP:=Ma.O_ (λp hp=>(ok.pr p hp).2) (a1K hj);show⟨bK (by rw[a1H];lia),_,μ,_,_,_,_,μ,μ,aB.of ((G.keep s1).keep s').tp,μ,_,μ,b,q,row,μ,s' _ _ aT,G.ok.b8,hw,gP,λp' H3 np s3 gR=>⟨ts++[p'],θ,by simp[bP],s'.trans s3,?_⟩⟩;rw[a1P,hj];show Paired.snoc (L2.Paired.fE wa λq1 il e1=>s3 _ _ e1) gR
  rintro ys H2 ⟨qs,rfl,bP,s2,wa⟩ p hp;have e:(jA.map V.ref).length=(Ma.ar ps ws).length:=by rw[a1H,Ma.D_];show gw
  rw[e,a1T] at wa;have sp:=f_ (o:=.lst (qs.map V.ref)) hp;have up:(upd H2 p (.lst (qs.map V.ref))) p=some (.lst (qs.map V.ref)):=c_;have S2:=s1.trans (s2.trans sp);have wa:=L2.Paired.fE wa λq1 il e1=>sp _ _ e1;generalize upd H2 p (.lst (qs.map V.ref))=H3 at sp up S2 wa⊢;have OT:qs.length=(Ma.ar ps ws).length:=wa.length;obtain⟨row,aT⟩:∃row,(Ma.ar ps ws)[0]?=some row:=⟨(Ma.ar ps ws)[0]'(by rw[Ma.D_];lia),θ⟩;obtain⟨q,hq⟩:∃q,qs[0]?=some q:=⟨qs[0]'(by rw[OT,Ma.D_];lia),θ⟩;obtain⟨fB,pd,q3⟩:=oX wa hq;have er:fB=row:=by rw[aT] at pd;show(a1Q pd).symm
  subst er;have CW:=λy hy=>ok.wr y (Ma.iK (a1K aT) y hy);have wF:=Ma.O_ (λp hp=>(ok.pr p hp).2) (a1K aT);have pc:=Me.qP (b:=b) CW G.ok.b8;have uh:=pc.nd;have CY:q≠p:=sD q3 up (by intro z;cases z);have oo:df (qs.map V.ref) 0=some (.ref q):=Z_ (j:=0) (by rw[a1O,hq];rfl);have eT:=Mx.Mz b0 Z ok.wl aT;rw[Me.OR] at eT;generalize eg:Me.aN b fB=g0 at q3 uh eT;show⟨_,μ,_,_,_,_,μ,μ,ae.of up,oo,q,ay g0,μ,q3,λo=>qI (λi σ H'=>∃v3 v4 v5,σ=[some (.ref g),some (.ref p),some (.int (((Me.keys g0).take i).map λk=>Me.ce b (Ma.ar ps ws) k).sum),v3,v4,v5]/\H' q=some (.bE o (.dK (ay g0)))/\(∀x ob,x≠q->H3 x=some ob->H' x=some ob)) ⟨none,none,none,μ,c_,λx ob hx e=>by rw[j_ hx];show e⟩ (λi σ H' _ h=>by obtain⟨_,_,_,_,z,_⟩:=h;show z) ?_ ?_⟩
  .rintro i kk v σ H' hk ⟨v3,v4,v5,rfl,fq,kp⟩;obtain⟨pr,jq,rfl,rfl⟩:=oZ hk;have yi:(Me.keys g0)[i]?=some pr.1:=by rw[Me.keys,a1O,jq];rfl
   have p':=kp p _ CY.symm up
   have wr:Paired (λq1 il=>Rd H' q1 (.dK (ay (Me.aN b il)))) qs (Ma.ar ps ws):=L2.Paired.fE wa λq1 il e1=>by
    by_cases e:q1=q
    .subst e;have eg:ay (Me.aN b il)=ay g0:=by rw[e1] at q3;injection q3 with q3;injection q3
     show .inr ⟨o,by rw[eg];show fq⟩
    .show .inl (kp q1 _ e e1)
   have d0:eU H' q (.int pr.1) (some (.int pr.2)):=by
    have z:=L_ (k:=pr.1) (.inr ⟨o,fq⟩);rw[Me.gN uh (a1K jq)] at z;show z
   have a0D:pr.2=Me.ce b ((Ma.ar ps ws).take 1) pr.1:=by
    have z:=Me.CV (b:=b) (t:=pr.1) aT;rw[z,eg,Me.gN uh (a1K jq)];simp[Me.ce]
   show⟨_,μ,_,_,_,_,μ,μ,ae.of p',oo,_,μ,q,.int pr.2,μ,d0,⟨_,μ,_,μ,p,_,μ,ae.of p',λl hl=>?_⟩⟩
   have FA:dc (qs.map V.ref) (some 1) none=(qs.drop 1).map V.ref:=by
    have:=ZD (xs:=qs.map V.ref) (k:=1);rw[a4H];show this
   rw[FA];have s5:=f_ (o:=.lst ((qs.drop 1).map V.ref)) hl;have u5:(upd H' l (.lst ((qs.drop 1).map V.ref))) l=_:=c_;have Ep:q≠l:=λz=>by rw[z,hl] at fq;cases fq
   generalize upd H' l (.lst ((qs.drop 1).map V.ref))=H5 at s5 u5⊢;show⟨l,μ,⟨_,ae.of u5⟩,Y_ (K:=K) (a:=l) (xs:=(qs.drop 1).map V.ref) (λj σ jz=>∃v5,σ=[some (.ref g),some (.ref p),some (.int (((Me.keys g0).take i).map λk=>Me.ce b (Ma.ar ps ws) k).sum),some (.int pr.1),some (.int (Me.ce b ((Ma.ar ps ws).take (j+1)) pr.1)),v5]/\H5=jz) ⟨v5,by rw[<-a0D];rfl,μ⟩ (λj σ jz _ h=>by obtain⟨_,_,e⟩:=h;show e▸?_;show ae.of u5) ?_ ?_⟩
   .rintro j x σ jz hx ⟨v5,rfl,rfl⟩;obtain⟨q1,rD,rfl⟩:=pX hx;rw[a4m,a4r] at rD;obtain⟨il,hj,oy⟩:=oX wr rD;have bV:=Ma.O_ (λp hp=>(ok.pr p hp).2) (a1K hj);obtain⟨v0,v1⟩:=Me.yf (b:=b) G.ok.b8 bV pr.1
    have OU:Rd H5 q1 (.dK (ay (Me.aN b il))):=by
     rcases oy with h | ⟨o',h⟩;.show .inl (s5 _ _ h)
     .show .inr ⟨o',s5 _ _ h⟩
    have cm:qh (Me.ce b ((Ma.ar ps ws).take (j+1)) pr.1) ((Me.look (Me.aN b il) pr.1).getD 0):=.inr ⟨Z,Z⟩;show⟨_,μ,_,μ,q1,μ,.inl ⟨_,OU⟩,_,μ,_,L_ OU,Me.ce b ((Ma.ar ps ws).take (j+1)) pr.1,(Me.look (Me.aN b il) pr.1).getD 0,μ,mM _,cm,some (.ref q1),?_,μ⟩;rw[Me.CV hj];rfl
   rintro σ jz ⟨v5,rfl,rfl⟩
   have e:((qs.drop 1).map V.ref).length+1=(Ma.ar ps ws).length:=by
    rw[a1H,a2k,OT,Ma.D_];lia
   rw[e,a1T];show⟨_,μ,_,μ,_,_,μ,μ,some (.int pr.1),some (.int (Me.ce b (Ma.ar ps ws) pr.1)),v5,?_,s5 _ _ fq,λx ob hx e=>s5 _ _ (kp x ob hx e)⟩;rw[a1P,yi,a2i,a2q];simp
  .rintro σ H' ⟨v3,v4,v5,rfl,fq,kp⟩;have el:(ay g0).length=(Me.keys g0).length:=by rw[ay,Me.keys,a1H,a1H]
   show el▸a1T▸eT▸?_;show⟨q,o,ay g0,fq,(λo' u z=>?_),_,μ,k _ (λx ob e=>?_)⟩
   .have z':H q=some (.bE o' u):=z;have:=S2 _ _ z';rw[q3] at this;cases this
   .by_cases hx:x=q
    .have:=S2 _ _ e;rw[hx] at this;rw[hx,c_,<-this,q3]
    .rw[j_ hx];show kp x ob hx (S2 _ _ e)
def lW_{d i e:Nat}(up:∀f∈fs,∀t,high<t->f t=0){wide:Nat}(hw:(wide:Int)=high-low+1)(hi:i<wide)(he:(e:Int)=if (wide:Int)<(i:Int)+d+1 then (wide:Int) else (i:Int)+d+1) : Mq.pr fs (low+i) (e-i)-Mq.pr fs (low+i+1) (e-(i+1))=Mq.cQ fs d (low+i):=by
 unfold Mq.cQ;by_cases hc: wide <(i:Int)+d+1
 .rw[if_pos hc] at he;rw[Mq.yl (m:=d+1) λf hf=>Mq.yk (up f hf) (by lia)<|by push_cast;lia, Mq.yl (n:=e-(i+1)) (m:=d) λf hf=>Mq.yk (up f hf) (by lia)<|by lia]
 .rw[if_neg hc] at he;have e1:e-i=d+1:=by lia
  have e2:e-(i+1)=d:=by lia
  rw[e1,e2]
def jr.xU{ts:List Addr}(hu:H u=some (.lst (ts.map V.ref)))(s:∀x o,x≠u->H x=some o->H' x=some o)(h:jr H lo n rs rows):jr H' lo n rs rows:=L2.Paired.fE h λq row e=>by
 show s q _ (λz=>?_) e;subst z;rw[hu] at e;injection e with e;injection e with e;have h0:=pw (f:=λt=>Me.gv row t) (lo:=lo) (n:=n) (k:=0) Z;rw[<-e,a1O] at h0
 cases e0:ts[0]? with
 | none=>rw[e0] at h0;cases h0
 | some d=>rw[e0] at h0;cases h0
def OV:aS ["frame","d","rows","low","size","added","row","some","at","total","end","both"] ["frame","d"] (h_ qD):=⟨μ,μ,μ,ξ,μ,ξ,ξ⟩
def nQ_(F:aM K "_law_near" "_law_near" qD f fd)(T:Txt mg)(r9:ak P w K mg base 1 "_law_part" ["base","weights"] vo)(sd:ak P w K mg base 1 "_law_cut" ["frame"] vp):aA P w K mg base aI 2 f fd ["frame","d"] mZ:=by
 show F.ok OV λao A outer s H vs Q E hr h=>?_
 .obtain⟨g,a,c,b,ps,ws,d,rfl,G,k⟩:=h;have nd:=OV.nd;have hu:=ic hr;show⟨_,(b_ (qw (h_ qD) ["frame","d","rows","low","size","added","row","some","at","total","end","both"] ["frame"] [0] (i:=2) nd μ (Or.inl μ) μ (I_ (o_ sd hr η (a_ (pv 0) d_))) (λcl C s H fp=>fm) (λcl C s H fp=>(o_ r9 hr η (a_ (wS K μ (pv 1) e_) (a_ (pv 0) d_)))) ξ η) (b_ (i_ 3 (p_ (tP μ) η T.min boot_min (a_ (jg (h_ qD) ["frame","d","rows","low","size","added","row","some","at","total","end","both"] [] [] μ (I_ (pv 2)) (λcl C s H fp=>fm) (λcl C s H fp=>(p_ (KZ μ) η T.min boot_min (a_ (pv 0) d_))) ξ) d_))) (b_ (i_ 4 (n_ u_ (n_ R_ (p_ (xE μ) η T.max boot_max (a_ (jg (h_ qD) ["frame","d","rows","low","size","added","row","some","at","total","end","both"] [] [] μ (I_ (pv 2)) (λcl C s H fp=>fm) (λcl C s H fp=>(p_ (KY μ) η T.max boot_max (a_ (pv 0) d_))) ξ) d_)) (pv 3)) e_)) (b_ (i_ 5 (x_ d_)) (b_ (B_ PassesOwn.never μ (I_ (pv 2)) (k_ 6) (b_ (i_ 7 (x_ (a_ e_ d_))) (b_ (B_ PassesOwn.never μ (z_ η T.range (a_ (pv 4) d_)) (k_ 8) (g_ (G_ (fk PySem.F.plainAttrs_list PySem.F.slot_list_append PySem.F.type_list_append K_ (pv 7) (a_ (n_ u_ (bf (pv 7) (eO eQ e_)) (mE hu (pv 6) (n_ u_ (pv 3) (pv 8)) e_ ⟨μ,μ,μ,μ⟩)) d_))))) (g_ (G_ (fk PySem.F.plainAttrs_list PySem.F.slot_list_append PySem.F.type_list_append K_ (pv 5) (a_ (pv 7) d_))))))) (b_ (i_ 9 e_) (b_ (B_ PassesOwn.never μ (z_ η T.range (a_ (pv 4) d_)) (k_ 8) (b_ (i_ 10 (p_ (sL μ) η T.min boot_min (a_ (n_ u_ (n_ u_ (pv 8) (pv 1)) e_) (a_ (pv 4) d_)))) (b_ (i_ 11 (x_ (a_ e_ (a_ e_ d_)))) (b_ (B_ PassesOwn.never μ (I_ (pv 5)) (k_ 7) (b_ (eJ (n_ Q_ (bf (pv 11) e_) (n_ R_ (bf (pv 7) (pv 10)) (bf (pv 7) (pv 8)))) (nV (pv 11) e_ oj)) (g_ (eJ (n_ Q_ (bf (pv 11) e_) (n_ R_ (bf (pv 7) (pv 10)) (bf (pv 7) (n_ u_ (pv 8) e_)))) (nV (pv 11) e_ oj))))) (g_ (i_ 9 (n_ R_ (n_ u_ (pv 9) (bf (pv 11) e_)) (bf (pv 11) e_)))))))) (g_ (m_ (pv 9)))))))))),?_⟩;have ok:=G.ok;have b0:0<b:=by have:=ok.b2;lia
  have l4:=ok.l4;have l2:=ok.l2;show⟨_,μ,g,a,c,b,ps,ws,μ,G,λp0 jA H1 s1 gQ iS FL=>?_⟩
  have OW:jA.length=ps.length:=by
   have e:jA.length=(Ma.ar ps ws).length:=FL.length;rw[e,Ma.D_]
  show⟨p0,μ,⟨_,ae.of iS⟩,S_ (K:=K) (a:=p0) (xs:=jA.map V.ref) (λi ys H'=>∃ts,ys=ts.map V.ref/\ts.length=i/\af H1 H'/\Paired (λq row=>H' q=some (.dK (ay (Me.aN b row)))) ts ((Ma.ar ps ws).take i)) ⟨[],μ,μ,af.refl _,.nil⟩ (λi ys H' _ h=>by obtain⟨_,_,_,s',_⟩:=h;show ae.of (s' _ _ iS)) ?_ ?_⟩
  .rintro i x ys H' hx ⟨ts,rfl,bP,s',wa⟩;have gO:i<jA.length:=by have:=(a1I.mp hx).1;simpa using this
   obtain⟨q,hq,rfl⟩:=pX hx;obtain⟨row,hj,aT⟩:=oX FL hq;have hw:=λy hy=>ok.wr y (Ma.iK (a1K hj) y hy);have gP:=Ma.O_ (λp hp=>(ok.pr p hp).2) (a1K hj);show⟨bK (by rw[a1H];lia),_,μ,_,_,_,_,μ,μ,aB.of ((G.keep s1).keep s').tp,μ,_,μ,b,q,row,μ,s' _ _ aT,G.ok.b8,hw,gP,λp' H3 np s3 gR=>⟨ts++[p'],θ,by simp[bP],s'.trans s3,?_⟩⟩;rw[a1P,hj];show Paired.snoc (L2.Paired.fE wa λq1 il e1=>s3 _ _ e1) gR
  rintro ys H2 ⟨qs,rfl,bP,s2,wa⟩ p hp;have e:(jA.map V.ref).length=(Ma.ar ps ws).length:=by rw[a1H,Ma.D_];show OW
  rw[e,a1T] at wa;have sp:=f_ (o:=.lst (qs.map V.ref)) hp;have up:(upd H2 p (.lst (qs.map V.ref))) p=some (.lst (qs.map V.ref)):=c_;have S2:=s1.trans (s2.trans sp);have wa:=L2.Paired.fE wa λq1 il e1=>sp _ _ e1;generalize upd H2 p (.lst (qs.map V.ref))=H4 at sp up S2 wa⊢;obtain⟨rows,wg,pg⟩:=DZ (H:=H4) (b:=b) (qs:=qs) (rows:=Ma.ar ps ws) (L2.Paired.fE wa λq1 il e1=>⟨_,e1,List.Perm.refl _⟩);have gl:rows.length=ps.length:=by rw[pg.length,Ma.D_]
  have dk:∀g∈rows,Me.fM g:=λg hg=>by
   obtain⟨row,aT,perm⟩:=D9 pg g hg;show Mx.MA b0 ok.b8 (λy hy=>ok.wr y (Ma.iK aT y hy)) (Ma.O_ (λp hp=>(ok.pr p hp).2) aT) perm
  rw[<-Mx.My b0 Z ok.wl pg dk d] at k;have gw:qs.length=rows.length:=wg.length;clear wa OW FL bP e;show⟨_,μ,p,μ,⟨_,ae.of up⟩,S_ (K:=K) (a:=p) (xs:=qs.map V.ref) (λi ys H2=>ys=(Me.bq (rows.take i)).map V.int/\H4=H2) ⟨μ,μ⟩ (λi ys H2 _ h=>by show h.2▸?_;show ae.of up) ?_ ?_⟩
  .rintro i x ys H2 hx ⟨rfl,rfl⟩;obtain⟨q,hq,rfl⟩:=pX hx;have gO:i<qs.length:=(a1I.mp hq).1;obtain⟨gg,hj,hg⟩:=lz wg hq;have kl:=(dk gg (a1K hj)).ne;show⟨bK (by simp[Me.bq];lia),_,μ,q,ay gg,Me.keys gg,μ,.inl hg,by simp[ay,Me.keys],kl,?_,μ⟩;rw[a1P,hj];simp[Me.bq]
  rintro ys H5 ⟨rfl,rfl⟩ l1 h1;rw[a1H,gw,a1T];have s5:=f_ (o:=.lst ((Me.bq rows).map V.int)) h1;have u5:upd H4 l1 (.lst ((Me.bq rows).map V.int)) l1=some (.lst ((Me.bq rows).map V.int)):=c_;generalize upd H4 l1 (.lst ((Me.bq rows).map V.int))=H5 at s5 u5⊢;have nl:0<(Me.bq rows).length:=by rw[Me.bq,a1H];lia
  have nh:0<(Me.bx rows).length:=by rw[Me.bx,a1H];lia
  show⟨l1,Me.bq rows,μ,ae.of u5,nl,?_⟩;have pD:=s5 _ _ up;have OX:=mQ.keep wg s5;show⟨_,μ,p,μ,⟨_,ae.of pD⟩,S_ (K:=K) (a:=p) (xs:=qs.map V.ref) (λi ys H2=>ys=(Me.bx (rows.take i)).map V.int/\H5=H2) ⟨μ,μ⟩ (λi ys H2 _ h=>by rw[<-h.2];show ae.of pD) ?_ ?_⟩
  .rintro i x ys H2 hx ⟨rfl,rfl⟩;obtain⟨q,hq,rfl⟩:=pX hx;have gO:i<qs.length:=(a1I.mp hq).1;obtain⟨gg,hj,hg⟩:=lz OX hq;have kl:=(dk gg (a1K hj)).ne;show⟨bK (by simp[Me.bx];lia),_,μ,q,ay gg,Me.keys gg,μ,.inl hg,by simp[ay,Me.keys],kl,?_,μ⟩;rw[a1P,hj];simp[Me.bx]
  rintro ys H6 ⟨rfl,rfl⟩ oY h2;rw[a1H,gw,a1T];have s6:=f_ (o:=.lst ((Me.bx rows).map V.int)) h2;have u6:upd H5 oY (.lst ((Me.bx rows).map V.int)) oY=some (.lst ((Me.bx rows).map V.int)):=c_;generalize upd H5 oY (.lst ((Me.bx rows).map V.int))=H8 at s6 u6⊢;show⟨oY,Me.bx rows,μ,ae.of u6,nh,_,μ,_,_,μ,μ,_,_,μ,μ,?_⟩;have S8:=S2.trans (s5.trans s6);have OY:=s6 _ _ pD;have wg8:=mQ.keep OX s6
  have OZ:∀f∈Me.fG rows,∀t,Ma.aP (Me.bx rows)<t->f t=0:=λf hf t ht=>by
   obtain⟨gg,iz,rfl⟩:=a1U.mp hf
   show Me.C4 (dk gg iz) (by
    have:=(Ma.w_ _ nh).2 _ (a1U.mpr ⟨gg,iz,μ⟩:Ma.aP (Me.keys gg)∈Me.bx rows);lia)
  have b1 : -810<=Ma.aK (Me.bq rows)/\Ma.aK (Me.bq rows)<=810:=by
   obtain⟨gg,iz,e⟩:=a1U.mp (Ma.v_ _ nl).1;have hm:=(Ma.v_ (Me.keys gg) (dk gg iz).ne).1;have:=(dk gg iz).bd _ hm;rw[<-e];show this
  have b2 : -810<=Ma.aP (Me.bx rows)/\Ma.aP (Me.bx rows)<=810:=by
   obtain⟨gg,iz,e⟩:=a1U.mp (Ma.w_ _ nh).1;have hm:=(Ma.w_ (Me.keys gg) (dk gg iz).ne).1;have:=(dk gg iz).bd _ hm;rw[<-e];show this
  have b3:Ma.aK (Me.bq rows)<=Ma.aP (Me.bx rows):=by
   obtain⟨gg,iz⟩:∃gg,gg∈rows:=⟨rows[0]'(by lia),a5d _⟩;have h1:=(Ma.v_ _ nl).2 _ (a1U.mpr ⟨gg,iz,μ⟩:Ma.aK (Me.keys gg)∈Me.bq rows);have h2:=(Ma.w_ _ nh).2 _ (a1U.mpr ⟨gg,iz,μ⟩:Ma.aP (Me.keys gg)∈Me.bx rows);have h3:=(Ma.v_ (Me.keys gg) (dk gg iz).ne).1;have h4:=(Ma.w_ (Me.keys gg) (dk gg iz).ne).2 _ h3;lia
  have a0E:Me.mP rows d=Mq.sm (Mq.cQ (Me.fG rows) d) (Ma.aK (Me.bq rows)) (Ma.aP (Me.bx rows)-Ma.aK (Me.bq rows)+1).toNat:=rfl;rw[a0E] at k;try dsimp only
  generalize Ma.aK (Me.bq rows)=low at k b1 b3⊢;generalize Ma.aP (Me.bx rows)=high at k b2 b3 OZ⊢;obtain⟨wide,O0⟩:∃wide:Nat,(wide:Int)=high-low+1:=⟨(high-low+1).toNat,Z⟩;have en2:(high-low+1).toNat=wide:=by lia
  rw[en2] at k;show O0▸?_;show⟨sz θ,λu mJ=>?_⟩;have s9:=f_ (o:=.lst []) mJ;show⟨_,μ,p,μ,⟨_,ae.of (s9 _ _ OY)⟩,Y_ (K:=K) (a:=p) (xs:=qs.map V.ref) (λi σ H'=>∃ts v6 v7 v8,σ=[some (.ref g),some (.int d),some (.ref p),some (.int low),some (.int (wide:Int)),some (.ref u),v6,v7,v8,none,none,none]/\af H8 H'/\H' u=some (.lst (ts.map V.ref))/\ts.length=i/\jr H' low wide ts (rows.take i)) ⟨[],none,none,none,μ,s9,c_,μ,.nil⟩ (λi σ H' _ h=>by obtain⟨_,_,_,_,_,s',_⟩:=h;show ae.of (s' _ _ OY)) ?_ ?_⟩
  .rintro i x σ H' hx ⟨ts,v6,v7,v8,rfl,s',Aa,bP,ra⟩;obtain⟨q,hq,rfl⟩:=pX hx;have gO:i<qs.length:=(a1I.mp hq).1;obtain⟨gg,hj,hg⟩:=lz wg8 hq;show⟨sz θ,λr cf=>?_⟩;have pP:=f_ (o:=.lst [.int 0]) cf;show⟨_,μ,_,μ,Z,Z,H_ (n:=(wide:Int).toNat) (λj σ G'=>∃v8,σ=[some (.ref g),some (.int d),some (.ref p),some (.int low),some (.int (wide:Int)),some (.ref u),some (.ref q),some (.ref r),v8,none,none,none]/\af H' G'/\G' r=some (.lst (iR (λt=>Me.gv gg t) low j))) ⟨v8,μ,pP,c_⟩ ?_ ?_⟩
   .rintro j σ G' Dl ⟨v8,rfl,sG,hG⟩;have O3:G' q=some (.dK (ay gg)):=sG _ _ (s' _ _ hg);show⟨_,μ,.inl ⟨μ,_,ae.of hG⟩,_,μ,1,μ,?_⟩;have e1:=Lb (λt=>Me.gv gg t) low j;show bU hG e1 ⟨_,μ,q,μ,.inl ⟨_,.inl O3⟩,_,μ,_,μ,_,_,μ,μ,_,L_ (.inl O3),_,_,μ,mM _,⟨r,_,_,μ,μ,hG,bK (by rw[La];lia),_,μ,N_ sG cf,?_⟩⟩;rw[c_,C6,a2N];rfl
   .rintro σ G' ⟨v8,rfl,sG,hG⟩;rw[show(wide:Int).toNat=wide by lia] at hG;have FM:=sG _ _ Aa;show⟨_,μ,.inl ⟨μ,_,ae.of FM⟩,_,μ,u,_,_,μ,μ,FM,bK (by rw[a1H];lia),ts++[r],_,_,_,μ,N_ (s'.trans sG) mJ,?_,by simp[bP],?_⟩;.rw[c_];simp
    .rw[a1P,hj];have nru:r≠u:=λz=>by rw[z] at cf;rw[Aa] at cf;cases cf
     show Paired.snoc (jr.xU FM (λx o hx e=>by rw[j_ hx];show e) (jr.keep sG ra)) (by rw[j_ nru];show hG)
  rintro σ H9 ⟨ts,v6,v7,v8,rfl,s9',Aa,bP,ra⟩;rw[a1H,gw,a1T] at ra;have DD:ts.length=rows.length:=ra.length;show⟨_,μ,_,μ,Z,Z,H_ (n:=(wide:Int).toNat) (λi σ G'=>∃v7 v8 bW bQ,σ=[some (.ref g),some (.int d),some (.ref p),some (.int low),some (.int (wide:Int)),some (.ref u),v6,v7,v8,some (.int (Mq.sm (Mq.cQ (Me.fG rows) d) low i)),bW,bQ]/\af H9 G') ⟨_,_,_,_,μ,af.refl _⟩ ?_ ?_⟩
  .rintro i σ G1 hi ⟨v7',v8',bW,bQ,rfl,vq⟩;have dh:i<wide:=by lia
   rw[a2N];show⟨_,μ,_,μ,_,_,μ,μ,_,_,μ,μ,_,μ,_,_,μ,?_⟩;try dsimp only
   obtain⟨e,he⟩:∃e:Nat,(e:Int)=if (wide:Int)<(i:Int)+d+1 then (wide:Int) else (i:Int)+d+1:=⟨(if (wide:Int)<(i:Int)+d+1 then (wide:Int) else (i:Int)+d+1).toNat,by split <;> lia⟩;rw[<-he];have he1:i+1<=e/\e<=wide:=by split at he <;> lia
   have wn:=lW_ (fs:=Me.fG rows) (d:=d) (i:=i) (e:=e) (low:=low) (high:=high) OZ O0 dh he;show⟨sz θ,λbo O4=>?_⟩;have sb:=f_ (o:=.lst ([1,1].map V.int)) O4;have ub:(upd G1 bo (.lst ([1,1].map V.int))) bo=_:=c_;have eb:upd G1 bo (.lst [V.int 1,V.int 1])=upd G1 bo (.lst ([1,1].map V.int)):=rfl;rw[eb];have O5:∀ {y:Addr} {o:HO},G1 y=some o->y≠bo:=λh z=>by rw[z,O4] at h;cases h
   have O6:=vq _ _ Aa;generalize upd G1 bo (.lst ([1,1].map V.int))=G2 at sb ub⊢;show⟨_,μ,u,μ,⟨_,ae.of (sb _ _ O6)⟩,Y_ (K:=K) (a:=u) (xs:=ts.map V.ref) (λj σ G'=>∃v7,σ=[some (.ref g),some (.int d),some (.ref p),some (.int low),some (.int (wide:Int)),some (.ref u),v6,v7,some (.int (i:Int)),some (.int (Mq.sm (Mq.cQ (Me.fG rows) d) low i)),some (.int (e:Int)),some (.ref bo)]/\af G1 G'/\G' bo=some (.lst ([Mq.pr (Me.fG (rows.take j)) (low+i) (e-i),Mq.pr (Me.fG (rows.take j)) (low+i+1) (e-(i+1))].map V.int))) ⟨_,μ,sb,ub⟩ (λj σ G' _ h=>by obtain⟨_,_,e,_⟩:=h;show ae.of (e _ _ O6)) ?_ ?_⟩
   .rintro j x σ G3 hx ⟨O7,rfl,Ab,se⟩;obtain⟨q,hq,rfl⟩:=pX hx;obtain⟨gg,hj,aT⟩:=lz ra hq;have O8:=vq _ _ aT;have O9:=Ab _ _ O8;have hl:=dk gg (a1K hj);have bd:=Me.yn (f:=λt=>Me.gv gg t) hl.val (low+i) (e-i);have bd2:=Me.yn (f:=λt=>Me.gv gg t) hl.val (low+i+1) (e-(i+1));show⟨_,μ,_,_,_,_,μ,μ,ae.of se,μ,_,μ,_,μ,bU O9 (Z_ (pw Z)) ⟨_,μ,_,μ,bU O9 (Z_ (pw Z)) ⟨_,_,μ,μ,?_⟩⟩⟩;try dsimp only
    rw[C9 _ _ (show i<=e by lia)];show⟨_,_,μ,μ,.inr ⟨Z,Z⟩,_,μ,bo,_,_,0,μ,μ,se,μ,?_⟩;have s4:af G1 (upd G3 bo (.lst ([Mq.pr (Me.fG (rows.take j)) (low+i) (e-i)*Mq.sm (λt=>Me.gv gg t) (low+i) (e-i),Mq.pr (Me.fG (rows.take j)) (low+i+1) (e-(i+1))].map V.int))):=λy o h=>by rw[j_ (O5 h)];show Ab _ _ h
    have u4:(upd G3 bo (.lst ([Mq.pr (Me.fG (rows.take j)) (low+i) (e-i)*Mq.sm (λt=>Me.gv gg t) (low+i) (e-i),Mq.pr (Me.fG (rows.take j)) (low+i+1) (e-(i+1))].map V.int))) bo=_:=c_;have e4:upd G3 bo (.lst (List.set ([Mq.pr (Me.fG (rows.take j)) (low+i) (e-i),Mq.pr (Me.fG (rows.take j)) (low+i+1) (e-(i+1))].map V.int) 0 (V.int (Mq.pr (Me.fG (rows.take j)) (low+i) (e-i)*Mq.sm (λt=>Me.gv gg t) (low+i) (e-i)))))=upd G3 bo (.lst ([Mq.pr (Me.fG (rows.take j)) (low+i) (e-i)*Mq.sm (λt=>Me.gv gg t) (low+i) (e-i),Mq.pr (Me.fG (rows.take j)) (low+i+1) (e-(i+1))].map V.int)):=rfl;rw[e4];generalize upd G3 bo (.lst ([Mq.pr (Me.fG (rows.take j)) (low+i) (e-i)*Mq.sm (λt=>Me.gv gg t) (low+i) (e-i),Mq.pr (Me.fG (rows.take j)) (low+i+1) (e-(i+1))].map V.int))=G4 at s4 u4⊢;have Pa:=s4 _ _ O8;show⟨_,μ,_,_,_,_,μ,μ,ae.of u4,μ,_,μ,_,μ,bU Pa (Z_ (pw Z)) ⟨_,μ,_,μ,_,_,μ,μ,?_⟩⟩;try dsimp only
    rw[show(i:Int)+1=((i+1:Nat):Int) by push_cast;lia];show bU Pa (Z_ (pw Z)) ⟨_,_,μ,μ,?_⟩;try dsimp only
    rw[C9 _ _ (show i+1<=e by lia)];have e3:low+((i+1:Nat):Int)=low+(i:Int)+1:=by push_cast;lia
    rw[e3];show⟨_,_,μ,μ,.inr ⟨Z,Z⟩,_,μ,bo,_,_,1,μ,μ,u4,μ,some (.ref q),μ,λy o h=>by rw[j_ (O5 h)];show s4 _ _ h,?_⟩;rw[c_,Da hj,Da hj];rfl
   .rintro σ G3 ⟨O7,rfl,Ab,se⟩;rw[a1H,DD,a1T] at se;show⟨_,μ,_,μ,_,_,_,_,μ,μ,ae.of se,μ,_,_,μ,μ,_,μ,_,_,_,_,μ,μ,ae.of se,μ,_,_,μ,μ,O7,some (.int (i:Int)),some (.int (e:Int)),some (.ref bo),?_,vq.trans Ab⟩
    have e:Mq.sm (Mq.cQ (Me.fG rows) d) low (i+1)=Mq.sm (Mq.cQ (Me.fG rows) d) low i+Mq.pr (Me.fG rows) (low+i) (e-i)-Mq.pr (Me.fG rows) (low+i+1) (e-(i+1)):=by
     rw[Mq.sm,<-wn];lia
    rw[e];rfl
  .rintro σ G1 ⟨v7',v8',bW,bQ,rfl,vq⟩;rw[show(wide:Int).toNat=wide by lia];show⟨_,μ,k _ ((S8.trans s9').trans vq)⟩
def me_(nk:H1 kp=none)(nd:H1 dx=none)(k2:Kp [kp] (upd (upd H1 dx o1) kp o2) H2):af H1 H2:=λy o e=>by
 have n1:y≠kp:=λz=>by rw[z,nk] at e;cases e
 have n2:y≠dx:=λz=>by rw[z,nd] at e;cases e
 show k2 y o (by rw[j_ n1,j_ n2];show e)<|by simpa using n1
def FN(nk:H1 kp=none)(nd:H1 dx=none)(h:(upd (upd H1 dx o1) kp o2) y=none):H1 y=none:=by
 by_cases n1:y=kp;.rw[n1];show nk
 .by_cases n2:y=dx;.rw[n2];show nd
  .rw[j_ n1,j_ n2] at h;show h
def qN_{R:Hp->Prop}(G1:aU H1 f' a' c' b ps ws)(nk:H1 kp=none)(nd:H1 dx=none) (k:∀ sl   x   H2 ,af H1 H2->bX C H2 kp dx sl [x] b ps [ws]->H1 sl=none->H1 x.2.1=none->H1 x.2.2=none->R H2) : uY C [.ref kp,.ref f'] (upd (upd H1 dx (.own kp)) kp (.ins C dx [])) (λv H2=>v=.ax/\R H2) E:=by
 have s1:af H1 (upd (upd H1 dx<|.own kp) kp<|.ins C dx []):=λy o e=>by rw[j_ (λz=>by rw[z,nk] at e;cases e),j_ (λz=>by rw[z,nd] at e;cases e)];show e
 show⟨kp,dx,f',a',c',b,ps,ws,μ,c_,G1.keep s1,λsl x H2 n1 n2 n3 n4 K2 k2=>⟨μ,k sl x H2 (me_ nk nd k2) K2 (FN nk nd n1) (FN nk nd n3)<|FN nk nd n4⟩⟩
def pY(cJ:List (List Int))(aV:List (Nat×Int)):Prop:=cJ.length=aV.length+1/\∀(i:Nat) (u v:List Int) (h:Nat×Int),cJ[i]?=some u->cJ[i+1]?=some v->aV[i]?=some h->u=v.set h.1 h.2
def pY.a0F{wz ws:List Int}(c:pY (i0++[wz]++[ws]) (h0++[(p,x)])):wz=ws.set p x/\pY (i0++[wz]) h0:=by
 have hl:=c.1;simp at hl;show⟨c.2 i0.length wz ws (p,x) θ ?_<|by simp_all,by simp;lia,λi u v h e1 e2 e3=>c.2 i u v h ?_ ?_ ?_⟩;.simp_all
 .rw[a1R (a1I.mp e1).1];show e1
 .rw[a1R (a1I.mp e2).1];show e2
 .rw[a1R (a1I.mp e3).1];show e3
def nw_{ws:List Int}(h:ws[p]?=some y):ws=(ws.set p x).set p y:=by
 rw[List.set_set];show a4t λi=>?_;rw[List.getElem?_set];split
 .rename_i e;subst e;rw[if_pos (a1I.mp h).1];show h
 .rfl
def pY.weigh(c:pY (aH++[ws]) aV)(h:ws[p]?=some y):pY (aH++[ws]++[ws.set p x]) (aV++[(p,y)]):=by
 have hl:=c.1;simp at hl;show⟨by simp;lia,λi u v g e1 e2 e3=>?_⟩;rcases On e3 with⟨hi,e3⟩ | ⟨rfl,rfl⟩
 .rw[a1R (by simp;lia)] at e1;rw[a1R (by simp;lia)] at e2;show c.2 i u v g e1 e2 e3
 .rw[<-hl,a2A,a1V (a1M _)] at e1;rw[show aV.length+1=(aH++[ws]).length by simp;lia,a1V (a1M _)] at e2;simp at e1 e2;subst e1;subst e2;show nw_ h
def jy.uniq(h1:jy ws aV d w1)(h2:jy ws aV d w2):w1=w2:=by
 rcases h1 with⟨e,_,rfl⟩ | ⟨pl,wt,e,h1⟩
 .rcases h2 with⟨_,_,rfl⟩ | ⟨oA,wt',e',_⟩;.rfl
  .rw[e] at e';cases e'
 .rcases h2 with⟨e',_⟩ | ⟨oA,wt',e',h2⟩;.rw[e] at e';cases e'
  .rw[e] at e';cases e';rcases h1 with⟨a1,rfl⟩ | ⟨a1,a2,rfl⟩ <;> rcases h2 with⟨b1,rfl⟩ | ⟨b1,b2,rfl⟩;.rfl
   .rw[a1] at b1;cases b1
   .rw[a1] at b1;cases b1
   .rfl
def jy.word(h:jy ws aV d wd):wd="number"\/wd="part":=by
 rcases h with⟨_,_,rfl⟩ | ⟨_,_,_,⟨_,rfl⟩ | ⟨_,_,rfl⟩⟩;.show .inl μ
 .show .inr μ
 .show .inl μ
def jy.Ac{p:Nat}(h:jy ws aV (some (.int p,.int x)) wd)(hp:p<ws.length)(h1 : -9<=x)(h2:x<=9):False:=by
 rcases h with⟨e,_⟩ | ⟨pl,wt,e,h⟩;.cases e
 .cases e;rcases h with⟨a,_⟩ | ⟨_,a,_⟩;.simp[bL] at a;lia
  .simp[bL] at a;lia
theorem Fw.Ac(h:Fw ws aV d nF nG)(hw:jy ws aV d wd):False:=by
 rcases h with⟨h0,p,x,rfl,e,_⟩ | ⟨p,x,y,rfl,hp,h1,h2,_⟩
 .rcases hw with⟨_,e',_⟩ | ⟨pl,wt,e',_⟩;.rw[e] at e';simp at e'
  .cases e'
 .show hw.Ac hp h1 h2
def Pb{wd:Str}(h:wd="number"\/wd="part"):PyData.canLay0 (.str wd)=true:=by rcases h with rfl | rfl <;> decide +kernel
def gA.a0G(A:gA H s f a c e ks b ps ws aV)(K:bX C H kp dx sl as b' d8 cJ)(ba:as≠[]):e≠sl:=λz=>by
 have h:=A.he;rw[z,K.ls] at h;obtain⟨x,r,rfl⟩:=a4T ba
 cases ks with
 | nil=>cases h
 | cons k0 kr =>
  have e1:V.ref x.1=V.ref k0:=by injection h with h;injection h with h;injection h
  injection e1 with e1;have hk:=A.hk 0 k0 (aV[0]'(by have:=A.hl;simp at this;lia)) μ (a2a _);have hx:=(K.each 0 x (cJ[0]'(by have:=K.len;simp at this;lia)) μ<|a2a _).tp;rw[e1,hk] at hx;cases hx
def gA.Ad(A:gA H s f a c e ks b ps ws aV)(K:bX C H kp dx sl as b' d8 cJ)(ba:as≠[])(k:Kp [sl] H H'):gA H' s f a c e ks b ps ws aV:=by
 have t:=k.bN K.ls (nE _ _);show⟨t _ _ A.hs iy,A.fr.bN t,k _ _ A.he<|by simpa using A.a0G K ba,A.hl,λi k' h h1 h2=>t _ _ (A.hk i k' h h1 h2) iy⟩
structure Kw where
 kp:Addr
 dx:Addr
 sl:Addr
 as:List AF
 aH:List (List Int)
 ws:List Int
 s:Addr
 f:Addr
 a:Addr
 c:Addr
 e:Addr
 ks:List Addr
 aV:List (Nat×Int)
structure W5(C:Addr)(H:Hp)(X:List Addr)(b:Nat)(ps:List Nat)(k:Kw):Prop where
 K:bX C H k.kp k.dx k.sl k.as b ps (k.aH++[k.ws])
 ko:∀x∈k.as,x.2.1∉X/\x.2.2∉X
 A:gA H k.s k.f k.a k.c k.e k.ks b ps k.ws k.aV
 na:k.a∉X
 nc:k.c∉X
 hr:Fx k.ws.length k.aV
 ch:pY (k.aH++[k.ws]) k.aV
def NI(H:Hp)(y:Addr):Prop:=∃(g:Int) (xs:List V),H y=some (.lst (V.int g::xs))
def NI.ne(n:NI H y)(h:H z=some o)(q:∀g xs,o≠.lst (V.int g::xs)):z≠y:=λe=>by
 obtain⟨g,xs,hy⟩:=n;rw[e,hy] at h;show q g xs (a1Q h).symm
def NI.refs{α:Type}{g:α->Addr}{l:List α}(n:NI H y)(h:H z=some (.lst (l.map λx=>V.ref (g x)))):z≠y:=n.ne h λi xs e=>by
 injection e with e;obtain⟨a,q⟩:=nE g l (.int i) (by rw[e];simp);cases q
def bh.ni(S:bh H st):NI H st:=let ⟨g,c,k,e⟩:=S;⟨g,_,e⟩
def aU.niw(G:aU H f a c b ps ws):NI H c:=by
 have h:=G.ok.wl;have h2:=G.ok.sum
 cases ws with
 | nil=>simp at h;lia
 | cons x r=>show⟨x,_,G.hw⟩
def aU.Ae(G:aU H f a c b ps ws):NI H a:=by
 have h2:=G.ok.l2
 cases ps with
 | nil=>simp at h2
 | cons x r=>show⟨x,_,G.hp⟩
def aU.dH(G:aU H f a c b ps ws)(n:NI H y)(k:Kp [y] H H')(na:a≠y)(nc:c≠y):aU H' f a c b ps ws := G.kp k (by simpa using n.ne G.tp (λ_ _ z=>by cases z)) (by simpa using na) (by simpa using nc)
theorem bX.dH(K:bX C H kp dx sl as b ps cJ)(n:NI H y)(k:Kp [y] H H')(ko:∀x∈as,x.2.1≠y/\x.2.2≠y):bX C H' kp dx sl as b ps cJ := ⟨k _ _ K.ob<|by simpa using n.ne K.ob (λ_ _ z=>by cases z),k _ _ K.ls<|by simpa using n.refs K.ls,K.len,λi x ws h1 h2=>(K.each i x ws h1 h2).dH n k (ko x<|a1K h1).1 (ko x<|a1K h1).2⟩
theorem gA.dH(A:gA H s f a c e ks b ps ws aV)(n:NI H y)(k:Kp [y] H H')(na:a≠y)(nc:c≠y):gA H' s f a c e ks b ps ws aV := ⟨k _ _ A.hs<|by simpa using n.ne A.hs (λ_ _ z=>by cases z),A.fr.dH n k na nc,k _ _ A.he<|by simpa using n.refs A.he,A.hl,λi k' h h1 h2=>k _ _ (A.hk i k' h h1 h2)<|by simpa using n.ne (A.hk i k' h h1 h2) (λ_ _ z=>by cases z)⟩
def bX.ne(K:bX C H kp dx sl as b ps (aH++[ws])):as≠[]:=λz=>by have:=K.len;rw[z] at this;simp at this
theorem W5.keep(W:W5 C H X b ps k)(t:af H H'):W5 C H' X b ps k:=⟨W.K.keep t,W.ko,W.A.keep t,W.na,W.nc,W.hr,W.ch⟩
theorem W5.dH(W:W5 C H X b ps k)(n:NI H y)(hy:y∈X)(t:Kp [y] H H'):W5 C H' X b ps k := ⟨W.K.dH n t λx hx=>⟨λz=>(W.ko x hx).1 (z▸hy),λz=>(W.ko x hx).2 (z▸hy)⟩,W.ko,W.A.dH n t (λz=>W.na (z▸hy))<|λz=>W.nc (z▸hy),W.na,W.nc,W.hr,W.ch⟩
def Pc{α:Type}{g:α->Addr}{l:List α}{j:Nat}(h:(l.map λx=>V.ref (g x))[j]?=some v):∃x,l[j]?=some x/\v=.ref (g x):=by
 rw[a1O] at h
 cases e:l[j]? with
 | none=>rw[e] at h;cases h
 | some x=>rw[e] at h;show⟨x,μ,(a1Q h).symm⟩
inductive vt(vs:List V)(H:Hp)(Q:VK)(aw:XK):Prop
 | mk:∀(st f a c:Addr) (b:Nat) (ps:List Nat) (ws:List Int),(vs=[.ref st,.ref f])->(bh H st)->(aU H f a c b ps ws)->(a≠st)->(c≠st)->(∀(r:Nat) (H':Hp),bh H' st->Kp [st] H H'->Q (.int r) H')->vt vs H Q aw
def ol_(ns:List Int):(PyData.list (ns.map PyData.int)).canLay0=true:=by simp only[PyData.canLay0,Bp]
def kp_(ns:List Int):(PyData.list (ns.map PyData.int)).depth<=60:=by
 simp only[PyData.depth,Bq];decide
def FO(k:Kp fp H H')(h:∀x∈fp,x∈fq):Kp fq H H':=λb o e n=>k b o e<|λz=>n<|h b z
structure f6 where
 t:Addr
 f:Addr
 a:Addr
 c:Addr
 f2:Addr
 a2:Addr
 c2:Addr
 ws:List Int
structure f7(H:Hp)(X:List Addr)(b:Nat)(ps:List Nat)(hl:Addr)(hs:List f6):Prop where
 hl:H hl=some (.lst (hs.map λx=>V.ref x.t))
 tp:∀x∈hs,H x.t=some (.tup [.ref x.f,.ref x.f2])
 g1:∀x∈hs,aU H x.f x.a x.c b ps x.ws
 g2:∀x∈hs,aU H x.f2 x.a2 x.c2 b ps x.ws
 off:∀x∈hs,x.a∉X/\x.c∉X/\x.a2∉X/\x.c2∉X
section
variable{hl y:Addr}
theorem f7.keep(A:f7 H X b ps hl hs)(t:af H H'):f7 H' X b ps hl hs:=⟨t _ _ A.hl,λx hx=>t _ _<|A.tp x hx,λx hx=>(A.g1 x hx).keep t,λx hx=>(A.g2 x hx).keep t,A.off⟩
theorem f7.dH(A:f7 H X b ps hl hs)(n:NI H y)(hy:y∈X)(t:Kp [y] H H'):f7 H' X b ps hl hs := ⟨t _ _ A.hl<|by simpa using n.refs A.hl,λx hx=>t _ _ (A.tp x hx)<|by simpa using n.ne (A.tp x hx) (λ_ _ z=>by cases z),λx hx=>(A.g1 x hx).dH n t (λz=>(A.off x hx).1 (z▸hy))<|λz=>(A.off x hx).2.1 (z▸hy),λx hx=>(A.g2 x hx).dH n t (λz=>(A.off x hx).2.2.1 (z▸hy))<|λz=>(A.off x hx).2.2.2 (z▸hy),A.off⟩
theorem f7.bN(A:f7 H X b ps hl hs)(t:jx H H')(h:H' hl=H hl):f7 H' X b ps hl hs:=⟨by rw[h];show A.hl,λx hx=>t _ _ (A.tp x hx) iy,λx hx=>(A.g1 x hx).bN t,λx hx=>(A.g2 x hx).bN t,A.off⟩
end
inductive Af(C:Addr)(vs:List V)(H:Hp)(Q:VK)(aw:XK):Prop
 | mk:∀(kp dx sl:Addr) (as:List AF) (b:Nat) (ps:List Nat) (aH:List (List Int)) (ws:List Int),(vs=[.ref kp])->(bX C H kp dx sl as b ps (aH++[ws]))->(∀(f' a' c':Addr) (H':Hp),af H H'->aU H' f' a' c' b ps ws->H f'=none->H a'=none->H c'=none->a'≠c'->Q (.ref f') H')->Af C vs H Q aw
inductive vv(C:Addr)(vs:List V)(H:Hp)(Q:VK)(aw:XK):Prop
 | mk:∀(st kp dx sl f a c hl:Addr) (as:List AF) (b:Nat) (ps:List Nat) (aH:List (List Int)) (ws:List Int) (hs:List f6) (X:List Addr),(vs=[.ref st,.ref kp,.ref f,.ref hl])->(bh H st)->(bX C H kp dx sl as b ps (aH++[ws]))->(aU H f a c b ps ws)->((∀x∈as,x.2.1≠st/\x.2.2≠st))->(a≠st)->(c≠st)->(f7 H X b ps hl hs)->(hs.length<=1000)->(st∈X)->((∀x∈X,H x≠none))->(sl≠hl)->((∀H',bh H' st->Kp [st] H H'->Q (.bl true) H'))->(∀(x:f6) (H':Hp),bh H' st->Kp [st,hl] H H'->f7 H' X b ps hl (hs++[x])->Q (.bl true) H')->vv C vs H Q aw
def jZ_(F:aM K "frame" "Keeper.frame" Cn f fd)(nS:gE K C "standing")(j8:ak P w K mg base 1 "copy_of" ["frame"] j7)(cl:cA K C):aA P w K mg base aI 2 f fd ["self"] (Af C):=by
 show F.ok NP λao A outer s H vs Q E hr h=>?_
 .obtain⟨kp,dx,sl,as,b,ps,aH,ws,rfl,S,k⟩:=h;show⟨_,(g_<|m_<|o_ j8 hr (by rfl)<|a_ (bf (kK (pv 0) μ)<|eO eQ e_) d_),?_⟩;obtain⟨ai,x,rfl,zG,G,e⟩:=S.last;show⟨_,μ,kp,C,dx,_,_,μ,S.ob,cl,nS,lO,_,μ,bU S.ls e ⟨_,_,_,b,ps,ws,μ,G,λf' a' c' H' s' G' nf na nc lQ=>k f' a' c' H' s' G' nf na nc lQ⟩⟩
def nZ_(F:aM K "_law_copy" "_law_copy" Ca f fd)(T:Txt mg):aA P w K mg base aI 1 f fd ["frame"] j7:=by
 show F.ok M6 λao A outer s H vs Q E hr h=>?_
 .obtain⟨f,a,c,b,ps,ws,rfl,G,k⟩:=h;show⟨_,(g_<|m_<|dJ<|a_ (aW (pv 0) e_)<|a_ (J_ sW η T.list boot_list<|a_ (aW (pv 0) e_) d_)<|a_ (J_ sW η T.list boot_list<|a_ (aW (pv 0) e_) d_) d_),(⟨_,μ,_,_,_,_,μ,μ,aB.of G.tp,μ,⟨_,μ,_,_,_,_,μ,μ,aB.of G.tp,μ,⟨a,_,μ,.inl (ae.of G.hp),λa' pS=>?_⟩⟩⟩)⟩;have s1:=f_ (o:=.lst (az ps)) pS;have u1:(upd H a'<|.lst<|az ps) a'=_:=c_;show⟨_,μ,_,_,_,_,μ,μ,aB.of<|s1 _ _ G.tp,μ,⟨c,_,μ,.inl<|ae.of<|s1 _ _ G.hw,λc' fi=>⟨sz<|by simp,λf' lr=>?_⟩⟩⟩;have s2:=f_ (o:=.lst (ws.map V.int)) fi;have s3:=f_ (o:=.tup [.int b,.ref a',.ref c']) lr;show k f' a' c' _ (s1.trans<|s2.trans s3) ⟨c_,s3 _ _<|s2 _ _ u1,s3 _ _ c_,G.ok⟩ (s1.free<|s2.free lr) pS (s1.free fi)<|λz=>by rw[<-z,u1] at fi;cases fi
def Pd:aS ["store","frame","far"] ["store","frame"] (h_ Ce):=⟨μ,μ,μ,ξ,μ,ξ,ξ⟩
def qz_(F:aM K "_law_d" "_law_d" Ce f fd)(T:Txt mg)(bR:ak P w K mg base 1 "_law_take" ["store","many"] gu):aA P w K mg base aI 2 f fd ["store","frame"] vt:=by
 show F.ok Pd λao A outer s H vs Q E hr h=>?_
 .obtain⟨st,g,a,c,b,ps,ws,rfl,S,G,na,nc,k⟩:=h;have nd:=Pd.nd;show⟨_,(b_ (i_ 2 e_) (g_ (m_ (bf (x_ (a_ e_ (a_ e_ (a_ (o_ bR hr η (a_ (pv 0) (a_ e_ d_))) (a_ (o_ bR hr η (a_ (pv 0) (a_ (pv 2) d_))) (a_ (n_ R_ (n_ nZ e_ e_) (o_ bR hr η (a_ (pv 0) (a_ e_ d_)))) d_)))))) (o_ bR hr η (a_ (pv 0) (a_ e_ d_))))))),⟨_,μ,st,12,μ,S,ζ,ζ,λr1 H2 OE OF S2 k2=>?_⟩⟩;show⟨_,μ,_,μ,st,1700,μ,S2,ζ,ζ,λr2 H3 OG OH S3 k3=>(⟨_,_,μ,μ,⟨ζ,ζ,ζ⟩,_,μ,st,9,μ,S3,ζ,ζ,λr3 H4 OI OJ S4 k4=>⟨_,_,μ,μ,sz θ,λl hl=>?_⟩⟩)⟩;show⟨_,μ,st,5,μ,S4.keep (f_ hl),ζ,ζ,λr4 H5 rW rX S5 k5=>?_⟩
  obtain⟨M,eM,hM⟩:=mL (ns:=[0,1,r1,r2,(10:Int) ^ (25:Int).toNat-r3]) (Pr:=λn=>0<=n) rW rX (by
   intro y hy;simp only[a1L,a1Z,or_false] at hy;rcases hy with rfl | rfl | rfl | rfl | rfl <;> lia);show bU (k5 l _ c_ (S4.eY hl)) eM ?_;obtain⟨r,rfl⟩:∃r:Nat,M=(r:Int):=⟨M.toNat,Z⟩;show k r _ S5 (((k2.trans k3).trans k4).trans ((Kp.of (f_ hl)).trans k5))
def Pe:aS ["store","keeper","frame","held","found","again"] ["store","keeper","frame","held"] (h_ Cj):=⟨μ,μ,μ,ξ,μ,ξ,ξ⟩
def lN_{f:Addr}{fd:FuncData}(F:aM K "_law_frame_right" "_law_frame_right" Cj f fd)(T:Txt mg)(bR:ak P w K mg base 1 "_law_take" ["store","many"] gu)(sg:ak P w K mg base 1 "_law_copy" ["frame"] j7)(cl:cA K C)(Ag:fD P w K mg base 2 C "frame" ["self"] (Af C)):aA P w K mg base aI 3 f fd ["store","keeper","frame","held"] (vv C):=by
 show F.ok Pe λao A outer s H vs Q E hr h=>?_
 .obtain⟨st,kp,dx,sl,g,a,c,hl,as,b,ps,aH,ws,hs,X,rfl,S,K0,G,ko,na,nc,A,hn,hX,vw,Ah,k1,k2⟩:=h;have nd:=Pe.nd;show⟨_,(b_ (i_ 4 (rQ cl Ag hr (pv 1))) (b_ (E_ (PW.pt (iY (cY (V_ (p_ T_ η T.cC boot_isinstance (a_ (pv 4) (a_ (fu T.tuple boot_tuple) d_))))) (kA (t_ (wU P w μ μ hr.units) (pv 4) (pv 2) (aY _))))) (g_ (m_ eG)) q_) (b_ (E_ (PW.pt (iY (cY (V_ (p_ T_ η T.cC boot_isinstance (a_ (aW (pv 4) e_) (a_ (fu T.list boot_list) d_))))) (iY (cY (V_ (p_ T_ η T.cC boot_isinstance (a_ (aW (pv 4) e_) (a_ (fu T.list boot_list) d_))))) (kA (V_ (p_ T_ η T.cC boot_isinstance (a_ (aW (pv 4) e_) (a_ (fu T.bool boot_bool) d_)))))))) (g_ (m_ eG)) q_) (b_ (G_ (fk PySem.F.plainAttrs_list PySem.F.slot_list_append PySem.F.type_list_append K_ (aW (pv 4) e_) (a_ e_ d_))) (b_ (E_ (t_ (wU P w μ μ hr.units) (aW (pv 4) e_) (aW (pv 2) e_) (aY _)) (g_ (m_ eG)) q_) (b_ (G_ (fk PySem.F.plainAttrs_list PySem.F.slot_list_append PySem.F.type_list_append K_ (aW (pv 4) e_) (a_ e_ d_))) (b_ (E_ (t_ dI (o_ bR hr.mo η (a_ (pv 0) (a_ e_ d_))) e_ (aY _)) (g_ (m_ eG)) q_) (b_ (i_ 5 (rQ cl Ag hr (pv 1))) (b_ (G_ (fk PySem.F.plainAttrs_list PySem.F.slot_list_append PySem.F.type_list_append K_ (pv 3) (a_ (dJ (a_ (pv 5) (a_ (o_ sg hr.mo η (a_ (pv 2) d_)) d_))) d_))) (g_ (m_ (ge (y9 P w μ μ hr.units) (pv 5) (pv 2) (aY _))))))))))))),?_⟩;have ok:=G.ok;have cO:=ok.wl;have uX:=ok.sum;have EA:=ok.l4;show⟨_,μ,kp,dx,_,μ,K0.ob,ix ξ,kp,dx,sl,as,b,ps,aH,ws,μ,K0,λf1 a1 c1 H1 s1 G1 nf1 na1 Ai lQ=>⟨_,μ,_,_,_,_,μ,.tup G1.tp,wV,_,μ,aG ?_⟩⟩;show⟨_,μ,_,μ,L2.jh G1.dat (G.keep s1).dat (y0 _ _ _) (y4 _ _ _) ⟨_,μ,aG ⟨_,μ,_,_,_,_,μ,μ,aB.of G1.tp,μ,_,_,_,_,μ,.lst G1.hp,BB,_,μ,aG ?_⟩⟩⟩;show⟨_,μ,_,_,_,_,μ,μ,aB.of G1.tp,μ,_,_,_,_,μ,.lst G1.hw,BB,_,μ,aG ⟨_,μ,_,_,_,_,μ,μ,aB.of G1.tp,μ,_,_,_,_,μ,.int _,mz,_,μ,aG ?_⟩⟩;show⟨_,μ,_,_,_,_,μ,μ,aB.of G1.tp,μ,.inl ⟨μ,_,ae.of G1.hp⟩,a1,_,_,μ,μ,G1.hp,bK (by simp[az];lia),?_⟩;have nA:Kp [a1] H1 (upd H1 a1 (.lst (az ps++[V.int 0]))):=dL (Kp.of (af.refl _)) (.inl θ);generalize upd H1 a1 (.lst (az ps++[V.int 0]))=H2 at nA⊢;have t2:=m9 s1 na1 nA;have Pf:=nA _ _ G1.tp (by simpa using G1.Ae.ne G1.tp (λ_ _ z=>by cases z));have pI:=nA _ _ G1.hw (by simpa using lQ.symm);have G2:=G.keep t2;show⟨_,μ,_,_,_,_,μ,μ,aB.of Pf,μ,_,μ,_,_,_,_,μ,μ,aB.of G2.tp,μ,L2.jh (gK pI (tD _)) (gK G2.hw (tD _)) (ol_ _) (kp_ _) ⟨_,μ,aG (⟨_,μ,_,_,_,_,μ,μ,aB.of Pf,μ,.inl ⟨μ,_,ae.of pI⟩,c1,_,_,μ,μ,pI,bK (by simp;lia),?_⟩)⟩⟩;have k3:Kp [c1] H2 (upd H2 c1 (.lst (ws.map V.int++[V.int 0]))):=dL (Kp.of (af.refl _)) (.inl θ);generalize upd H2 c1 (.lst (ws.map V.int++[V.int 0]))=H3 at k3⊢;have t3:=m9 t2 Ai k3;have S3:=S.keep t3;show⟨_,μ,st,2,μ,S3,ζ,ζ,λr H4 r0 r1 S4 k4=>⟨μ,_,μ,dQ (λ_=>k1 H4 S4 ((Kp.of t3).trans k4)) (λ_=>?_)⟩⟩;have K4:=(K0.keep t3).dH S3.ni k4 ko;have G4:=(G.keep t3).dH S3.ni k4 na nc;have A4:=(A.keep t3).dH S3.ni hX k4
  have al4:∀x∈X,H4 x≠none:=λx hx z=>by
   by_cases e:x=st;.show S4.off z e
   .cases ho:H x with
    | none=>show vw x hx ho
    | some o=>rw[k4 _ _ (t3 _ _ ho) (by simpa using e)] at z;cases z
  show⟨_,μ,kp,dx,_,μ,K4.ob,ix ξ,kp,dx,sl,as,b,ps,aH,ws,μ,K4,λf2 a2 c2 H5 s5 G5 nf2 na2 nc2 _=>?_⟩;have off:∀ {z:Addr} {H':Hp},af H4 H'->H' z=none->z∉X:=λ{z H'} s h hz=>al4 z hz (s.free h);have A5:=A4.keep s5;show⟨_,μ,.inl ⟨μ,_,ae.of A5.hl⟩,_,μ,_,μ,g,a,c,b,ps,ws,μ,G4.keep s5,λf3 a3 c3 H6 s6 G6 _ na3 nc3 _=>⟨sz θ,λtt vx=>?_⟩⟩;have s7:=f_ (o:=.tup [.ref f2,.ref f3]) vx;have u7:(upd H6 tt (.tup [.ref f2,.ref f3])) tt=_:=c_;generalize upd H6 tt (.tup [.ref f2,.ref f3])=H7 at s7 u7⊢;have A7:=(A5.keep s6).keep s7;show⟨hl,_,_,μ,μ,A7.hl,bK (by simp;lia),?_⟩;have k8:Kp [hl] H7 (upd H7 hl (.lst ((hs.map λx=>V.ref x.t)++[V.ref tt]))):=dL (Kp.of (af.refl _)) (.inl θ);have u8:(upd H7 hl (.lst ((hs.map λx=>V.ref x.t)++[V.ref tt]))) hl=_:=c_;generalize upd H7 hl (.lst ((hs.map λx=>V.ref x.t)++[V.ref tt]))=H8 at k8 u8⊢;have nI:=k8.bN A7.hl (nE _ _);have T7:=s5.trans (s6.trans s7);have G8:=((G5.keep s6).keep s7).bN nI;have F8:=(G4.keep T7).bN nI;have C8:=(G6.keep s7).bN nI;show⟨_,μ,_,μ,L2.jh G8.dat F8.dat (y0 _ _ _) (y4 _ _ _) (k2 ⟨tt,f2,a2,c2,f3,a3,c3,ws⟩ H8 (((S4.keep T7)).bN nI) ?_ ⟨by rw[u8];simp,λx hx=>?_,λx hx=>?_,λx hx=>?_,λx hx=>?_⟩)⟩;.show((((Kp.of t3).trans (FO k4 θ)).trans (Kp.of T7)).trans (FO k8 θ))
  .rcases a2l.mp hx with h | h;.show nI _ _ (A7.tp x h) iy
   .rw[a1X.mp h];show nI _ _ u7 iy
  .rcases a2l.mp hx with h | h;.show(A7.g1 x h).bN nI
   .rw[a1X.mp h];show G8
  .rcases a2l.mp hx with h | h;.show(A7.g2 x h).bN nI
   .rw[a1X.mp h];show C8
  .rcases a2l.mp hx with h | h;.show A7.off x h
   .rw[a1X.mp h];show⟨off (af.refl _) na2,off (af.refl _) nc2,off s5 na3,off s5 nc3⟩
inductive Aj(C:Addr)(vs:List V)(H:Hp)(Q:VK)(aw:XK):Prop
 | mk:∀(st hl:Addr) (k:Kw) (b:Nat) (ps:List Nat) (hs:List f6) (X:List Addr),(vs=[.ref st,.ref k.kp,.ref k.s,.ref hl])->(bh H st)->(W5 C H X b ps k)->(k.aH.length<=900)->(f7 H X b ps hl hs)->(hs.length<=1000)->(st∈X)->((∀x∈X,H x≠none))->(k.sl≠hl)->((∀H',bh H' st->Kp [st] H H'->Q (.bl true) H'))->(∀(x:f6) (H':Hp),bh H' st->Kp [st,hl] H H'->f7 H' X b ps hl (hs++[x])->Q (.bl true) H')->Aj C vs H Q aw
def Pg:aS ["store","keeper","state","held","frame","early","way","due","found","d","total","far","beyond","k"] ["store","keeper","state","held"] (h_ Ck):=⟨μ,μ,μ,ξ,μ,ξ,ξ⟩
def qv_{f:Addr}{fd:FuncData}(F:aM K "_law_told_right" "_law_told_right" Ck f fd)(T:Txt mg)(bR:ak P w K mg base 1 "_law_take" ["store","many"] gu)(si:ak P w K mg base 3 "_law_frame_right" ["store","keeper","frame","held"] (vv C))(sj:ak P w K mg base 2 "_law_d" ["store","frame"] vt)(sk:ak P w K mg base 2 "_law_near" ["frame","d"] mZ)(pZ:ak P w K mg base 2 "_law_even" ["frame"] lG)(so:ak P w K mg base 9 "_law_by" ["sheet","k"] uQ)(sq:ak P w K mg base 1 "_law_sheet" ["frame","d"] uL)(cl:cA K C)(jv:fD P w K mg base 1 C "changes" ["self"] (pR C))(sr:fD P w K mg base 7 C "near" ["self","d"] (va C))(ss:fD P w K mg base 14 C "even" ["self","k"] (vb C)):aA P w K mg base aI 15 f fd ["store","keeper","state","held"] (Aj C):=by
 show F.ok Pg λao A outer s H vs Q E hr h=>?_
 .obtain⟨st,hl,k0,b,ps,hs,X,rfl,S,W0,hi0,A0,hn,hX,vw,Ah,k1,k2⟩:=h;have nd:=Pg.nd;show⟨_,(b_ (eJ (pv 2) (kF μ (r_ (k_ 4) (r_ (k_ 5) fj)))) (b_ (i_ 6 (o_ bR hr.mo η (a_ (pv 0) (a_ e_ d_)))) (b_ (E_ (t_ dI (pv 6) e_ (aY _)) (g_ (m_ (o_ si hr.mo η (a_ (pv 0) (a_ (pv 1) (a_ (pv 4) (a_ (pv 3) d_))))))) q_) (b_ (i_ 7 (dw T.len η (pv 5))) (b_ (i_ 8 cX) (b_ (E_ (t_ dI (pv 6) e_ (aY _)) (g_ (i_ 8 (rQ cl jv hr.mo (pv 1)))) q_) (b_ (E_ (t_ dI (pv 6) e_ (aY _)) (b_ (i_ 9 (o_ sj hr.mo η (a_ (pv 0) (a_ (pv 4) d_)))) (b_ (i_ 7 (o_ sk hr.mo η (a_ (pv 4) (a_ (pv 9) d_)))) (g_ (i_ 8 (zF cl sr hr.mo (pv 1) (a_ (pv 9) d_)))))) q_) (b_ (E_ (t_ dI (pv 6) e_ (aY _)) (b_ (i_ 10 (o_ pZ hr.mo η (a_ (pv 4) d_))) (b_ (i_ 11 (n_ u_ (n_ Q_ (o_ bR hr.mo η (a_ (pv 0) (a_ (n_ nZ e_ e_) d_))) (n_ nZ e_ e_)) (o_ bR hr.mo η (a_ (pv 0) (a_ (n_ nZ e_ e_) d_))))) (b_ (i_ 12 (n_ u_ (pv 10) (n_ Q_ (pv 11) (J_ kI η T.int boot_int (a_ (ge kH (pv 10) (n_ nZ e_ e_) (aY _)) d_))))) (b_ (i_ 13 (bf (x_ (a_ (o_ bR hr.mo η (a_ (pv 0) (a_ e_ d_))) (a_ (n_ jF (pv 11) (pv 10)) (a_ (n_ R_ (pv 10) e_) (a_ (pv 10) (a_ (pv 12) d_)))))) (o_ bR hr.mo η (a_ (pv 0) (a_ e_ d_))))) (b_ (i_ 7 (o_ so hr.mo η (a_ (o_ sq hr.mo η (a_ (pv 4) (a_ e_ d_))) (a_ (pv 13) d_)))) (b_ (i_ 8 (zF cl ss hr (pv 1) (a_ (pv 13) d_))) (g_ (E_ (t_ mi (pv 7) cX (aY _)) (g_ (m_ (ge mi (pv 8) cX (aY _)))) q_)))))))) q_) (g_ (m_ (iZ (p_ T_ η T.cC boot_isinstance (a_ (pv 8) (a_ (fu T.int boot_int) d_))) (iZ (AI (p_ T_ η T.cC boot_isinstance (a_ (pv 8) (a_ (fu T.bool boot_bool) d_)))) (kE (ge dI (pv 8) (pv 7) (aY _))))))))))))))),?_⟩;have ok:=W0.A.fr.ok;have uy:=Mx.Zl (d:=0) ok (MH ok);show⟨_,μ,k0.s,_,μ,aB.of W0.A.hs,μ,_,_,μ,_,_,μ,μ,?_⟩;show⟨_,μ,st,4,μ,S,ζ,ζ,λr H1 r0 r1 S1 nJ=>?_⟩;have W1:=W0.dH S.ni hX nJ;have A1:=A0.dH S.ni hX nJ
  have al1:∀x∈X,H1 x≠none:=λx hx z=>by
   by_cases e:x=st;.show S1.off z e
   .cases ho:H x with
    | none=>show vw x hx ho
    | some o=>rw[nJ _ _ ho (by simpa using e)] at z;cases z
  have yu:r=0\/r=1\/r=2\/r=3:=by lia
  rcases yu with rfl | rfl | rfl | rfl
  .show⟨_,μ,μ,_,μ,?_⟩;rw[decide_eq_true μ];show bI ⟨_,μ,_,μ,_,μ,_,μ,st,k0.kp,k0.dx,k0.sl,k0.f,k0.a,k0.c,hl,k0.as,b,ps,k0.aH,k0.ws,hs,X,μ,S1,W1.K,W1.A.fr,λx hx=>⟨λz=>(W1.ko x hx).1 (z▸hX),λz=>(W1.ko x hx).2 (z▸hX)⟩,λz=>W1.na (z▸hX),λz=>W1.nc (z▸hX),A1,hn,hX,al1,Ah,λH' S' kk=>k1 H' S' (nJ.trans kk),λx H' S' kk A'=>k2 x H' S' ((FO nJ θ).trans kk) A'⟩
  .show⟨_,μ,μ,_,μ,?_⟩;rw[decide_eq_false (by simp)];show aG ⟨_,μ,k0.e,_,μ,.inl (ae.of W1.A.he),?_⟩;show⟨_,μ,μ,_,μ,?_⟩;rw[decide_eq_true μ];show bI ⟨_,μ,k0.kp,k0.dx,_,μ,W1.K.ob,ix ξ,k0.kp,k0.dx,k0.sl,k0.as,b,ps,k0.aH++[k0.ws],μ,W1.K,?_⟩
   have bV:((k0.aH++[k0.ws]).length:Int)-1=(((k0.ks.map V.ref).length:Nat):Int):=by
    have h1:=W1.ch.1;have h2:=W1.A.hl;simp at h1⊢;lia
   rw[bV];show⟨_,μ,μ,_,μ,?_⟩;rw[decide_eq_false (by simp)];show aG ⟨_,μ,μ,_,μ,?_⟩;rw[decide_eq_false (by simp)];show aG ?_;show⟨_,μ,_,_,_,_,μ,.int _,tI,true,μ,bI ⟨_,μ,_,_,_,_,μ,.int _,mz,false,μ,_,μ,bI ⟨_,μ,_,μ,μ,?_⟩⟩⟩;rw[decide_eq_true μ];show k1 H1 S1 nJ
  .show⟨_,μ,μ,_,μ,?_⟩;rw[decide_eq_false (by simp)];show aG ⟨_,μ,k0.e,_,μ,.inl (ae.of W1.A.he),?_⟩;show⟨_,μ,μ,_,μ,?_⟩;rw[decide_eq_false (by simp)];show aG ⟨_,μ,μ,_,μ,?_⟩;rw[decide_eq_true μ];show bI ⟨_,μ,_,μ,st,k0.f,k0.a,k0.c,b,ps,k0.ws,μ,S1,W1.A.fr,λz=>W1.na (z▸hX),λz=>W1.nc (z▸hX),λd H2 S2 Ak=>?_⟩;have W2:=W1.dH S1.ni hX Ak;show⟨_,μ,_,μ,k0.f,k0.a,k0.c,b,ps,k0.ws,d,μ,W2.A.fr,λH3 s3=>?_⟩;have W3:=W2.keep s3;show⟨_,μ,k0.kp,k0.dx,_,μ,W3.K.ob,ix ξ,_,μ,k0.kp,k0.dx,k0.sl,k0.as,b,ps,k0.aH,k0.ws,d,μ,W3.K,λH4 s4=>?_⟩;show⟨_,μ,μ,_,μ,?_⟩;rw[decide_eq_false (by simp)];show aG ?_;show⟨_,μ,_,_,_,_,μ,.int _,tI,true,μ,bI ⟨_,μ,_,_,_,_,μ,.int _,mz,false,μ,_,μ,bI ⟨_,μ,_,μ,μ,?_⟩⟩⟩;rw[decide_eq_true μ];show k1 H4 ((S2.keep s3).keep s4) (((nJ.trans Ak).same s3).same s4)
  .show⟨_,μ,μ,_,μ,?_⟩;rw[decide_eq_false (by simp)];show aG ⟨_,μ,k0.e,_,μ,.inl (ae.of W1.A.he),?_⟩;show⟨_,μ,μ,_,μ,?_⟩;rw[decide_eq_false (by simp)];show aG ⟨_,μ,μ,_,μ,?_⟩;rw[decide_eq_false (by simp)];show aG ⟨_,μ,μ,_,μ,?_⟩;rw[decide_eq_true μ];show bI ⟨_,μ,k0.f,k0.a,k0.c,b,ps,k0.ws,μ,W1.A.fr,λH2 s2=>?_⟩;have S2:=S1.keep s2;show⟨_,μ,_,_,μ,μ,⟨ζ,ζ,ζ⟩,st,_,μ,S2,ζ,ζ,λr1 H3 OE OF S3 su=>?_⟩;show⟨_,_,μ,μ,⟨ζ,ζ,ζ⟩,_,_,μ,μ,.inr ⟨ζ,ζ⟩,_,μ,_,_,μ,μ,⟨ζ,ζ,ζ⟩,st,_,μ,S3,ζ,ζ,λr2 H4 OG OH S4 kk4=>⟨_,_,μ,μ,?_⟩⟩
   obtain⟨dN,a0H⟩:∃dN:Nat,r1*(10:Int) ^ (9:Int).toNat+r2=(dN:Int):=⟨(r1*(10:Int) ^ (9:Int).toNat+r2).toNat,by
    have:(10:Int) ^ (9:Int).toNat=1000000000:=by decide
    rw[this];lia⟩;try dsimp only
   rw[a0H];obtain⟨N,hN⟩:∃N:Nat,Mx.aR b 0 ps k0.ws (b ^ ps.sum)=(N:Int):=⟨_,(a4P (Int.le_of_lt uy)).symm⟩;rw[hN] at uy⊢;have hN0:0<N:=by lia
   show⟨_,μ,_,μ,_,μ,_,_,μ,μ,⟨ζ,ζ,ζ⟩,_,_,μ,μ,.inr ⟨_,μ,_,_,μ,μ,.inr (by split <;> decide),_,_,μ,μ,?_⟩⟩
   obtain⟨bd,hbd⟩:∃bd:Nat,(N:Int)+(dN:Int)*(if decide ((N:Int)<(10:Int) ^ (25:Int).toNat)=true then 1 else 0)=(bd:Int):=by
    split;.show⟨N+dN,Z⟩
    .show⟨N,Z⟩
   try dsimp only
   rw[hbd];show⟨_,μ,st,9,μ,S4,ζ,ζ,λr3 H5 OI OJ S5 kk5=>?_⟩;show⟨_,μ,_,μ,_,_,μ,μ,uy,_,μ,_,_,μ,μ,_,μ,_,μ,sz θ,λl cE=>?_⟩;have s6:=f_ (o:=.lst ([r3,(dN:Int) % (N:Int),(N:Int)-1,(N:Int),(bd:Int)].map V.int)) cE;have u6:(upd H5 l (.lst ([r3,(dN:Int) % (N:Int),(N:Int)-1,(N:Int),(bd:Int)].map V.int))) l=_:=c_;have S6:=S5.keep s6;show⟨_,μ,st,5,μ,S6,ζ,ζ,λr4 H7 rW rX S7 Ph=>?_⟩
   obtain⟨kz,ekz,Os⟩:=mL (ns:=[r3,(dN:Int) % (N:Int),(N:Int)-1,(N:Int),(bd:Int)]) (i:=r4) (Pr:=λn=>0<=n) rW rX (by
    intro y hy;have:=a4i (dN:Int) (show(N:Int)≠0 by lia);simp only[a1L,a1Z,or_false] at hy;rcases hy with rfl | rfl | rfl | rfl | rfl <;> lia);show bU (Ph l _ u6 (S5.eY cE)) ekz ?_;obtain⟨kn,rfl⟩:∃kn:Nat,kz=(kn:Int):=⟨kz.toNat,Z⟩;have Pi:Kp [st] H1 H7:=((((Kp.of s2).trans su).trans kk4).trans kk5).trans ((Kp.of s6).trans Ph);have W7:=W1.dH S1.ni hX Pi;show⟨_,μ,k0.f,k0.a,k0.c,b,ps,k0.ws,0,μ,W7.A.fr,λsh rl FP rs bj H8 s8 Sh8 FQ=>?_⟩;show⟨_,μ,sh,rl,FP,k0.f,k0.a,k0.c,rs,bj,b,_,ps,k0.ws,kn,μ,Sh8,a2u _,λv H9 dj kk9 hv=>?_⟩;have t9:af H7 H9:=m9 s8 FQ kk9;have W9:=W7.keep t9;show⟨_,μ,k0.kp,k0.dx,_,μ,W9.K.ob,ix ξ,_,μ,k0.kp,k0.dx,k0.sl,k0.as,b,ps,k0.aH,k0.ws,kn,μ,W9.K,λu ik pP hu=>?_⟩;cases hu.same hv;have fin:=k1 ik ((S7.keep t9).keep pP) (((nJ.trans Pi).same t9).same pP);rcases hv with⟨rfl,_⟩ | ⟨m,rfl,_⟩
   .show⟨_,μ,μ,_,μ,?_⟩;rw[decide_eq_true μ];show bI ⟨_,μ,μ,?_⟩;rw[decide_eq_true μ];show fin
   .show⟨_,μ,μ,_,μ,?_⟩;rw[decide_eq_false (by simp)];show aG ?_;show⟨_,μ,_,_,_,_,μ,.int _,tI,true,μ,bI ⟨_,μ,_,_,_,_,μ,.int _,mz,false,μ,_,μ,bI ⟨_,μ,_,μ,μ,?_⟩⟩⟩;rw[decide_eq_true μ];show fin
inductive Al(C:Addr)(vs:List V)(H:Hp)(Q:VK)(aw:XK):Prop
 | mk:∀(st la:Addr) (k:Kw) (b:Nat) (ps:List Nat) (X:List Addr) (d n:Nat),(vs=[.ref st,.ref k.kp,.ref k.f,.ref la])->(bh H st)->(W5 C H X b ps k)->(st∈X)->(H la=some (.lst [.int d,.int n]))->(∀H',bh H' st->Kp [st] H H'->Q (.bl true) H')->Al C vs H Q aw
inductive Am(C:Addr)(vs:List V)(H:Hp)(Q:VK)(aw:XK):Prop
 | mk:∀(k:Kw) (b:Nat) (ps:List Nat) (X:List Addr) (dv:V) (d:Option (V×V)),(vs=[.ref k.kp,.ref k.s,dv])->(W5 C H X b ps k)->(k.aH.length<=900)->(fZ H dv d)->((∀x∈X,H x≠none))->(∀(k1:Kw) (H':Hp),k1.kp=k.kp->k1.sl=k.sl->W5 C H' X b ps k1->Kp [k.sl] H H'->k1.aH.length<=k.aH.length+1->(k1.e=k.e\/H k1.e=none)->Q (.ref k1.s) H')->Am C vs H Q aw
def DT.tree(d:DT H x):∃t,GD 2 300 t/\∀H',jx H H'->Tree H' x t:=by
 rcases d with rfl | ⟨b,rfl⟩ | ⟨i,rfl,h1,h2⟩ | ⟨s,rfl,rfl⟩ | ⟨a,rfl,h⟩;.show⟨.none,⟨μ,μ,ζ,ζ⟩,λ_ _=>.ax⟩
 .show⟨.bool b,⟨μ,μ,by change 0 <=2;decide,by change 0 <=300;decide⟩,λ_ _=>.bl b⟩
 .obtain⟨t,tr,g⟩:=Th.int (H:=H) (i:=i) Z;cases tr;show⟨_,⟨g.sh,g.lv,a2o g.dp<|by decide,a2o g.wt<|by decide⟩,λ_ _=>.int i⟩
 .show⟨.str "1",⟨ξ,ξ,ζ,ζ⟩,λ_ _=>.str _⟩
 .rcases h with h | h | h;.show⟨.list [.int 1],⟨ξ,ξ,ζ,ζ⟩,λH' s=>.lst (s _ _ h<|rT (i:=1)<|by simp)<|.cons (.int 1) .nil⟩
  .show⟨.tuple [.int 1],⟨ξ,ξ,ζ,ζ⟩,λH' s=>.tup (s _ _ h iy)<|.cons (.int 1) .nil⟩
  .show⟨.dict [],⟨ξ,ξ,ζ,ζ⟩,λH' s=>.emp<|s _ _ h Oi⟩
theorem fZ.tree(D:fZ H dv d):∃t,GD 3 700 t/\∀H',jx H H'->Tree H' dv t:=by
 rcases D with⟨rfl,_⟩ | ⟨a,pl,wt,rfl,_,h,d1,d2⟩;.show⟨.none,⟨μ,μ,ζ,ζ⟩,λ_ _=>.ax⟩
 .obtain⟨t1,g1,k1⟩:=d1.tree;obtain⟨t2,g2,k2⟩:=d2.tree;show⟨.tuple [t1,t2],⟨?_,?_,?_,?_⟩,λH' s=>.tup (s _ _ h iy)<|.cons (k1 H' s)<|.cons (k2 H' s) .nil⟩;.simp only[PyData.showable,PyData.showableAll,g1.sh,g2.sh,Bool.and_self]
  .simp only[PyData.leavesShort,PyData.leavesShortAll,g1.lv,g2.lv,Bool.and_self]
  .simp only[PyData.depth,PyData.depthAll];have:=g1.dp;have:=g2.dp;lia
  .simp only[PyData.weight,PyData.weightAll];have:=g1.wt;have:=g2.wt;lia
def Pj{G:V->Hp->(List V->Hp->Prop)->List V->Prop}{Fin:List V->Hp->Prop}(Pv:Nat->List V->Hp->Prop)(h0:Pv 0 [] H)(hl:∀i ys H,i<=xs.length->Pv i ys H->aB K H a xs) (hs:∀i x ys H,xs[i]?=some x->Pv i ys H->ys.length<sizeLine/\G x H (Pv (i+1)) ys) (hd:∀ys H,Pv xs.length ys H->Fin ys H) : ∃W:Nat->Nat->List V->Hp->Prop,(∃m,W 0 m [] H)/\∀i m ys H,W i m ys H-> ((sK K a).stop i H/\Fin ys H)\/((sK K a).go i H/\ys.length<sizeLine/\∃Nx:List V->Hp->Prop,(∀cF H',Nx cF H'->∃m',m'<m/\W (i+1) m' cF H')/\∀x H',(sK K a).gc i H x H'->G x H' Nx ys):=by
 show⟨λi m ys H=>m=xs.length-i/\i<=xs.length/\Pv i ys H,⟨xs.length,θ,a2u _,h0⟩,?_⟩;rintro i m ys H ⟨rfl,hi,p⟩;have q:=hl i ys H hi p;by_cases aL:i<xs.length
 .obtain⟨a1,a2⟩:=hs i xs[i] ys H (by simp[aL]) p;show .inr ⟨⟨xs,xs[i],q,by simp[aL]⟩,a1,Pv _,λcF H' p'=>⟨xs.length-(i+1),Z,μ,aL,p'⟩,λx H' y=>?_⟩;obtain⟨e,y⟩:=y;subst e;have hx:=y xs q;rw[show xs[i]?=some xs[i] by simp[aL]] at hx;cases hx;show a2
 .have e:i=xs.length:=by lia
  subst e;show .inl ⟨⟨xs,q,a1M _⟩,hd ys H p⟩
def An:(!decide (V.str s=V.str s))=false:=by simp
def Pk:bootBuiltins "repr"=some (.builtin "repr"):=PyProof.Rows.boot_repr
def Pl:aS ["keeper","state","deed","kept","due","found","counts"] ["keeper","state","deed"] (h_ xr):=⟨μ,μ,μ,ξ,μ,ξ,ξ⟩
def nY_{f:Addr}{fd:FuncData}(F:aM K "_law_deed_right" "_law_deed_right" xr f fd)(T:Txt mg)(nK:mg "repr"=none)(fQ:mg "str"=none)(FR:ak P w K mg base 2 "_law_due" ["state","deed"] zS)(FS:ak P w K mg base 9 "_law_asked" ["keeper","deed","due"] (zW C))(pZ:ak P w K mg base 2 "_law_even" ["frame"] lG):aA P w K mg base aI 10 f fd ["keeper","state","deed"] (Am C):=by
 show F.ok Pl λao A outer s H vs Q E hr h=>?_
 .obtain⟨k0,b,ps,X,dv,d,rfl,W0,hi0,D0,vw,k⟩:=h;have nd:=Pl.nd;show⟨_,(b_ (i_ 3 (p_ (NF hr.gd hr.units) η nK Pk (a_ (pv 2) d_))) (b_ (i_ 4 (o_ FR hr.mo η (a_ (pv 1) (a_ (pv 2) d_)))) (b_ (i_ 5 (o_ FS hr η (a_ (pv 0) (a_ (pv 2) (a_ (pv 4) d_))))) (b_ (E_ (t_ vY (p_ (NF hr.gd hr.units) η nK Pk (a_ (pv 2) d_)) (pv 3) (aY _)) (g_ (m_ cX)) q_) (b_ (E_ (V_ (p_ T_ η T.cC boot_isinstance (a_ (pv 4) (a_ (fu fQ vm) d_)))) (g_ (m_ (bf (x_ (a_ cX (a_ (pv 1) d_))) (J_ kI η T.int boot_int (a_ (ge (y9 P w μ μ hr.units) (pv 5) (pv 4) (aY _)) d_))))) q_) (b_ (i_ 6 (dJ (a_ (o_ pZ hr.mo η (a_ (aW (pv 1) e_) d_)) (a_ (o_ pZ hr.mo η (a_ (aW (pv 4) e_) d_)) d_)))) (b_ (E_ (PW.pt (iY (cY (V_ (p_ T_ η T.cC boot_isinstance (a_ (pv 5) (a_ (fu T.tuple boot_tuple) d_))))) (iY (t_ (wU P w μ μ hr.units) (pv 5) (pv 6) (aY _)) (kA (t_ SD eG (jg (h_ xr) ["keeper","state","deed","kept","due","found","counts"] [] [] μ (RI (pv 5)) (λcl C s H fp=>fm) (λcl C s H fp=>(p_ (Uq K μ) η T.cC boot_isinstance (a_ (pv 0) (a_ (fu T.bool boot_bool) d_)))) ξ) η))))) (g_ (m_ cX)) q_) (g_ (m_ (pv 4)))))))))),?_⟩;obtain⟨tr,gd,hT⟩:=D0.tree;have gs:=gd.shown ζ;have Ao:k0.aV.length=k0.aH.length:=by have:=W0.ch.1;simp at this;lia
  show⟨_,μ,_,tr,μ,hT H (zQ (af.refl _)),gd.sh,a2o gd.dp ζ,gs,⟨_,μ,_,μ,k0.s,k0.f,k0.a,k0.c,k0.e,k0.ks,b,ps,k0.ws,k0.aV,dv,d,μ,W0.A,W0.hr,Z,D0,λwd H1 s1 hW=>?caseW,λp7 f1 c1 e1 Ap bt sv H1 s1 hD A1 Ai fY ne1=>?caseS⟩⟩
  case caseW =>
   have W1:=W0.keep s1;have D1:=D0.keep s1;have vi:=hW.word;show⟨_,μ,_,μ,_,μ,k0.kp,k0.dx,k0.sl,k0.as,b,ps,k0.aH,k0.ws,k0.aV,dv,.str wd,d,μ,W1.K,Ao,Z,D1,?_,?_,?_⟩
   .intro i0 wz ai t H2 hd Aq _ _ _ _ _;exfalso;subst hd;rcases hW with⟨_,eh,_⟩ | ⟨_,_,z,_⟩;.rw[eh,Aq] at Ao;simp at Ao
    .cases z
   .intro p xx t xn H2 hd hp h1 h2 _ _ _ _ _ _;subst hd;show(hW.Ac hp h1 h2).elim
   .show λwd' hW'=>⟨wd,μ,Pb vi,λH2 s2=>?_⟩;rw[if_pos (hW'.uniq hW)];have t2:=s1.trans s2;show⟨_,μ,_,tr,μ,hT H2 (zQ t2),gd.sh,a2o gd.dp ζ,gs,⟨_,μ,μ,_,μ,?_⟩⟩;rw[An];show aG ⟨_,μ,_,_,_,_,μ,.str wd,Ow,true,μ,bI ⟨_,μ,sz θ,λl hl=>?_⟩⟩;have s3:=f_ (o:=.lst [V.ax,V.ref k0.s]) hl;have u3:(upd H2 l (.lst [V.ax,V.ref k0.s])) l=_:=c_;generalize upd H2 l (.lst [V.ax,V.ref k0.s])=H3 at s3 u3⊢;show⟨_,μ,_,μ,L2.jh (wM _) (wM _) (Pb vi) (by change(0:Nat)<=60;decide) (.inr ⟨_,μ,bU u3 μ (k k0 H3 μ μ (W0.keep (t2.trans s3)) (Kp.of (t2.trans s3)) Z (.inl μ))⟩)⟩
  case caseS =>
   have W1:=W0.keep s1;have D1:=D0.keep s1;have Ar:=W1.K.ne;have off:∀z,H z=none->z∉X:=λz hz hm=>vw z hm hz;have eY:∀z,H1 z=none->z∉X:=λz hz=>off z (s1.free hz)
   have Pm:∀(H2:Hp) (k1:Kw),k1.kp=k0.kp->k1.sl=k0.sl->k1.s=p7->k1.e=e1->k1.aH.length<=k0.aH.length+1->W5 C H2 X b ps k1->Kp [k0.sl] H1 H2->Q (.ref p7) H2:=λH2 k1 z1 z2 z3 z4 z5 W2 Ak=>by
    rw[<-z3];show k k1 H2 z1 z2 W2 ((Kp.of s1).trans Ak) z5 (.inr (by rw[z4];show ne1))
   show⟨_,μ,_,μ,_,μ,k0.kp,k0.dx,k0.sl,k0.as,b,ps,k0.aH,k0.ws,k0.aV,dv,.ref p7,d,μ,W1.K,Ao,Z,D1,?_,?_,λwd hW=>(hD.Ac hW).elim⟩
   .intro i0 wz ai t H2 hd Aq qN nt ht K2 k2
    obtain⟨h0,p,xx,_,eh,FT,ew⟩:∃h0 p xx,d=none/\k0.aV=h0++[(p,xx)]/\sv=h0/\bt=k0.ws.set p xx:=by
     rcases hD with h | ⟨p,xx,y,z,_⟩;.show h
     .rw[hd] at z;cases z
    have dY:=W1.ch;rw[eh,Aq] at dY;obtain⟨Po,a0I⟩:=dY.a0F;rw[<-ew] at Po;subst Po;have A2:=A1.Ad W1.K Ar k2;have B2:=W1.A.Ad W1.K Ar k2;have X2:W5 C H2 X b ps ⟨k0.kp,k0.dx,k0.sl,ai,i0,wz,p7,f1,k0.a,c1,e1,Ap,sv⟩:=⟨K2,λy hy=>W1.ko y (qN y hy),A2,W1.na,off _ Ai,fY,by rw[FT];show a0I⟩;have bn:jx H H2:=λz o e n=>k2.bN W1.K.ls (nE _ _) z o (s1 _ _ e) n;show⟨_,μ,_,tr,μ,hT H2 bn,gd.sh,a2o gd.dp ζ,gs,⟨_,μ,μ,_,μ,?_⟩⟩;rw[An];show aG ⟨_,μ,_,_,_,_,μ,.tup A2.hs,FD,false,μ,aG ⟨_,μ,_,_,_,_,μ,μ,aB.of B2.hs,μ,k0.f,k0.a,k0.c,b,ps,k0.ws,μ,B2.fr,λH3 s3=>?_⟩⟩;have A3:=A2.keep s3;show⟨_,μ,_,_,_,_,μ,μ,aB.of A3.hs,μ,f1,k0.a,c1,b,ps,wz,μ,A3.fr,λH4 s4=>⟨sz θ,λtt vx=>?_⟩⟩;have t4:=s3.trans s4;have s5:=f_ (o:=.tup [.int (cN b ps k0.ws),.int (cN b ps wz)]) vx;have u5:(upd H4 tt (.tup [.int (cN b ps k0.ws),.int (cN b ps wz)])) tt=_:=c_;generalize upd H4 tt (.tup [.int (cN b ps k0.ws),.int (cN b ps wz)])=H5 at s5 u5⊢;have T5:=t4.trans s5;have lY:=T5 _ _ ht;show⟨_,μ,_,_,_,_,μ,.tup lY,wV,_,μ,aG ?_⟩;show⟨_,μ,_,μ,L2.jh (qy lY (.cons (iJ _) (.cons (iJ _) .nil))) (qy u5 (.cons (iJ _) (.cons (iJ _) .nil))) μ (by simp[PyData.depth,PyData.depthAll]) ⟨_,μ,aG (⟨_,μ,t,μ,⟨_,aB.of lY⟩,Pj (K:=K) (a:=t) (xs:=[V.int (cN b ps k0.ws),V.int (cN b ps wz)]) (λi ys H'=>ys=List.replicate i (V.bl false)/\af H5 H') ⟨μ,af.refl _⟩ (λi ys H' _ h=>aB.of (h.2 _ _ lY)) ?_ ?_⟩)⟩⟩
    .rintro i x ys H' hx ⟨rfl,s'⟩;have CF:i<2:=(a1I.mp hx).1
     obtain⟨n,rfl⟩:∃n,x=V.int n:=by
      have hm:=a1K hx;simp only[a1L,a1Z,or_false] at hm;rcases hm with rfl | rfl <;> show⟨_,μ⟩
     show⟨bK (by simp;lia),_,μ,_,_,_,_,μ,.int _,mz,?_,s'⟩;rw[List.replicate_succ']
    .rintro ys H6 ⟨rfl,s6⟩ l hl;have s7:=f_ (o:=.lst (List.replicate 2 (V.bl false))) hl;show⟨l,_,μ,.inl (ae.of c_),μ,μ,_,μ,aG ⟨_,μ,?_⟩⟩;have T7:=(T5.trans s6).trans s7;show Pm _ ⟨k0.kp,k0.dx,k0.sl,ai,i0,wz,p7,f1,k0.a,c1,e1,Ap,sv⟩ μ μ μ μ (by change i0.length<=k0.aH.length+1;rw[Aq];simp;lia) (X2.keep T7) (k2.same T7)
   .intro p xx t xn H2 hd hp h1 h2 nt ht nxa nxc K2 k2
    obtain⟨y,hy,ew,FT⟩:∃y,k0.ws[p]?=some y/\bt=k0.ws.set p xx/\sv=k0.aV++[(p,y)]:=by
     rcases hD with⟨_,_,_,z,_⟩ | ⟨p',xx',y,z,_,_,_,hy,ew,eh⟩;.rw[hd] at z;cases z
     .rw[hd] at z;injection z with z;injection z with z1 z2;injection z1 with z1;injection z2 with z2;have z1':p=p':=by lia
      subst z1';subst z2;show⟨y,hy,ew,eh⟩
    subst ew;have A2:=A1.Ad W1.K Ar k2;have B2:=W1.A.Ad W1.K Ar k2
    have X2:W5 C H2 X b ps ⟨k0.kp,k0.dx,k0.sl,k0.as++[xn],k0.aH++[k0.ws],k0.ws.set p xx,p7,f1,k0.a,c1,e1,Ap,sv⟩:=⟨K2,λy hy=>by
     rcases a2l.mp hy with h | h;.show W1.ko y h
     .rw[a1X.mp h];show⟨eY _ nxa,eY _ nxc⟩,A2,W1.na,off _ Ai,fY,by rw[FT];show W1.ch.weigh hy⟩;have bn:jx H H2:=λz o e n=>k2.bN W1.K.ls (nE _ _) z o (s1 _ _ e) n;show⟨_,μ,_,tr,μ,hT H2 bn,gd.sh,a2o gd.dp ζ,gs,⟨_,μ,μ,_,μ,?_⟩⟩;rw[An];show aG ⟨_,μ,_,_,_,_,μ,.tup A2.hs,FD,false,μ,aG ⟨_,μ,_,_,_,_,μ,μ,aB.of B2.hs,μ,k0.f,k0.a,k0.c,b,ps,k0.ws,μ,B2.fr,λH3 s3=>?_⟩⟩;have A3:=A2.keep s3;show⟨_,μ,_,_,_,_,μ,μ,aB.of A3.hs,μ,f1,k0.a,c1,b,ps,(k0.ws.set p xx),μ,A3.fr,λH4 s4=>⟨sz θ,λtt vx=>?_⟩⟩;have t4:=s3.trans s4;have s5:=f_ (o:=.tup [.int (cN b ps k0.ws),.int (cN b ps (k0.ws.set p xx))]) vx;have u5:(upd H4 tt (.tup [.int (cN b ps k0.ws),.int (cN b ps (k0.ws.set p xx))])) tt=_:=c_;generalize upd H4 tt (.tup [.int (cN b ps k0.ws),.int (cN b ps (k0.ws.set p xx))])=H5 at s5 u5⊢;have T5:=t4.trans s5;have lY:=T5 _ _ ht;show⟨_,μ,_,_,_,_,μ,.tup lY,wV,_,μ,aG ?_⟩;show⟨_,μ,_,μ,L2.jh (qy lY (.cons (iJ _) (.cons (iJ _) .nil))) (qy u5 (.cons (iJ _) (.cons (iJ _) .nil))) μ (by simp[PyData.depth,PyData.depthAll]) ⟨_,μ,aG (⟨_,μ,t,μ,⟨_,aB.of lY⟩,Pj (K:=K) (a:=t) (xs:=[V.int (cN b ps k0.ws),V.int (cN b ps (k0.ws.set p xx))]) (λi ys H'=>ys=List.replicate i (V.bl false)/\af H5 H') ⟨μ,af.refl _⟩ (λi ys H' _ h=>aB.of (h.2 _ _ lY)) ?_ ?_⟩)⟩⟩
    .rintro i x ys H' hx ⟨rfl,s'⟩;have CF:i<2:=(a1I.mp hx).1
     obtain⟨n,rfl⟩:∃n,x=V.int n:=by
      have hm:=a1K hx;simp only[a1L,a1Z,or_false] at hm;rcases hm with rfl | rfl <;> show⟨_,μ⟩
     show⟨bK (by simp;lia),_,μ,_,_,_,_,μ,.int _,mz,?_,s'⟩;rw[List.replicate_succ']
    .rintro ys H6 ⟨rfl,s6⟩ l hl;have s7:=f_ (o:=.lst (List.replicate 2 (V.bl false))) hl;show⟨l,_,μ,.inl (ae.of c_),μ,μ,_,μ,aG ⟨_,μ,?_⟩⟩;have T7:=(T5.trans s6).trans s7;show Pm _ ⟨k0.kp,k0.dx,k0.sl,k0.as++[xn],k0.aH++[k0.ws],k0.ws.set p xx,p7,f1,k0.a,c1,e1,Ap,sv⟩ μ μ μ μ (by change(k0.aH++[k0.ws]).length<=k0.aH.length+1;simp) (X2.keep T7) (k2.same T7)
def Pp(ok:fX b ps ws):(Mx.aR b d ps ws (b ^ ps.sum)).natAbs.log2<1920:=by
 have h1:=Mx.YT b d ps ws (b ^ ps.sum);have h0:=Mx.YS b d ps ws (b ^ ps.sum);have h2:=a2o (a4N ok.b8 _) (a4J ζ ok.sum.2);by_cases hz:(Mx.aR b d ps ws (b ^ ps.sum)).natAbs=0;.rw[hz];decide
 .show(Nat.log2_lt hz).mpr<|a3x (a2o ?_ h2)<|by decide +kernel
  omega
def Pq:aS ["store","keeper","frame","asked"] ["store","keeper","frame","asked"] (h_ Cl):=⟨μ,μ,μ,ξ,μ,ξ,ξ⟩
def ob_(F:aM K "_law_again_right" "_law_again_right" Cl f fd)(T:Txt mg)(fQ:mg "str"=none)(bR:ak P w K mg base 1 "_law_take" ["store","many"] gu)(sk:ak P w K mg base 2 "_law_near" ["frame","d"] mZ)(so:ak P w K mg base 9 "_law_by" ["sheet","k"] uQ)(sq:ak P w K mg base 1 "_law_sheet" ["frame","d"] uL)(cl:cA K C)(sr:fD P w K mg base 7 C "near" ["self","d"] (va C))(ss:fD P w K mg base 14 C "even" ["self","k"] (vb C)):aA P w K mg base aI 15 f fd ["store","keeper","frame","asked"] (Al C):=by
 show F.ok Pq λao A outer s H vs Q E hr h=>?_
 .obtain⟨st,la,k0,b,ps,X,d,n,rfl,S,W0,hX,dG,k⟩:=h;show⟨_,(b_ (E_ (t_ vY (J_ HI η fQ vm (a_ (zF cl sr hr.mo (pv 1) (a_ (bf (pv 3) e_) d_)) d_)) (J_ HI η fQ vm (a_ (o_ sk hr.mo η (a_ (pv 2) (a_ (bf (pv 3) e_) d_))) d_)) (aY _)) (g_ (m_ eG)) q_) (b_ (E_ (t_ dI (o_ bR hr.mo η (a_ (pv 0) (a_ e_ d_))) e_ (aY _)) (g_ (m_ eG)) q_) (g_ (m_ (ge dI (zF cl ss hr (pv 1) (a_ (bf (pv 3) e_) d_)) (o_ so hr.mo η (a_ (o_ sq hr.mo η (a_ (pv 2) (a_ e_ d_))) (a_ (bf (pv 3) e_) d_))) (aY _)))))),?_⟩;have ok:=W0.A.fr.ok;show⟨_,μ,k0.kp,k0.dx,_,μ,W0.K.ob,ix ξ,_,μ,bU dG μ ⟨k0.kp,k0.dx,k0.sl,k0.as,b,ps,k0.aH,k0.ws,d,μ,W0.K,λH1 s1=>?_⟩⟩;have W1:=W0.keep s1;show⟨_,μ,Pp ok,(⟨_,μ,_,μ,bU (s1 _ _ dG) μ ⟨k0.f,k0.a,k0.c,b,ps,k0.ws,d,μ,W1.A.fr,λH2 s2=>⟨_,μ,Pp ok,μ,_,μ,?_⟩⟩⟩)⟩;rw[An];have t2:=s1.trans s2;have S2:=S.keep t2;show aG ⟨_,μ,st,2,μ,S2,ζ,ζ,λr H3 r0 r1 S3 su=>⟨μ,_,μ,dQ (λ_=>k H3 S3 ((Kp.of t2).trans su)) (λ_=>?_)⟩⟩;have W3:=(W0.keep t2).dH S2.ni hX su;have Ps:=su _ _ (t2 _ _ dG) (by simpa using S2.ne (t2 _ _ dG) (λg c j z=>by simp at z));show⟨_,μ,k0.kp,k0.dx,_,μ,W3.K.ob,ix ξ,_,μ,bU Ps μ ⟨k0.kp,k0.dx,k0.sl,k0.as,b,ps,k0.aH,k0.ws,n,μ,W3.K,λv H4 s4 hv=>?_⟩⟩;have W4:=W3.keep s4;show⟨_,μ,k0.f,k0.a,k0.c,b,ps,k0.ws,0,μ,W4.A.fr,λsh rl FP rs bj H5 s5 Sh5 FQ=>(⟨_,μ,bU (s5 _ _ (s4 _ _ Ps)) μ ⟨sh,rl,FP,k0.f,k0.a,k0.c,rs,bj,b,_,ps,k0.ws,n,μ,Sh5,a2u _,λu H6 dj kk6 hu=>?_⟩⟩)⟩;cases hu.same hv;have t6:=m9 s5 FQ kk6;have fin:=k H6 (S3.keep (s4.trans t6)) (((Kp.of t2).trans su).same (s4.trans t6));rcases hv with⟨rfl,_⟩ | ⟨m,rfl,_⟩
  .show⟨μ,?_⟩;rw[decide_eq_true μ];show fin
  .show⟨μ,?_⟩;rw[decide_eq_true μ];show fin
end Hv
namespace L2
open PySem
def qt_{pos px py pt:Pos}(sc:Scope)(NX:List Str)(fs:List Str)(fr:List Nat)(hc:X.calm=true)(cg:PI X (.Tuple [.Name x px,.Name y py] n0 pt) iter wi)(hi:∀cl C s H fp,PF (X.cmp (x::y::fs) scope cl C s H fp) cT tc)(he:∀cl C s H fp,PE (X.cmp (x::y::fs) scope cl C s H fp) dr te) (ok:kR sc scope NX (x::y::fs) 2 fr=true) (hX:X.env.scope=sc:=by rfl) (hN:X.N=NX:=by rfl) (hk:scope.kind=.function:=by rfl) (hx:scope.names.lookup x=some .local:=by rfl) (hy:scope.names.lookup y=some .local:=by rfl) (hs:∀x,foldedSetIterable iter X.env x=pure x:=by intro _;rfl):PE X (.ListComp dr [⟨.Tuple [.Name x px,.Name y py] n0 pt,iter,cT,0⟩] scope pos) (tq 2 fr wi (qg X.K 2 (nU (jc 0) (nU (jc 1) vO))) tc te) := wJ (qu hX hk ok) (qv hN ok) hc cg (λcl C s H fp=>wT (X:=X.cmp _ _ cl C s H fp) X.K μ hc<|r_ (k_ 0 (.inr<|lookup_relabel_local hx) (hN:=wK ok) (hx:=Or.inl (lookup_relabel_local hx)))<|r_ (k_ 1 (.inr<|lookup_relabel_local hy) (hN:=wK ok) (hx:=Or.inl (lookup_relabel_local hy))) fj) (Tq<|IJ (wH<|by decide) (IJ (wH<|by decide) To (λ_ _ _ _ _ m q=>m _ _ q)<|λ_ _ _ _ _ m q=>⟨q.1,m _ _ q.2⟩) (λ_ _ _ _ _ m q=>m _ _ q)<|λ_ _ _ _ _ m q=>by obtain⟨a,r,e,q⟩:=q;show⟨a,r,e,q.1,m _ _ q.2⟩) hi he hs
end L2
namespace Hv
open PySem L2
inductive As(vs:List V)(H:Hp)(Q:VK)(aw:XK):Prop
 | mk:∀(st:Addr) (L:Nat),(vs=[.ref st,.int L])->(bh H st)->((L=3\/L=6))->(∀H',bh H' st->Kp [st] H H'->Q (.bl true) H')->As vs H Q aw
def W5.vy(W:W5 C H [st] b ps k)(S:bh H st)(A:f7 H [st] b ps hl hs)(n1:k.sl≠hl)(n2:k.e≠hl)(t:Kp [st,hl] H H'):W5 C H' [st] b ps k:=by
 have g:∀z o,H z=some o->NR o->z≠st->H' z=some o:=λz o e nr ns=>t z o e<|λhz=>by
  simp only[a1L,a1Z,or_false] at hz;rcases hz with rfl | rfl;.show ns μ
  .rw[A.hl] at e;show nr _ (a1Q e).symm<|nE _ _
 have nt:∀z o,H z=some o->(∀g xs,o≠.lst _)->z≠st:=λz o e q=>S.ni.ne e q;have gf:∀ {f a c:Addr} {ws:List Int},aU H f a c b ps ws->a≠st->c≠st->aU H' f a c b ps ws:=λG na nc => ⟨g _ _ G.tp iy<|nt _ _ G.tp (λ_ _ z=>by cases z),g _ _ G.hp (Oj<|by have:=G.ok.l2;lia) na,g _ _ G.hw (Ol<|by have:=G.ok.wl;have:=G.ok.sum;lia) nc,G.ok⟩;show⟨⟨g _ _ W.K.ob se_<|nt _ _ W.K.ob (λ_ _ z=>by cases z),t _ _ W.K.ls<|by simp[n1,S.ni.refs W.K.ls],W.K.len,λi x ws h1 h2=>gf (W.K.each i x ws h1 h2) (by simpa using (W.ko x<|a1K h1).1)<|by simpa using (W.ko x<|a1K h1).2⟩,W.ko,⟨g _ _ W.A.hs iy<|nt _ _ W.A.hs (λ_ _ z=>by cases z),gf W.A.fr (by simpa using W.na)<|by simpa using W.nc,t _ _ W.A.he<|by simp[n2,S.ni.refs W.A.he],W.A.hl,λi k' h h1 h2=>g _ _ (W.A.hk i k' h h1 h2) iy<|nt _ _ (W.A.hk i k' h h1 h2)<|λ_ _ z=>by cases z⟩,W.na,W.nc,W.hr,W.ch⟩
def W5.mono(W:W5 C H X b ps k)(h:∀x∈Y,x∈X):W5 C H Y b ps k := ⟨W.K,λx hx=>⟨λz=>(W.ko x hx).1<|h _ z,λz=>(W.ko x hx).2<|h _ z⟩,W.A,λz=>W.na<|h _ z,λz=>W.nc<|h _ z,W.hr,W.ch⟩
def At(k:Kp [st] H H1)(S:bh H1 st)(h:H1 z=none):H z=none:=by
 cases e:H z with
 | none=>rfl
 | some o =>
  by_cases n:z=st;.show absurd n<|S.off h
  .rw[k _ _ e (by simpa using n)] at h;cases h
structure R3(C:Addr)(H0 H:Hp)(st kp hl la:Addr)(b:Nat)(ps:List Nat)(d n:Nat)(k:Kw)(hs:List f6)(m q:Nat):Prop where
 S:bh H st
 W:W5 C H [st] b ps k
 A:f7 H [st] b ps hl hs
 dG:H la=some (.lst [.int d,.int n])
 gB:k.kp=kp
 ns:k.sl≠hl
 ne:k.e≠hl
 li:k.aH.length<=m
 lh:hs.length<=q
 f1:H0 k.sl=none
 f2:H0 hl=none
 f3:la≠hl
 sm:Kp [st] H0 H
theorem R3.keep(R:R3 C H0 H st kp hl la b ps d n k hs m q)(t:af H H'):R3 C H0 H' st kp hl la b ps d n k hs m q:=⟨R.S.keep t,R.W.keep t,R.A.keep t,t _ _ R.dG,R.gB,R.ns,R.ne,R.li,R.lh,R.f1,R.f2,R.f3,R.sm.same t⟩
def R3.ej(R:R3 C H0 H st kp hl la b ps d n k hs m q)(S':bh H' st)(t:Kp [st] H H'):R3 C H0 H' st kp hl la b ps d n k hs m q:=⟨S',R.W.dH R.S.ni θ t,R.A.dH R.S.ni θ t,t _ _ R.dG<|by simpa using R.S.ne R.dG (λg c j z=>by simp at z),R.gB,R.ns,R.ne,R.li,R.lh,R.f1,R.f2,R.f3,R.sm.trans t⟩
def R3.le(R:R3 C H0 H st kp hl la b ps d n k hs m q)(h1:m<=m')(h2:q<=q'):R3 C H0 H st kp hl la b ps d n k hs m' q':=⟨R.S,R.W,R.A,R.dG,R.gB,R.ns,R.ne,a2o R.li h1,a2o R.lh h2,R.f1,R.f2,R.f3,R.sm⟩
def sl_{fp:List Addr}(s:Kp [st] H0 H)(hy:H0 y=none)(t:Kp [st,y] H H'):Kp [st] H0 H':=λz o e nz=>t z o (s z o e nz)<|λh=>by grind
theorem R3.vy(R:R3 C H0 H st kp hl la b ps d n k hs m q)(S':bh H' st)(t:Kp [st,hl] H H')(A':f7 H' [st] b ps hl (hs++[x])):R3 C H0 H' st kp hl la b ps d n k (hs++[x]) m (q+1) := ⟨S',R.W.vy R.S R.A R.ns R.ne t,A',t _ _ R.dG<|by simp[R.f3,R.S.ne R.dG (λg c j z=>by simp at z)],R.gB,R.ns,R.ne,R.li,by simp;show R.lh,R.f1,R.f2,R.f3,sl_ (fp:=[]) R.sm R.f2 t⟩
def R3.al(R:R3 C H0 H st kp hl la b ps d n k hs m q):∀x∈[st],H x≠none:=λx hx z=>R.S.off z<|a1X.mp hx
def R3.a0J(R:R3 C H0 H st kp hl la b ps d n k hs m q)(e1:k1.kp=k.kp)(e2:k1.sl=k.sl)(W:W5 C H' [st] b ps k1)(t:Kp [k.sl] H H')(h:k1.aH.length<=k.aH.length+1)(he:k1.e=k.e\/H k1.e=none):R3 C H0 H' st kp hl la b ps d n k1 hs (m+1) q:=by
 have s:=t.bN R.W.K.ls (nE _ _);show⟨R.S.bN s,W,R.A.bN s<|by rw[t _ _ R.A.hl (by simpa using R.ns.symm),R.A.hl],s _ _ R.dG<|rT (i:=d)<|by simp,by rw[e1];show R.gB,by rw[e2];show R.ns,?_,by have:=R.li;lia,R.lh,by rw[e2];show R.f1,R.f2,R.f3,λz o e nz=>t z o (R.sm z o e nz)<|λhz=>by rw[a1X.mp hz,R.f1] at e;cases e⟩;rcases he with he | he;.rw[he];show R.ne
 .show λz=>by rw[z,R.A.hl] at he;cases he
def Pt:aS ["store","longest","frame","handed","keeper","state","held","asked","turn","deed","again","question"] ["store","longest"] (h_ xu):=⟨μ,μ,μ,ξ,μ,ξ,ξ⟩
def rY_(F:aM K "_law_run_right" "_law_run_right" xu f fd)(T:Txt mg)(bR:ak P w K mg base 1 "_law_take" ["store","many"] gu)(FU:ak P w K mg base 2 "_law_frame" ["store","longest"] xY)(sg:ak P w K mg base 1 "_law_copy" ["frame"] j7)(sj:ak P w K mg base 2 "_law_d" ["store","frame"] vt)(FV:ak P w K mg base 2 "_law_deed" ["store","state"] zR)(Au:ak P w K mg base 15 "_law_again_right" ["store","keeper","frame","asked"] (Al C))(FW:ak P w K mg base 10 "_law_deed_right" ["keeper","state","deed"] (Am C))(Av:ak P w K mg base 15 "_law_told_right" ["store","keeper","state","held"] (Aj C))(si:ak P w K mg base 3 "_law_frame_right" ["store","keeper","frame","held"] (vv C))(cl:cA K C)(jv:fD P w K mg base 1 C "changes" ["self"] (pR C))(FX:zE P w K mg base 6 "Keeper" C ["self","frame"] (uY C)):aA P w K mg base aI 16 f fd ["store","longest"] As:=by
 show F.ok Pt λao A outer s H vs Q E hr h=>?_
 .obtain⟨st,L,rfl,S,hL,k⟩:=h;have nd:=Pt.nd;show⟨_,(b_ (i_ 2 (o_ FU hr.mo η (a_ (pv 0) (a_ (pv 1) d_)))) (b_ (i_ 3 (o_ sg hr.mo η (a_ (pv 2) d_))) (b_ (i_ 4 (sU_ FX hr.mo η (a_ (pv 3) d_))) (b_ (i_ 5 (dJ (a_ (pv 2) (a_ (x_ d_) d_)))) (b_ (i_ 6 (x_ d_)) (b_ (G_ (fk PySem.F.plainAttrs_list PySem.F.slot_list_append PySem.F.type_list_append K_ (aW (pv 3) e_) (a_ e_ d_))) (b_ (G_ (Il PySem.F.plainAttrs_list PySem.F.slot_list_reverse PySem.F.type_list_reverse SN (aW (pv 3) e_))) (b_ (G_ (fk PySem.F.plainAttrs_list PySem.F.slot_list_append PySem.F.type_list_append K_ (aW (pv 3) e_) (a_ e_ d_))) (b_ (i_ 7 (x_ (a_ (o_ sj hr.mo η (a_ (pv 0) (a_ (pv 2) d_))) (a_ (o_ bR hr.mo η (a_ (pv 0) (a_ e_ d_))) d_)))) (b_ (B_ PassesOwn.never μ (z_ η T.range (a_ (o_ bR hr.mo η (a_ (pv 0) (a_ (bf (x_ (a_ e_ (a_ e_ d_))) (J_ kI η T.int boot_int (a_ (ge mh (pv 1) e_ (aY _)) d_))) d_))) d_)) (k_ 8) (b_ (zc (E_ (PW.pt (vN (t_ mh (pv 1) e_ (aY _)) (vM (cY (V_ (o_ Au hr η (a_ (pv 0) (a_ (pv 4) (a_ (aW (pv 5) e_) (a_ (pv 7) d_)))))))))) (g_ (m_ eG)) q_)) (b_ (i_ 9 (o_ FV hr.mo η (a_ (pv 0) (a_ (pv 5) d_)))) (b_ (B_ PassesOwn.never μ (z_ η T.range (a_ (bf (x_ (a_ e_ (a_ e_ (a_ e_ (a_ e_ d_))))) (o_ bR hr.mo η (a_ (pv 0) (a_ e_ d_)))) d_)) (k_ 10) (b_ (i_ 5 (o_ FW hr.mo η (a_ (pv 4) (a_ (pv 5) (a_ (pv 9) d_))))) (g_ (E_ (t_ mi (pv 5) cX (aY _)) (g_ (m_ eG)) q_)))) (g_ (B_ PassesOwn.never μ (z_ η T.range (a_ (n_ Q_ (o_ bR hr.mo η (a_ (pv 0) (a_ e_ d_))) (J_ kI η T.int boot_int (a_ (ge kH (pv 1) e_ (aY _)) d_))) d_)) (k_ 11) (g_ (E_ (cY (V_ (o_ Av hr η (a_ (pv 0) (a_ (pv 4) (a_ (pv 5) (a_ (pv 6) d_))))))) (g_ (m_ eG)) q_)))))))) (b_ (B_ PassesOwn.never μ (z_ η T.range (a_ e_ d_)) (k_ 11) (g_ (E_ (cY (V_ (o_ Av hr η (a_ (pv 0) (a_ (pv 4) (a_ (pv 5) (a_ (pv 6) d_))))))) (g_ (m_ eG)) q_))) (b_ (zc (E_ (PW.pt (vN (t_ mh (pv 1) e_ (aY _)) (vM (cY (V_ (o_ Au hr η (a_ (pv 0) (a_ (pv 4) (a_ (aW (pv 5) e_) (a_ (pv 7) d_)))))))))) (g_ (m_ eG)) q_)) (b_ (E_ (PW.pt (iY (cY (V_ (o_ si hr.mo η (a_ (pv 0) (a_ (pv 4) (a_ (aW (pv 5) e_) (a_ (pv 6) d_))))))) (kA (t_ vY (rQ cl jv hr.mo (pv 4)) (dw T.len η (aW (pv 5) e_)) (aY _))))) (g_ (m_ eG)) q_) (g_ (m_ (ge (y9 P w μ μ hr.units) (qt_ (h_ xu) ["store","longest","frame","handed","keeper","state","held","asked","turn","deed","again","question"] [] [] μ (I_ (pv 6)) (λcl C s H fp=>(Bk (t_ (wU P w μ μ hr.units) (pv 0) (pv 1) (aY _)))) (λcl C s H fp=>e_) ξ) (x_ d_) (aY _))))))))))))))))),?_⟩;show⟨_,μ,_,μ,st,L,μ,S,Z,Z,λf0 a c0 b ps lZ H1 E1 k1 G1 nf na nc=>?_⟩;have Pu:a≠st:=S.off na;have Pw:c0≠st:=S.off nc;have ok:=G1.ok;have cO:=ok.wl;have uX:=ok.sum;have EA:=ok.l4;show⟨_,μ,f0,a,c0,b,ps,lZ,μ,G1,λfh ah ch H2 s2 G2 nfh sw iC lQ=>?_⟩;have E2:=E1.keep s2;have a0K:ah≠st:=E1.off sw;have a0L:ch≠st:=E1.off iC;show⟨_,μ,λkp dx nk CJ ba=>qN_ G2 nk CJ λsl x H3 s3 K3 Ah nx1 nx2=>?_⟩;show⟨_,μ,sz θ,λe0 EE=>⟨sz θ,λs0 Px=>?_⟩⟩;have t4:=f_ (o:=.lst []) EE;have u4:(upd H3 e0 (.lst [])) e0=some (.lst (([]:List Addr).map V.ref)):=c_;generalize upd H3 e0 (.lst [])=H4 at t4 u4 Px⊢;have t5:=f_ (o:=.tup [.ref f0,.ref e0]) Px;have u5:(upd H4 s0 (.tup [.ref f0,.ref e0])) s0=_:=c_;generalize upd H4 s0 (.tup [.ref f0,.ref e0])=H5 at t5 u5⊢;show⟨sz θ,λhl sA=>?_⟩;have t6:=f_ (o:=.lst []) sA;have u6:(upd H5 hl (.lst [])) hl=some (.lst (([]:List f6).map λx=>V.ref x.t)):=c_;generalize upd H5 hl (.lst [])=H6 at t6 u6⊢;have Aw:af H2 H6:=((s3.trans t4).trans t5).trans t6;have T36:af H3 H6:=(t4.trans t5).trans t6;have kg:=G2.keep Aw;have Gf6:=(G1.keep s2).keep Aw
  have Py:∀z,H2 z=none->z∉[st,ah,ch]:=λz hz hm=>by
   simp only[a1L,a1Z,or_false] at hm;rcases hm with rfl | rfl | rfl;.show E2.off hz μ
   .rw[G2.hp] at hz;cases hz
   .rw[G2.hw] at hz;cases hz
  have fa:a∉[st,ah,ch]:=λhm=>by
   simp only[a1L,a1Z,or_false] at hm;rcases hm with rfl | rfl | rfl;.show Pu μ
   .rw[G1.hp] at sw;cases sw
   .rw[G1.hp] at iC;cases iC
  have fc:c0∉[st,ah,ch]:=λhm=>by
   simp only[a1L,a1Z,or_false] at hm;rcases hm with rfl | rfl | rfl;.show Pw μ
   .rw[G1.hw] at sw;cases sw
   .rw[G1.hw] at iC;cases iC
  have W6:W5 C H6 [st,ah,ch] b ps ⟨kp,dx,sl,[x],[],lZ,s0,f0,a,c0,e0,[],[]⟩:=by
   show⟨K3.keep T36,λy hy=>?_,⟨t6 _ _ u5,Gf6,t6 _ _ (t5 _ _ u4),μ,λi k h h1 h2=>?_⟩,fa,fc,λh hh=>?_,μ,λi u v h h1 h2 h3=>?_⟩;.rw[a1X.mp hy];show⟨Py _ nx1,Py _ nx2⟩
   .simp at h1
   .simp at hh
   .simp at h3
  show⟨_,μ,_,_,_,_,μ,μ,aB.of kg.tp,μ,.inl ⟨μ,_,ae.of kg.hp⟩,ah,_,_,μ,μ,kg.hp,bK (by simp[az];lia),?_⟩;have k7:Kp [ah] H6 (upd H6 ah (.lst (az ps++[V.int 1]))):=dL (Kp.of (af.refl _)) (.inl θ);generalize upd H6 ah (.lst (az ps++[V.int 1]))=H7 at k7⊢;have FY:=k7 _ _ kg.tp (by simpa using kg.Ae.ne kg.tp (λ_ _ z=>by cases z));have Pz:=k7 _ _ kg.hw (by simpa using lQ.symm);have W7:=W6.dH kg.Ae θ k7;have pM:=k7 _ _ u6 (by simpa using kg.Ae.refs (g:=λx:f6=>x.t) u6);have S7:bh H7 st:=let ⟨g,c,j,e⟩:=E2.keep Aw;⟨g,c,j,k7 _ _ e (by simpa using a0K.symm)⟩
  show⟨_,μ,_,_,_,_,μ,μ,aB.of FY,μ,.inl ⟨μ,_,ae.of Pz⟩,ch,_,μ,μ,Pz,?_⟩;have k8:Kp [ch] H7 (upd H7 ch (.lst (lZ.map V.int).reverse)):=dL (Kp.of (af.refl _)) (.inl θ);have u8:(upd H7 ch (.lst (lZ.map V.int).reverse)) ch=_:=c_;generalize upd H7 ch (.lst (lZ.map V.int).reverse)=H8 at k8 u8⊢
  have n7:NI H7 ch:=by
   obtain⟨g,xs,hg⟩:=kg.niw;show⟨g,xs,k7 _ _ hg (by simpa using lQ.symm)⟩
  have tp8:=k8 _ _ FY (by simpa using n7.ne FY (λ_ _ z=>by cases z));show⟨_,μ,_,_,_,_,μ,μ,aB.of tp8,μ,.inl ⟨μ,_,ae.of u8⟩,ch,_,_,μ,μ,u8,bK (by simp;lia),?_⟩;have k9:Kp [ch] H7 (upd H8 ch (.lst ((lZ.map V.int).reverse++[V.int 1]))):=dL k8 (.inl θ);generalize upd H8 ch (.lst ((lZ.map V.int).reverse++[V.int 1]))=H9 at k9⊢;have W9:=W7.dH n7 θ k9;have PB:=k9 _ _ pM (by simpa using n7.refs (g:=λx:f6=>x.t) pM);have S9:bh H9 st:=let ⟨g,c,j,e⟩:=S7;⟨g,c,j,k9 _ _ e (by simpa using a0L.symm)⟩
  show⟨_,μ,_,μ,st,f0,a,c0,b,ps,lZ,μ,S9,W9.A.fr,Pu,Pw,λd ik lN lM=>?_⟩;show⟨_,μ,st,4,μ,lN,ζ,ζ,λnz rY n0 n1 S11 zY=>⟨sz θ,λla dG=>?_⟩⟩;obtain⟨n,rfl⟩:∃n:Nat,nz=(n:Int):=⟨nz.toNat,Z⟩;have Ax:Kp [st] H9 rY:=lM.trans zY;have PD:=W9.dH S9.ni θ Ax;have PH:=Ax _ _ PB (by simpa using S9.ni.refs (g:=λx:f6=>x.t) PB);have vz:=f_ (o:=.lst [V.int d,V.int n]) dG;have uT:(upd rY la (.lst [V.int d,V.int n])) la=_:=c_;generalize upd rY la (.lst [V.int d,V.int n])=zA at vz uT⊢;have hah:H ah=none:=At k1 E1 sw;have dY:H ch=none:=At k1 E1 iC
  have R12:R3 C H zA st kp hl la b ps d n ⟨kp,dx,sl,[x],[],lZ,s0,f0,a,c0,e0,[],[]⟩ [] 0 0:=by
   show⟨S11.keep vz,(PD.keep vz).mono θ,⟨vz _ _ PH,θ,θ,θ,θ⟩,uT,μ,?_,?_,a1M _,a1M _,At k1 E1 (s2.free Ah),At k1 E1 (s2.free (s3.free (t4.free (t5.free sA)))),?_,λz o e nz=>?_⟩;.show λz=>by rw[<-z,t5 _ _ (t4 _ _ K3.ls)] at sA;cases sA
   .show λz=>by rw[<-z,t5 _ _ u4] at sA;cases sA
   .show λz=>by rw[z,PH] at dG;cases dG
   .have e6:=Aw _ _ (s2 _ _ (k1 _ _ e nz));have e7:=k7 _ _ e6 (λhz=>by rw[a1X.mp hz,hah] at e;cases e);have e9:=k9 _ _ e7 (λhz=>by rw[a1X.mp hz,dY] at e;cases e);show vz _ _ (Ax _ _ e9 nz)
  clear PD W9 W7 W6 k7 k8 k9 Ax lM zY;show⟨_,μ,sz θ,λll pW=>?_⟩;have t13:=f_ (o:=.lst ([17,5].map V.int)) pW;have u13:(upd zA ll (.lst ([17,5].map V.int))) ll=_:=c_;have PJ:=R12.keep t13;obtain⟨TT,eT,hT1,hT2⟩:=mL (ns:=[17,5]) (i:=if decide ((3:Int)<(L:Int))=true then 1 else 0) (Pr:=λn=>0<n/\n<=17) (by split <;> decide) (by split <;> decide) θ;show⟨_,μ,_,_,μ,μ,.inr ⟨_,μ,bU u13 eT ?_⟩⟩;show⟨st,TT,μ,PJ.S,Z,Z,λr FK r0 r1 S14 kf=>?_⟩;have R14:=PJ.ej S14 kf;show⟨_,μ,Z,Z,H_ (n:=r.toNat) (λj σ H'=>∃k hs v8 v9 bW bQ,σ=[some (.ref st),some (.int (L:Int)),some (.ref f0),some (.ref fh),some (.ref kp),some (.ref k.s),some (.ref hl),some (.ref la),v8,v9,bW,bQ]/\R3 C H H' st kp hl la b ps d n k hs (2*j) (2*j)) ⟨_,[],none,none,none,none,μ,R14⟩ ?_ ?_⟩
  .rintro j σ H15 hj ⟨k0,hs,v8,v9,bW,bQ,rfl,l0⟩;have Dl:j<17:=by lia
   show⟨fun σ H'=>σ=[some (.ref st),some (.int (L:Int)),some (.ref f0),some (.ref fh),some (.ref kp),some (.ref k0.s),some (.ref hl),some (.ref la),some (.int (0+(j:Int))),v9,bW,bQ]/\R3 C H H' st kp hl la b ps d n k0 hs (2*j) (2*j),?ag,?rest⟩
   case ag =>
    show⟨_,μ,_,_,μ,μ,_,μ,dQ (λ_=>?_) (λ_=>aG ⟨μ,l0⟩)⟩;show⟨_,μ,_,μ,_,μ,_,_,_,_,μ,μ,aB.of l0.W.A.hs,μ,_,μ,st,la,k0,b,ps,[st],d,n,(by rw[l0.gB];rfl),l0.S,l0.W,θ,l0.dG,λPK pN FZ=>⟨_,μ,aG ⟨μ,l0.ej pN FZ⟩⟩⟩
   case rest =>
    rintro σ PK ⟨rfl,vA⟩;show⟨_,μ,_,μ,st,k0.s,k0.f,k0.a,k0.c,k0.e,k0.ks,b,ps,k0.ws,k0.aV,μ,vA.S,vA.W.A,by simpa using vA.W.na,by simpa using vA.W.nc,λdv dd H17 S17 k17 D17=>?_⟩;have PL:=vA.ej S17 k17;show⟨sz θ,λl4 PM=>?_⟩;have PN:=f_ (o:=.lst ([1,1,1,2].map V.int)) PM;have u18:(upd H17 l4 (.lst ([1,1,1,2].map V.int))) l4=_:=c_;have F0:=PL.keep PN;have D18:=D17.keep PN;have n18:l4∉[st]:=PL.S.eY PM;show⟨_,μ,st,4,μ,F0.S,ζ,ζ,λr4 H19 rW rX S19 F2=>?_⟩;obtain⟨AA,eA,hA1,hA2⟩:=mL (ns:=[1,1,1,2]) (i:=r4) (Pr:=λn=>0<n/\n<=2) rW rX θ;show bU (F2 _ _ u18 n18) eA ?_;have R19:=F0.ej S19 F2;have D19:=D18.ej F0.S F2;show⟨_,μ,Z,Z,H_ (n:=AA.toNat) (λi σ H'=>∃k bW bQ,σ=[some (.ref st),some (.int (L:Int)),some (.ref f0),some (.ref fh),some (.ref kp),some (.ref k.s),some (.ref hl),some (.ref la),some (.int (0+(j:Int))),some dv,bW,bQ]/\R3 C H H' st kp hl la b ps d n k hs (2*j+i) (2*j)/\fZ H' dv dd) ⟨k0,bW,bQ,μ,R19,D19⟩ ?_ ?_⟩
    .rintro i σ H20 hi ⟨k1,bW,bQ,rfl,l7,F4⟩;show⟨_,μ,_,μ,_,μ,k1,b,ps,[st],dv,dd,(by rw[l7.gB];rfl),l7.W,by have:=l7.li;lia,F4,l7.al,λk2 H21 e1 e2 W21 Ay h21 he=>?_⟩;show⟨_,μ,μ,_,μ,?_⟩;rw[decide_eq_false (by simp)];show aG ⟨k2,_,_,μ,l7.a0J e1 e2 W21 Ay h21 he,F4.bN (Ay.bN l7.W.K.ls (nE _ _))⟩
    .rintro σ H20 ⟨k1,bW,bQ,rfl,l7,F4⟩;show⟨_,μ,st,3,μ,l7.S,ζ,ζ,λr5 H21 OL OM S21 Ay=>?_⟩;have R21:=l7.ej S21 Ay;show⟨_,μ,_,_,μ,μ,.inr ⟨_,μ,_,_,μ,μ,.inr (by split <;> decide),?_⟩⟩;have hE:0<=r5*(if decide ((L:Int)<4)=true then 1 else 0)/\r5*(if decide ((L:Int)<4)=true then 1 else 0)<=2:=by split <;> constructor <;> lia
     show⟨_,μ,a3e ζ hE.1,Int.lt_of_le_of_lt hE.2 ζ,H_ (n:=(r5*(if decide ((L:Int)<4)=true then 1 else 0)).toNat) (λi σ H'=>∃hs bW bQ,σ=[some (.ref st),some (.int (L:Int)),some (.ref f0),some (.ref fh),some (.ref kp),some (.ref k1.s),some (.ref hl),some (.ref la),some (.int (0+(j:Int))),some dv,bW,bQ]/\R3 C H H' st kp hl la b ps d n k1 hs (2*(j+1)) (2*j+i)) ⟨hs,_,_,μ,R21.le Z Z⟩ ?_ ?_⟩;all_goals have hE2:(r5*(if decide ((L:Int)<4)=true then 1 else 0)).toNat<=2:=Int.toNat_le.mpr hE.2
     all_goals generalize (r5*(if decide ((L:Int)<4)=true then 1 else 0)).toNat=mm at hE2⊢
     .rintro i σ F5 hi ⟨cr,bW,bQ,rfl,cw⟩;show⟨_,μ,_,μ,_,μ,_,μ,st,hl,k1,b,ps,cr,[st],(by rw[cw.gB];rfl),cw.S,cw.W,by have:=cw.li;lia,cw.A,by have:=cw.lh;lia,θ,cw.al,cw.ns,λH' S' kk=>⟨_,μ,aG ⟨cr,_,_,μ,(cw.ej S' kk).le (a1M _) Z⟩⟩,λx H' S' kk A'=>⟨_,μ,aG ⟨cr++[x],_,_,μ,cw.vy S' kk A'⟩⟩⟩
     .rintro σ F5 ⟨cr,bW,bQ,rfl,cw⟩;show⟨k1,cr,_,_,_,_,μ,cw.le (a1M _) Z⟩
  .rintro σ H15 ⟨k0,hs,v8,v9,bW,bQ,rfl,l0⟩;show⟨_,μ,ζ,ζ,H_ (n:=2) (λi σ H'=>∃hs bQ,σ=[some (.ref st),some (.int (L:Int)),some (.ref f0),some (.ref fh),some (.ref kp),some (.ref k0.s),some (.ref hl),some (.ref la),v8,v9,bW,bQ]/\R3 C H H' st kp hl la b ps d n k0 hs (2*r.toNat) (2*r.toNat+i)) ⟨hs,bQ,μ,l0⟩ ?_ ?_⟩
   .rintro i σ F5 hi ⟨cr,bQ,rfl,cw⟩;show⟨_,μ,_,μ,_,μ,_,μ,st,hl,k0,b,ps,cr,[st],(by rw[cw.gB];rfl),cw.S,cw.W,by have:=cw.li;lia,cw.A,by have:=cw.lh;lia,θ,cw.al,cw.ns,λH' S' kk=>⟨_,μ,aG ⟨cr,_,μ,(cw.ej S' kk).le (a1M _) Z⟩⟩,λx H' S' kk A'=>⟨_,μ,aG ⟨cr++[x],_,μ,cw.vy S' kk A'⟩⟩⟩
   rintro σ F5 ⟨cr,bQ,rfl,cw⟩;show⟨fun σ H'=>σ=[some (.ref st),some (.int (L:Int)),some (.ref f0),some (.ref fh),some (.ref kp),some (.ref k0.s),some (.ref hl),some (.ref la),v8,v9,bW,bQ]/\R3 C H H' st kp hl la b ps d n k0 cr (2*r.toNat) (2*r.toNat+2),?ag2,?rest2⟩
   case ag2 =>
    show⟨_,μ,_,_,μ,μ,_,μ,dQ (λ_=>?_) (λ_=>aG ⟨μ,cw⟩)⟩;show⟨_,μ,_,μ,_,μ,_,_,_,_,μ,μ,aB.of cw.W.A.hs,μ,_,μ,st,la,k0,b,ps,[st],d,n,(by rw[cw.gB];rfl),cw.S,cw.W,θ,cw.dG,λPK pN FZ=>⟨_,μ,aG ⟨μ,cw.ej pN FZ⟩⟩⟩
   case rest2 =>
    rintro σ H23 ⟨rfl,hJ⟩;show⟨_,μ,_,μ,_,μ,_,_,_,_,μ,μ,aB.of hJ.W.A.hs,μ,_,μ,st,k0.kp,k0.dx,k0.sl,k0.f,k0.a,k0.c,hl,k0.as,b,ps,k0.aH,k0.ws,cr,[st],(by rw[hJ.gB];rfl),hJ.S,hJ.W.K,hJ.W.A.fr,λx hx=>by simpa using hJ.W.ko x hx,by simpa using hJ.W.na,by simpa using hJ.W.nc,hJ.A,by have:=hJ.lh;lia,θ,hJ.al,hJ.ns,λF6 F7 F9=>⟨_,μ,aG ?_⟩,λx F6 F7 F9 A24=>⟨_,μ,aG ?_⟩⟩
    .have cy:=hJ.ej F7 F9
     have bV:((k0.aH++[k0.ws]).length:Int)-1=(((k0.ks.map V.ref).length:Nat):Int):=by
      have h1:=cy.W.ch.1;have h2:=cy.W.A.hl;simp at h1⊢;lia
     show⟨_,μ,kp,k0.dx,_,μ,(by rw[<-cy.gB];show cy.W.K.ob),ix ξ,k0.kp,k0.dx,k0.sl,k0.as,b,ps,k0.aH++[k0.ws],(by rw[cy.gB];rfl),cy.W.K,?_⟩;show⟨_,μ,_,_,_,_,μ,μ,aB.of cy.W.A.hs,μ,k0.e,_,μ,.inl (ae.of cy.W.A.he),μ,_,μ,?_⟩;rw[MI bV];show aG ?_;show⟨_,μ,hl,μ,⟨_,ae.of cy.A.hl⟩,S_ (K:=K) (a:=hl) (xs:=(cr).map λx=>V.ref x.t) (λi ys H'=>ys=[]/\af F6 H') ⟨μ,af.refl _⟩ (λi ys H' _ h=>ae.of (h.2 _ _ cy.A.hl)) ?_ ?_⟩
     .rintro i v ys H' hx ⟨rfl,s'⟩;obtain⟨q,hq,rfl⟩:=Pc (g:=f6.t) hx;have hm:=a1K hq;show⟨bK θ,q.t,_,μ,aB.of (s' _ _ (cy.A.tp q hm)),μ,_,_,μ,_,_,μ,μ,?_⟩;show⟨_,μ,_,μ,L2.jh ((cy.A.g1 q hm).keep s').dat ((cy.A.g2 q hm).keep s').dat (y0 _ _ _) (y4 _ _ _) ⟨_,μ,aG ⟨μ,s'⟩⟩⟩
     .rintro ys H25 ⟨rfl,F'⟩ p hp;have Ga:=f_ (o:=.lst []) hp;show⟨sz θ,λq hq=>?_⟩;have vB:=f_ (o:=.lst []) hq;show L2.jh (gK (vB _ _ c_) .nil) (gK c_ .nil) μ (by simp[PyData.depth,PyData.depthAll]) ?_;have T:=(F'.trans Ga).trans vB;show k _ (cy.S.keep T) (cy.sm.same T)
    .have cy:=hJ.vy F7 F9 A24
     have bV:((k0.aH++[k0.ws]).length:Int)-1=(((k0.ks.map V.ref).length:Nat):Int):=by
      have h1:=cy.W.ch.1;have h2:=cy.W.A.hl;simp at h1⊢;lia
     show⟨_,μ,kp,k0.dx,_,μ,(by rw[<-cy.gB];show cy.W.K.ob),ix ξ,k0.kp,k0.dx,k0.sl,k0.as,b,ps,k0.aH++[k0.ws],(by rw[cy.gB];rfl),cy.W.K,?_⟩;show⟨_,μ,_,_,_,_,μ,μ,aB.of cy.W.A.hs,μ,k0.e,_,μ,.inl (ae.of cy.W.A.he),μ,_,μ,?_⟩;rw[MI bV];show aG ?_;show⟨_,μ,hl,μ,⟨_,ae.of cy.A.hl⟩,S_ (K:=K) (a:=hl) (xs:=(cr++[x]).map λx=>V.ref x.t) (λi ys H'=>ys=[]/\af F6 H') ⟨μ,af.refl _⟩ (λi ys H' _ h=>ae.of (h.2 _ _ cy.A.hl)) ?_ ?_⟩
     .rintro i v ys H' hx ⟨rfl,s'⟩;obtain⟨q,hq,rfl⟩:=Pc (g:=f6.t) hx;have hm:=a1K hq;show⟨bK θ,q.t,_,μ,aB.of (s' _ _ (cy.A.tp q hm)),μ,_,_,μ,_,_,μ,μ,?_⟩;show⟨_,μ,_,μ,L2.jh ((cy.A.g1 q hm).keep s').dat ((cy.A.g2 q hm).keep s').dat (y0 _ _ _) (y4 _ _ _) ⟨_,μ,aG ⟨μ,s'⟩⟩⟩
     .rintro ys H25 ⟨rfl,F'⟩ p hp;have Ga:=f_ (o:=.lst []) hp;show⟨sz θ,λq hq=>?_⟩;have vB:=f_ (o:=.lst []) hq;show L2.jh (gK (vB _ _ c_) .nil) (gK c_ .nil) μ (by simp[PyData.depth,PyData.depthAll]) ?_;have T:=(F'.trans Ga).trans vB;show k _ (cy.S.keep T) (cy.sm.same T)
def PQ:aS ["script","at","store"] ["script"] (h_ oE):=⟨μ,μ,μ,ξ,μ,ξ,ξ⟩
def rZ_(F:aM K "law" "law" oE f fd)(T:Txt mg)(Gb:ak P w K mg base 1 "_law_cell" ["script","k"] (xW K))(Gc:ak P w K mg base 1 "_law_store" ["cell"] xX)(bR:ak P w K mg base 1 "_law_take" ["store","many"] gu)(Gd:ak P w K mg base 16 "_law_run_right" ["store","longest"] As):aA P w K mg base aI 17 f fd ["script"] (uF K):=by
 show F.ok PQ λao A outer s H vs Q E hr h=>?_
 .obtain⟨a0,ns,rfl,hS,bZ,k⟩:=h;have nd:=PQ.nd;show⟨_,(b_ (B_ PassesOwn.never μ (z_ η T.range (a_ (p_ (sL μ) η T.min boot_min (a_ (p_ (AR μ) η T.max boot_max (a_ (dw T.len η (pv 0)) (a_ e_ d_))) (a_ e_ d_))) d_)) (k_ 1) (b_ (i_ 2 (o_ Gc hr.mo η (a_ (o_ Gb hr.mo η (a_ (pv 0) (a_ (pv 1) d_))) d_))) (g_ (E_ (cY (V_ (o_ Gd hr η (a_ (pv 2) (a_ (bf (x_ (a_ e_ (a_ e_ d_))) (J_ kI η T.int boot_int (a_ (iZ (ge dI (pv 1) e_ (aY _)) (kE (ge dI (o_ bR hr.mo η (a_ (pv 2) (a_ e_ d_))) e_ (aY _)))) d_))) d_))))) (g_ (m_ eG)) q_)))) (g_ (m_ eG))),⟨_,μ,a0,_,μ,.inl hS,_,_,μ,_,_,μ,?_⟩⟩;generalize hM:(if (6:Int)<(if (3:Int)>(((ns.map V.int).length:Nat):Int) then 3 else (((ns.map V.int).length:Nat):Int)) then (6:Int) else (if (3:Int)>(((ns.map V.int).length:Nat):Int) then 3 else (((ns.map V.int).length:Nat):Int)))=M
  have m1:3<=M/\M<=6:=by
   rw[<-hM];split <;> (split <;> lia)
  show⟨_,μ,Z,Z,H_ (λi σ H2=>∃v1 v2,σ=[some (.ref a0),v1,v2]/\af H H2) ⟨none,none,μ,af.refl _⟩ ?_ ?_⟩
  .rintro i σ H2 hi ⟨v1,v2,rfl,s2⟩;have ez:(0:Int)+(i:Int)=(i:Int):=a2N _;rw[ez];show⟨_,μ,_,μ,a0,ns,i,μ,s2.seq hS,Z,λcl'=>⟨cl',μ,λst H3 nq s3 E3=>?_⟩⟩;have hq:H st=none:=s2.free nq;have S3:=s2.trans s3;show⟨_,μ,sz θ,λll pW=>?_⟩;have t4:=f_ (o:=.lst ([3,6].map V.int)) pW;have u4:(upd H3 ll (.lst ([3,6].map V.int))) ll=_:=c_;have E4:=E3.keep t4;have n4:ll∉[st]:=E3.eY pW;show⟨_,μ,μ,_,μ,dQ (λ_=>(⟨_,μ,st,8,μ,E4,ζ,ζ,λr H5 r0 r1 S5 k5=>⟨μ,.inr ⟨_,μ,?_⟩⟩⟩)) (λ_=>.inr ⟨_,μ,bU u4 μ ⟨st,3,μ,E4,.inl μ,λH5 S5 k5=>⟨_,μ,aG ⟨_,_,μ,m9 (S3.trans t4) hq k5⟩⟩⟩⟩)⟩;have PU:=m9 (S3.trans t4) hq k5;have u5:=k5 _ _ u4 n4;by_cases hz:r=0
   .rw[decide_eq_true (show V.int r=V.int 0 by rw[hz])];show bU u5 μ ⟨st,6,μ,S5,.inr μ,λH6 S6 k6=>⟨_,μ,aG ⟨_,_,μ,m9 PU hq k6⟩⟩⟩
   .rw[decide_eq_false (show ¬ V.int r=V.int 0 from λz=>hz (by injection z))];show bU u5 μ ⟨st,3,μ,S5,.inl μ,λH6 S6 k6=>⟨_,μ,aG ⟨_,_,μ,m9 PU hq k6⟩⟩⟩
  .rintro σ H2 ⟨v1,v2,rfl,s2⟩;show k _
structure aX(K:PySem.W.Frag)(x:Str)(st:Stmt):Prop where
 ex:∃(f:Addr) (oc:Value) (od an:Option Addr) (cS:Array (Option Value)) (kV bF pm ao ct:Value),PySem.W.nsIn K mainGlobals x=some (some (.ref f))/\
  K.lookup f=some ⟨oc,od,.func (PySem.W.fnOf x x (gI st) (A_ st) (h_ st) .none kV bF pm an ao ct),cS⟩/\PySem.W.codeIn K ao x=true/\PySem.W.keepIn K (.ref f)=true
def sY_{kV bF pm ao ct:Value}(a:PySem.W.nsIn K mainGlobals x=some (some (.ref f))) (l:K.lookup f=some ⟨oc,od,.func (PySem.W.fnOf x x (gI st) (A_ st) (h_ st) .none kV bF pm an ao ct),cS⟩) (c:PySem.W.codeIn K ao x=true) (k:PySem.W.keepIn K (.ref f)=true):aX K x st:=⟨f,oc,od,an,cS,kV,bF,pm,ao,ct,a,l,c,k⟩
structure Ge(K:PySem.W.Frag):Prop where
 cC:PySem.W.nsIn K mainGlobals "isinstance"=some none
 int:PySem.W.nsIn K mainGlobals "int"=some none
 bool:PySem.W.nsIn K mainGlobals "bool"=some none
 list:PySem.W.nsIn K mainGlobals "list"=some none
 tuple:PySem.W.nsIn K mainGlobals "tuple"=some none
 all:PySem.W.nsIn K mainGlobals "all"=some none
 len:PySem.W.nsIn K mainGlobals "len"=some none
 sum:PySem.W.nsIn K mainGlobals "sum"=some none
 range:PySem.W.nsIn K mainGlobals "range"=some none
 max:PySem.W.nsIn K mainGlobals "max"=some none
 min:PySem.W.nsIn K mainGlobals "min"=some none
 rev:PySem.W.nsIn K mainGlobals "reversed"=some none
 zip:PySem.W.nsIn K mainGlobals "zip"=some none
 enum:PySem.W.nsIn K mainGlobals "enumerate"=some none
def us0{p:List Value->Prop}(h:p [])(us:List Value)(hl:us.length=0):p us:=by simp_all
def vC{p:List Value->Prop}(h:∀a r,r.length=n->p (a::r))(us:List Value)(hl:us.length=n+1):p us:=by
 cases us with
 | nil=>cases hl
 | cons a r=>show h a r<|Nat.succ.inj hl
def dX{p:List Value->Prop}(h:∀a,p [a]):∀us:List Value,us.length=1->p us:=vC λa=>us0<|h a
def cK{p:List Value->Prop}(h:∀a b,p [a,b]):∀us:List Value,us.length=2->p us:=vC λa=>dX<|h a
def fR{p:List Value->Prop}(h:∀a b c,p [a,b,c]):∀us:List Value,us.length=3->p us:=vC λa=>cK (p:=λr=>p (a::r)) (h a)
def gC{p:List Value->Prop}(h:∀a b c d,p [a,b,c,d]):∀us:List Value,us.length=4->p us:=vC λa=>fR<|h a
def PV{p:List Value->Prop}(h:∀a b c d e,p [a,b,c,d,e]):∀us:List Value,us.length=5->p us:=vC λa=>gC<|h a
def Ge.txt(T:Ge K)(X:K.In h)(G:h.Ns mainGlobals mg):Txt mg :=
 have e:=λx z=>a3y X G z
 ⟨e _ T.cC,e _ T.int,e _ T.bool,e _ T.list,e _ T.tuple,e _ T.all,e _ T.len,e _ T.sum,e _ T.range,e _ T.max,e _ T.min,e _ T.rev,e _ T.zip,e _ T.enum⟩
def s_(D:aX K x st)(X:K.In h)(G:h.Ns mainGlobals mg)(ok:∀f fd,aM K x x st f fd->aA P w K mg base aI k f fd ps sp) (hb:∀ kV bF pm   an   ao ct   us ,us.length=ps.length->bindArgs (PySem.W.fnOf x x (gI st) (A_ st) (h_ st) .none kV bF pm an ao ct) ⟨us,[]⟩=pure (ps.zip us)):ak P w K mg base k x ps sp:=by
 obtain⟨f,oc,od,an,cS,kV,bF,pm,ao,ct,a,l,c,kp⟩:=D.ex;have F:=qp l c kp;show⟨f,_,ok _ _ F,a2Q X G a,kp,F.binds hb⟩
def rg_(D:aX K x st)(X:K.In h)(G:h.Ns mainGlobals mg)(ok:∀f fd,aM K x x st f fd->aA P w K mg base (bY P w) k f fd ps sp) (hb:∀ kV bF pm   an   ao ct   us ,us.length=ps.length->bindArgs (PySem.W.fnOf x x (gI st) (A_ st) (h_ st) .none kV bF pm an ao ct) ⟨us,[]⟩=pure (ps.zip us)):zM P w K mg base k x ps sp:=by
 obtain⟨f,oc,od,an,cS,kV,bF,pm,ao,ct,a,l,c,kp⟩:=D.ex;have F:=qp l c kp;show⟨f,_,ok _ _ F,a2Q X G a,kp,F.binds hb⟩
structure jB(K:PySem.W.Frag)(C:Addr)(m qual:Str)(st:Stmt):Prop where
 ex:∃(f:Addr) (oc:Value) (od an:Option Addr) (cS:Array (Option Value)) (kV bF pm ao ct:Value),PySem.W.findIn K (.ref C) m=some (some (.ref f))/\PySem.W.isFn K (.ref f)=true/\
  K.lookup f=some ⟨oc,od,.func (PySem.W.fnOf m qual (gI st) (A_ st) (h_ st) .none kV bF pm an ao ct),cS⟩/\PySem.W.codeIn K ao qual=true/\PySem.W.keepIn K (.ref f)=true
def p8{kV bF pm ao ct:Value}(a:PySem.W.findIn K (.ref C) m=some (some (.ref f)))(i:PySem.W.isFn K (.ref f)=true) (l:K.lookup f=some ⟨oc,od,.func (PySem.W.fnOf m qual (gI st) (A_ st) (h_ st) .none kV bF pm an ao ct),cS⟩) (c:PySem.W.codeIn K ao qual=true) (k:PySem.W.keepIn K (.ref f)=true):jB K C m qual st:=⟨f,oc,od,an,cS,kV,bF,pm,ao,ct,a,i,l,c,k⟩
def sB(D:jB K C m qual st)(ok:∀f fd,aM K m qual st f fd->aA P w K mg base aI k f fd ps sp) (hb:∀ kV bF pm   an   ao ct   us ,us.length=ps.length->bindArgs (PySem.W.fnOf m qual (gI st) (A_ st) (h_ st) .none kV bF pm an ao ct) ⟨us,[]⟩=pure (ps.zip us)):fD P w K mg base k C m ps sp:=by
 obtain⟨f,oc,od,an,cS,kV,bF,pm,ao,ct,a,i,l,c,kp⟩:=D.ex;have F:=qp l c kp;show⟨f,_,ok _ _ F,⟨a,i,kp⟩,F.binds hb⟩
def rk_(D:jB K C "__init__" qual st)(mk:PySem.W.makesIn K C=true)(kc:PySem.W.keepIn K (.ref C)=true)(hx:mg x=some (.ref C))(ok:∀f fd,aM K "__init__" qual st f fd->aA P w K mg base aI k f fd ps sp) (hb:∀ kV bF pm   an   ao ct   us ,us.length=ps.length->bindArgs (PySem.W.fnOf "__init__" qual (gI st) (A_ st) (h_ st) .none kV bF pm an ao ct) ⟨us,[]⟩=pure (ps.zip us)):zE P w K mg base k x C ps sp:=by
 obtain⟨f,oc,od,an,cS,kV,bF,pm,ao,ct,a,i,l,c,kp⟩:=D.ex;have F:=qp (st:=st) l c kp;show⟨f,_,ok _ _ F,⟨mk,a,i,kc⟩,hx,F.binds hb⟩
def PY(D:jB K C m qual st)(ok:∀f fd,aM K m qual st f fd->aA P w K mg base (bY P w) k f fd ps sp) (hb:∀ kV bF pm   an   ao ct   us ,us.length=ps.length->bindArgs (PySem.W.fnOf m qual (gI st) (A_ st) (h_ st) .none kV bF pm an ao ct) ⟨us,[]⟩=pure (ps.zip us)):pV P w K mg base k C m ps sp:=by
 obtain⟨f,oc,od,an,cS,kV,bF,pm,ao,ct,a,i,l,c,kp⟩:=D.ex;have F:=qp l c kp;show⟨f,_,ok _ _ F,⟨a,i,kp⟩,F.binds hb⟩
def sP_{l:PySem.W.OpenLaw}(X:K.In h)(G:h.Ns mainGlobals mg)(hfa:mg "law"=some (.ref fa))(TI:Ge K) (i0:aX K "is_whole" BC) (i1:aX K "is_between" BD) (i2:aX K "is_list_between" w4) (i3:aX K "is_frame" BE) (i4:aX K "need_frame" BF) (i5:aX K "how_many" BG) (i6:aX K "need_number" BH) (i7:aX K "cut_by_parts" BI) (i8:aX K "figures_of" BJ) (i9:aX K "with_one_more_figure" BK) (PZ:aX K "ways_of_weights" w5) (P0:aX K "ways_of_parts" w6) (pA:aX K "ways_with" BL) (pB:aX K "even_by_sums" BM) (P1:aX K "count_even" BN) (P2:aX K "weighted_sum" tJ) (P3:aX K "number_of" BS) (P4:aX K "part_beginnings" xg) (P5:aX K "stretches_below" xa) (P6:aX K "need_miss" BO) (P7:aX K "running_counts" BP) (P8:aX K "ways_within" BQ) (P9:aX K "count_spread_within" qC) (pC:aX K "tails_of_part" xh) (Qa:aX K "tails_of_parts" xi) (Qb:aX K "ways_from_beginnings" BU) (Qc:aX K "count_begun" BV) (Qd:aX K "count_below" tL) (Qe:aX K "count_near" BR) (Qf:aX K "figure_and_rest" BW) (Qg:aX K "number_at" BY) (Qh:aX K "need_place" BT) (Gf:aX K "near_by" B0) (Qi:aX K "even_by" BZ) (Qj:aX K "copy_of" B7) (Gg:aX K "with_weight" xj) (Qk:aX K "_law_cell" B8) (Ql:aX K "_law_store" B9) (Qm:aX K "_law_take" B') (Qn:aX K "_law_frame" xk) (Qo:aX K "_law_many" Cb) (Qp:aX K "_law_sheet" oC) (vD:aX K "_law_free" xm) (sC:aX K "_law_from" xo) (Qq:aX K "_law_ends" Cc) (Qr:aX K "_law_by" Cd) (Qs:aX K "_law_kind" mC) (Qt:aX K "_law_is_from" Ch) (Qu:aX K "_law_due" Ci) (Qv:aX K "_law_deed" ii) (Qw:aX K "_law_asked" tM) (Qx:aX K "_law_part" Cf) (Qy:aX K "_law_cut" Cg) (Qz:aX K "_law_even" xq) (QA:aX K "_law_near" qD) (QB:aX K "_law_copy" Ca) (QC:aX K "_law_d" Ce) (QD:aX K "_law_frame_right" Cj) (QE:aX K "_law_told_right" Ck) (QF:aX K "_law_deed_right" xr) (QG:aX K "_law_again_right" Cl) (QH:aX K "_law_run_right" xu) (aC:PySem.W.nsIn K mainGlobals "Keeper"=some (some (.ref C))) (Gh:PySem.W.plainGet K C Str.empty=true) (Gi:PySem.W.hasDictIn K C=true) (Gj:PySem.W.plainOver K C=true) (Gk:PySem.W.findIn K (.ref C) "__setattr__"=some (some (.builtin "object.__setattr__"))) (Gm:PySem.W.makesIn K C=true) (kC:PySem.W.keepIn K (.ref C)=true) (nS:PySem.W.findIn K (.ref C) "standing"=some none) (Gn:jB K C "__init__" "Keeper.__init__" Cm) (Go:jB K C "changes" "Keeper.changes" Cr) (Gp:jB K C "near" "Keeper.near" Co) (Gq:jB K C "even" "Keeper.even" Cq) (Az:jB K C "weigh" "Keeper.weigh" xv) (AB:jB K C "undo" "Keeper.undo" xz) (Gr:jB K C "frame" "Keeper.frame" Cn) (eB:PySem.W.nsIn K mainGlobals "HalfError"=some (some (.ref cB))) (e0:PySem.W.nsIn K mainGlobals "NoFrame"=some (some (.ref c0))) (e1:PySem.W.nsIn K mainGlobals "NoNumber"=some (some (.ref c1))) (e2:PySem.W.nsIn K mainGlobals "NoPart"=some (some (.ref c2))) (e3:PySem.W.nsIn K mainGlobals "NoSum"=some (some (.ref c3))) (e4:PySem.W.nsIn K mainGlobals "NoMiss"=some (some (.ref c4))) (e5:PySem.W.nsIn K mainGlobals "NoEven"=some (some (.ref c5))) (e6:PySem.W.nsIn K mainGlobals "NoFrames"=some (some (.ref c6))) (e7:PySem.W.nsIn K mainGlobals "NoText"=some (some (.ref c7))) (e8:PySem.W.nsIn K mainGlobals "NoName"=some (some (.ref c8))) (e9:PySem.W.nsIn K mainGlobals "NoRow"=some (some (.ref c9))) (tB:PySem.W.typeIn K (.ref cB)=some (.type "type")) (mB:PySem.W.mroIn K cB (.type "BaseException")=some true) (q1:PySem.W.excIn K c1 [.type "ValueError",.type "Exception",.type "BaseException",.type "object"] "ValueError.__new__"=true) (m1:PySem.W.mroIn K c1 (.ref cB)=some true) (l1:lX K c1) (v1:PySem.W.kitOne K (.ref c1) (.type "ValueError")=some true) (Gs:PySem.W.kitOne K (.ref c1) (.ref c0)=some false) (Gu:PySem.W.kitOne K (.ref c1) (.ref c1)=some true) (Gv:PySem.W.kitOne K (.ref c1) (.ref c2)=some false) (Gw:PySem.W.kitOne K (.ref c1) (.ref c3)=some false) (GA:PySem.W.kitOne K (.ref c1) (.ref c4)=some false) (GB:PySem.W.kitOne K (.ref c1) (.ref c5)=some false) (GC:PySem.W.kitOne K (.ref c1) (.ref c6)=some false) (GE:PySem.W.kitOne K (.ref c1) (.ref c7)=some false) (GF:PySem.W.kitOne K (.ref c1) (.ref c8)=some false) (GG:PySem.W.kitOne K (.ref c1) (.ref c9)=some false) (q2:PySem.W.excIn K c2 [.type "ValueError",.type "Exception",.type "BaseException",.type "object"] "ValueError.__new__"=true) (m2:PySem.W.mroIn K c2 (.ref cB)=some true) (l2:lX K c2) (v2:PySem.W.kitOne K (.ref c2) (.type "ValueError")=some true) (GH:PySem.W.kitOne K (.ref c2) (.ref c0)=some false) (GI:PySem.W.kitOne K (.ref c2) (.ref c1)=some false) (GJ:PySem.W.kitOne K (.ref c2) (.ref c2)=some true) (GK:PySem.W.kitOne K (.ref c2) (.ref c3)=some false) (GL:PySem.W.kitOne K (.ref c2) (.ref c4)=some false) (GM:PySem.W.kitOne K (.ref c2) (.ref c5)=some false) (GN:PySem.W.kitOne K (.ref c2) (.ref c6)=some false) (GO:PySem.W.kitOne K (.ref c2) (.ref c7)=some false) (GP:PySem.W.kitOne K (.ref c2) (.ref c8)=some false) (GQ:PySem.W.kitOne K (.ref c2) (.ref c9)=some false) (o8:PySem.W.nsIn K mainGlobals "dict"=some none) (o9:PySem.W.nsIn K mainGlobals "sorted"=some none) (fQ:PySem.W.nsIn K mainGlobals "str"=some none) (nK:PySem.W.nsIn K mainGlobals "repr"=some none) (vE:PySem.W.nsIn K mainGlobals "ValueError"=some none) (jl:aX K "law" oE) : ∃fd:FuncData,(∀ s   v ,BindsTo s fd ⟨[v],[]⟩ [("script",v)])/\∀base:Heap,K.In base->base.Ns mainGlobals mg->aA l.prog w K mg base aI 17 fa fd ["script"] (uF K):=by
 have T:=TI.txt X G;obtain⟨f,oc,od,an,cS,kV,bF,pm,ao,ct,a,lk,c,kp⟩:=jl.ex;have e:=hfa.symm.trans (a2Q X G a);cases e;have F:=qp lk c kp;show⟨PySem.W.fnOf "law" "law" (gI oE) (A_ oE) (h_ oE) .none kV bF pm an ao ct,λs v=>.of_eq μ,λbase BX _=>?_⟩;have o8:mg "dict"=none:=a3y X G o8;have o9:mg "sorted"=none:=a3y X G o9;have fQ:mg "str"=none:=a3y X G fQ;have nK:mg "repr"=none:=a3y X G nK;have vE:mg "ValueError"=none:=a3y X G vE;have en:Od mg (cs [c0,c1,c2,c3,c4,c5,c6,c7,c8,c9]):=⟨a2Q X G e0,a2Q X G e1,a2Q X G e2,a2Q X G e3,a2Q X G e4,a2Q X G e5,a2Q X G e6,a2Q X G e7,a2Q X G e8,a2Q X G e9,vE⟩;have o1:=N3 PySem.F.excBase_ValueError BX q1;have u1:Up K c1 cB:=⟨m1,mB,tB⟩;have y1:Kind K (cs [c0,c1,c2,c3,c4,c5,c6,c7,c8,c9]) c1 1:=⟨l1,ζ,λj hj=>match j,hj with | 0,_=>Gs | 1,_=>Gu | 2,_=>Gv | 3,_=>Gw | 4,_=>GA | 5,_=>GB | 6,_=>GC | 7,_=>GE | 8,_=>GF | 9,_=>GG,v1⟩;have o2:=N3 PySem.F.excBase_ValueError BX q2;have u2:Up K c2 cB:=⟨m2,mB,tB⟩;have y2:Kind K (cs [c0,c1,c2,c3,c4,c5,c6,c7,c8,c9]) c2 2:=⟨l2,ζ,λj hj=>match j,hj with | 0,_=>GH | 1,_=>GI | 2,_=>GJ | 3,_=>GK | 4,_=>GL | 5,_=>GM | 6,_=>GN | 7,_=>GO | 8,_=>GP | 9,_=>GQ,v2⟩;have cl:cA K C:=⟨Gh,Gi,Gj,Gk⟩;have GR:ak l.prog w K mg base 1 "is_whole" ["thing"] qB:=s_ i0 X G (λ_ _ F=>VL F T) λ_ _ _ _ _ _=>dX λ_=>rfl;have lP:ak l.prog w K mg base 2 "is_between" ["thing","least","greatest"] jm:=s_ i1 X G (λ_ _ F=>VN F GR) λ_ _ _ _ _ _=>fR λ_ _ _=>rfl;have a0M:ak l.prog w K mg base 3 "is_list_between" ["thing","least","greatest"] wW:=s_ i2 X G (λ_ _ F=>VP F T lP) λ_ _ _ _ _ _=>fR λ_ _ _=>rfl;have a0N:ak l.prog w K mg base 4 "is_frame" ["thing"] wX:=s_ i3 X G (λ_ _ F=>VS F T lP a0M) λ_ _ _ _ _ _=>dX λ_=>rfl;have lR:ak l.prog w K mg base 5 "need_frame" ["thing"] kT:=s_ i4 X G (λ_ _ F=>VU F a0N) λ_ _ _ _ _ _=>dX λ_=>rfl;have GS:ak l.prog w K mg base 6 "how_many" ["frame"] kX:=s_ i5 X G (λ_ _ F=>VW F T lR) λ_ _ _ _ _ _=>dX λ_=>rfl;have a0O:ak l.prog w K mg base 7 "need_number" ["frame","thing"] wY:=s_ i6 X G (λ_ _ F=>VY F lP GS) λ_ _ _ _ _ _=>cK λ_ _=>rfl;have GT:ak l.prog w K mg base 1 "cut_by_parts" ["frame","row"] qQ:=s_ i7 X G (λ_ _ F=>V0 F) λ_ _ _ _ _ _=>cK λ_ _=>rfl;have a0P:ak l.prog w K mg base 8 "figures_of" ["frame","n"] wZ:=s_ i8 X G (λ_ _ F=>VZ F T lR a0O) λ_ _ _ _ _ _=>cK λ_ _=>rfl;have a0Q:ak l.prog w K mg base 1 "with_one_more_figure" ["ways","base","weight"] yb:=s_ i9 X G (λ_ _ F=>Wi F T) λ_ _ _ _ _ _=>fR λ_ _ _=>rfl;have QI:ak l.prog w K mg base 2 "ways_of_weights" ["base","weights"] uf:=s_ PZ X G (λ_ _ F=>Wk F T o8 o9 a0Q) λ_ _ _ _ _ _=>cK λ_ _=>rfl;have QJ:ak l.prog w K mg base 3 "ways_of_parts" ["frame"] ug:=s_ P0 X G (λ_ _ F=>Wy F T GT QI) λ_ _ _ _ _ _=>dX λ_=>rfl;have a0R:ak l.prog w K mg base 1 "ways_with" ["ways_by_part","total"] yg:=s_ pA X G (λ_ _ F=>Wz F) λ_ _ _ _ _ _=>cK λ_ _=>rfl;have a0S:ak l.prog w K mg base 6 "even_by_sums" ["frame"] yh:=s_ pB X G (λ_ _ F=>WA F lR QJ a0R) λ_ _ _ _ _ _=>dX λ_=>rfl;have j9:ak l.prog w K mg base 7 "count_even" ["frame"] lG:=s_ P1 X G (λ_ _ F=>Zb F T a0S) λ_ _ _ _ _ _=>dX λ_=>rfl;have a0T:ak l.prog w K mg base 1 "weighted_sum" ["figures","weights"] yE:=s_ P2 X G (λ_ _ F=>XO F T) λ_ _ _ _ _ _=>cK λ_ _=>rfl;have a0U:ak l.prog w K mg base 1 "number_of" ["base","figures"] yv:=s_ P3 X G (λ_ _ F=>WZ F) λ_ _ _ _ _ _=>cK λ_ _=>rfl;have a0V:ak l.prog w K mg base 1 "part_beginnings" ["frame","head","end"] yL:=s_ P4 X G (λ_ _ F=>X1 F T) λ_ _ _ _ _ _=>fR λ_ _ _=>rfl;have a0W:ak l.prog w K mg base 9 "stretches_below" ["frame","n"] yM:=s_ P5 X G (λ_ _ F=>Yb F T GS a0P) λ_ _ _ _ _ _=>cK λ_ _=>rfl;have GU:ak l.prog w K mg base 2 "need_miss" ["thing"] uD:=s_ P6 X G (λ_ _ F=>YQ F GR) λ_ _ _ _ _ _=>dX λ_=>rfl;have a0X:ak l.prog w K mg base 1 "running_counts" ["ways","low","high"] yq:=s_ P7 X G (λ_ _ F=>WR F T) λ_ _ _ _ _ _=>fR λ_ _ _=>rfl;have a0Y:ak l.prog w K mg base 1 "ways_within" ["running_by_part","start","end"] yr:=s_ P8 X G (λ_ _ F=>WS F) λ_ _ _ _ _ _=>fR λ_ _ _=>rfl;have QK:ak l.prog w K mg base 2 "count_spread_within" ["ways_by_part","width"] ul:=s_ P9 X G (λ_ _ F=>WU F T a0X a0Y) λ_ _ _ _ _ _=>cK λ_ _=>rfl;have a0Z:ak l.prog w K mg base 3 "tails_of_part" ["base","weights"] yP:=s_ pC X G (λ_ _ F=>Yn F T QI) λ_ _ _ _ _ _=>cK λ_ _=>rfl;have QL:ak l.prog w K mg base 4 "tails_of_parts" ["frame"] yQ:=s_ Qa X G (λ_ _ F=>Yp F GT a0Z) λ_ _ _ _ _ _=>dX λ_=>rfl;have a1a:ak l.prog w K mg base 2 "ways_from_beginnings" ["rows","weights","tails"] yR:=s_ Qb X G (λ_ _ F=>Yt F T a0T) λ_ _ _ _ _ _=>fR λ_ _ _=>rfl;have QM:ak l.prog w K mg base 3 "count_begun" ["frame","tails_by_part","d","head","end"] uz:=s_ Qc X G (λ_ _ F=>YF F T a0V GT a1a QK) λ_ _ _ _ _ _=>PV λ_ _ _ _ _=>rfl;have a1b:ak l.prog w K mg base 10 "count_below" ["frame","tails_by_part","d","n"] yV:=s_ Qd X G (λ_ _ F=>YR F T a0W QM) λ_ _ _ _ _ _=>gC λ_ _ _ _=>rfl;have EW:ak l.prog w K mg base 6 "count_near" ["frame","d"] mZ:=s_ Qe X G (λ_ _ F=>Y' F lR GU QJ QK) λ_ _ _ _ _ _=>cK λ_ _=>rfl;have a1c:ak l.prog w K mg base 4 "figure_and_rest" ["frame","tails_by_part","d","head","k"] yY:=s_ Qf X G (λ_ _ F=>YX F QM) λ_ _ _ _ _ _=>PV λ_ _ _ _ _=>rfl;have QN:ak l.prog w K mg base 11 "number_at" ["frame","tails_by_part","d","k"] yZ:=s_ Qg X G (λ_ _ F=>Y1 F T GS a1b a1c a0U) λ_ _ _ _ _ _=>gC λ_ _ _ _=>rfl;have QO:ak l.prog w K mg base 2 "need_place" ["thing"] y6:=s_ Qh X G (λ_ _ F=>Y5 F GR) λ_ _ _ _ _ _=>dX λ_=>rfl;have a1d:ak l.prog w K mg base 12 "near_by" ["frame","d","k"] y7:=s_ Gf X G (λ_ _ F=>MD F lR GU QO QL QN) λ_ _ _ _ _ _=>fR λ_ _ _=>rfl;have a1D:ak l.prog w K mg base 12 "near_by" ["frame","d","k"] Ec:=s_ Gf X G (λ_ _ F=>(MD F lR GU QO QL QN).imp Zo) λ_ _ _ _ _ _=>fR λ_ _ _=>rfl;have EX:ak l.prog w K mg base 13 "even_by" ["frame","k"] y8:=s_ Qi X G (λ_ _ F=>(Y8 F a1d).imp Zp) λ_ _ _ _ _ _=>cK λ_ _=>rfl;have j8:ak l.prog w K mg base 1 "copy_of" ["frame"] j7:=s_ Qj X G (λ_ _ F=>lP_ F T) λ_ _ _ _ _ _=>dX λ_=>rfl;have zI:ak l.prog w K mg base 3 "with_weight" ["frame","place","weight"] rR:=s_ Gg X G (λ_ _ F=>NM F T lP j8) λ_ _ _ _ _ _=>fR λ_ _ _=>rfl;have FX:zE l.prog w K mg base 6 "Keeper" C ["self","frame"] (uY C):=rk_ Gn Gm kC (a2Q X G aC) (λ_ _ F=>nT_ F nS lR j8 cl) λ_ _ _ _ _ _=>cK λ_ _=>rfl;have jv:fD l.prog w K mg base 1 C "changes" ["self"] (pR C):=sB Go (λ_ _ F=>ib_ F T nS cl) λ_ _ _ _ _ _=>dX λ_=>rfl;have sr:fD l.prog w K mg base 7 C "near" ["self","d"] (va C):=sB Gp (λ_ _ F=>nS_ F nS EW cl) λ_ _ _ _ _ _=>cK λ_ _=>rfl;have ss:fD l.prog w K mg base 14 C "even" ["self","k"] (vb C):=sB Gq (λ_ _ F=>nU_ F nS EX cl) λ_ _ _ _ _ _=>cK λ_ _=>rfl;have a1E:fD l.prog w K mg base 8 C "weigh" ["self","place","weight"] (uZ C):=sB Az (λ_ _ F=>NT F nS zI j9 cl) λ_ _ _ _ _ _=>fR λ_ _ _=>rfl;have a1F:fD l.prog w K mg base 8 C "undo" ["self"] (u9 C):=sB AB (λ_ _ F=>NU F nS j9 cl jv) λ_ _ _ _ _ _=>dX λ_=>rfl;have a1e:zM l.prog w K mg base 3 "with_weight" ["frame","place","weight"] (pU rR (zN c2 c1)):=rg_ Gg X G (λ_ _ F=>(NM F T lP j8).up.or (nL_ F T lP o2 en.n2 o1 en.n1)) λ_ _ _ _ _ _=>fR λ_ _ _=>rfl;have a1f:pV l.prog w K mg base 8 C "undo" ["self"] (pU (u9 C) (zP C c1)):=PY AB (λ_ _ F=>(NU F nS j9 cl jv).up.or (lL_ F cl jv o1 en.n1)) λ_ _ _ _ _ _=>dX λ_=>rfl;have a1g:pV l.prog w K mg base 8 C "weigh" ["self","place","weight"] (pU (uZ C) (zO C c2 c1)):=PY Az (λ_ _ F=>(NT F nS zI j9 cl).up.or (jY_ F cl nS a1e)) λ_ _ _ _ _ _=>fR λ_ _ _=>rfl;have Gb:ak l.prog w K mg base 1 "_law_cell" ["script","k"] (xW K):=s_ Qk X G (λ_ _ F=>V9 F T) λ_ _ _ _ _ _=>cK λ_ _=>rfl;have Gc:ak l.prog w K mg base 1 "_law_store" ["cell"] xX:=s_ Ql X G (λ_ _ F=>V' F) λ_ _ _ _ _ _=>dX λ_=>rfl;have bR:ak l.prog w K mg base 1 "_law_take" ["store","many"] gu:=s_ Qm X G (λ_ _ F=>Wa F) λ_ _ _ _ _ _=>cK λ_ _=>rfl;have FU:ak l.prog w K mg base 2 "_law_frame" ["store","longest"] xY:=s_ Qn X G (λ_ _ F=>Wb F T bR) λ_ _ _ _ _ _=>cK λ_ _=>rfl;have EC:ak l.prog w K mg base 1 "_law_many" ["frame"] kX:=s_ Qo X G (λ_ _ F=>Wh F T) λ_ _ _ _ _ _=>dX λ_=>rfl;have sq:ak l.prog w K mg base 1 "_law_sheet" ["frame","d"] uL:=s_ Qp X G (λ_ _ F=>ZT F T) λ_ _ _ _ _ _=>cK λ_ _=>rfl;have QP:ak l.prog w K mg base 1 "_law_free" ["sheet","part","low","high"] (nu 0):=s_ vD X G (λ_ _ F=>Z5 F T) λ_ _ _ _ _ _=>gC λ_ _ _ _=>rfl;have a1h:ak l.prog w K mg base 2 "_law_from" ["sheet","spot","low","high"] (io 0):=s_ sC X G (λ_ _ F=>nw F T QP) λ_ _ _ _ _ _=>gC λ_ _ _ _=>rfl;have QQ:ak l.prog w K mg base 3 "_law_free" ["sheet","part","low","high"] (nu 1):=s_ vD X G (λ_ _ F=>Et F T a1h) λ_ _ _ _ _ _=>gC λ_ _ _ _=>rfl;have a1i:ak l.prog w K mg base 4 "_law_from" ["sheet","spot","low","high"] (io 1):=s_ sC X G (λ_ _ F=>nw F T QQ) λ_ _ _ _ _ _=>gC λ_ _ _ _=>rfl;have QR:ak l.prog w K mg base 5 "_law_free" ["sheet","part","low","high"] (nu 2):=s_ vD X G (λ_ _ F=>Et F T a1i) λ_ _ _ _ _ _=>gC λ_ _ _ _=>rfl;have a1j:ak l.prog w K mg base 6 "_law_from" ["sheet","spot","low","high"] (io 2):=s_ sC X G (λ_ _ F=>nw F T QR) λ_ _ _ _ _ _=>gC λ_ _ _ _=>rfl;have QS:ak l.prog w K mg base 7 "_law_free" ["sheet","part","low","high"] (nu 3):=s_ vD X G (λ_ _ F=>Et F T a1j) λ_ _ _ _ _ _=>gC λ_ _ _ _=>rfl;have a1G:ak l.prog w K mg base 8 "_law_from" ["sheet","spot","low","high"] (io 3):=s_ sC X G (λ_ _ F=>nw F T QS) λ_ _ _ _ _ _=>gC λ_ _ _ _=>rfl;have rH:ak l.prog w K mg base 8 "_law_from" ["sheet","spot","low","high"] Ez:=s_ sC X G (λ_ _ F=>os_ (nw F T QP) (nw F T QQ) (nw F T QR) (nw F T QS)) λ_ _ _ _ _ _=>gC λ_ _ _ _=>rfl;have ED:ak l.prog w K mg base 1 "_law_ends" ["ends","here"] zr:=s_ Qq X G (λ_ _ F=>qB_ F T) λ_ _ _ _ _ _=>cK λ_ _=>rfl;have so:ak l.prog w K mg base 9 "_law_by" ["sheet","k"] uQ:=s_ Qr X G (λ_ _ F=>sV_ F T EC rH ED) λ_ _ _ _ _ _=>cK λ_ _=>rfl;have a1k:ak l.prog w K mg base 1 "_law_kind" ["e","due"] (vh K (cs [c0,c1,c2,c3,c4,c5,c6,c7,c8,c9])):=s_ Qs X G (λ_ _ F=>qA_ F T en) λ_ _ _ _ _ _=>cK λ_ _=>rfl;have zU:ak l.prog w K mg base 1 "_law_is_from" ["thing","low","high"] jm:=s_ Qt X G (λ_ _ F=>lM_ F T) λ_ _ _ _ _ _=>fR λ_ _ _=>rfl;have FR:ak l.prog w K mg base 2 "_law_due" ["state","deed"] zS:=s_ Qu X G (λ_ _ F=>sa_ F T zU) λ_ _ _ _ _ _=>cK λ_ _=>rfl;have FV:ak l.prog w K mg base 2 "_law_deed" ["store","state"] zR:=s_ Qv X G (λ_ _ F=>qC_ F T bR) λ_ _ _ _ _ _=>cK λ_ _=>rfl;have FS:ak l.prog w K mg base 9 "_law_asked" ["keeper","deed","due"] (zW C):=s_ Qw X G (λ_ _ F=>oa_ F T fQ (a2Q X G eB) u1 u2 y1 y2 cl a1k a1f a1g) λ_ _ _ _ _ _=>fR λ_ _ _=>rfl;have r9:ak l.prog w K mg base 1 "_law_part" ["base","weights"] vo:=s_ Qx X G (λ_ _ F=>qx_ F T) λ_ _ _ _ _ _=>cK λ_ _=>rfl;have sd:ak l.prog w K mg base 1 "_law_cut" ["frame"] vp:=s_ Qy X G (λ_ _ F=>qD_ F) λ_ _ _ _ _ _=>dX λ_=>rfl;have pZ:ak l.prog w K mg base 2 "_law_even" ["frame"] lG:=s_ Qz X G (λ_ _ F=>nX_ F T r9 sd) λ_ _ _ _ _ _=>dX λ_=>rfl;have sk:ak l.prog w K mg base 2 "_law_near" ["frame","d"] mZ:=s_ QA X G (λ_ _ F=>nQ_ F T r9 sd) λ_ _ _ _ _ _=>cK λ_ _=>rfl;have Ag:fD l.prog w K mg base 2 C "frame" ["self"] (Af C):=sB Gr (λ_ _ F=>jZ_ F nS j8 cl) λ_ _ _ _ _ _=>dX λ_=>rfl;have sg:ak l.prog w K mg base 1 "_law_copy" ["frame"] j7:=s_ QB X G (λ_ _ F=>nZ_ F T) λ_ _ _ _ _ _=>dX λ_=>rfl;have sj:ak l.prog w K mg base 2 "_law_d" ["store","frame"] vt:=s_ QC X G (λ_ _ F=>qz_ F T bR) λ_ _ _ _ _ _=>cK λ_ _=>rfl;have si:ak l.prog w K mg base 3 "_law_frame_right" ["store","keeper","frame","held"] (vv C):=s_ QD X G (λ_ _ F=>lN_ F T bR sg cl Ag) λ_ _ _ _ _ _=>gC λ_ _ _ _=>rfl;have Av:ak l.prog w K mg base 15 "_law_told_right" ["store","keeper","state","held"] (Aj C):=s_ QE X G (λ_ _ F=>qv_ F T bR si sj sk pZ so sq cl jv sr ss) λ_ _ _ _ _ _=>gC λ_ _ _ _=>rfl;have FW:ak l.prog w K mg base 10 "_law_deed_right" ["keeper","state","deed"] (Am C):=s_ QF X G (λ_ _ F=>nY_ F T nK fQ FR FS pZ) λ_ _ _ _ _ _=>fR λ_ _ _=>rfl;have Au:ak l.prog w K mg base 15 "_law_again_right" ["store","keeper","frame","asked"] (Al C):=s_ QG X G (λ_ _ F=>ob_ F T fQ bR sk so sq cl sr ss) λ_ _ _ _ _ _=>gC λ_ _ _ _=>rfl;have Gd:ak l.prog w K mg base 16 "_law_run_right" ["store","longest"] As:=s_ QH X G (λ_ _ F=>rY_ F T bR FU sg sj FV Au FW Av si cl jv FX) λ_ _ _ _ _ _=>cK λ_ _=>rfl;show rZ_ F T Gb Gc bR Gd
def walk{l:PySem.W.OpenLaw}{XP:(Str->Option Value)->Heap->Prop}{K:Params->PySem.W.Frag}(hn:l.most=some 63)(tf:d.params.defaults=[]) (hY:∀ w   h ,YP w h->(K w.params).In h) (F:∀ w   mg   fa   h ,(K w.params).In h->h.Ns mainGlobals mg->mg d.name=some (.ref fa)-> ∃fd:FuncData,(∀ s   u ,BindsTo s fd ⟨[u],[]⟩ [("script",u)])/\∀base:Heap,(K w.params).In base->base.Ns mainGlobals mg->aA l.prog w (K w.params) mg base aI 17 fa fd ["script"] (uF (K w.params))) : PySem.W.WalkO q qo XP YP l.row.toRowW d [] (λf vs=>PySem.call f vs) := L2.Tc hn ζ tf ⟨μ,ζ,ζ,μ⟩ hY F (λ_ _ a ns hl _ hS=>⟨a,ns,μ,hS,hl,λ_=>rfl⟩) λ_ _ _ _ _ z=>z
end Hv
open PySem PySem.W PyProof.Rows
namespace PySem.W.Fast
def z:True:=trivial
def tw4122601624659848823:=z
def tw4342425372769532052:=z
def tw168266705235569952:=z
def tw9151701032135758165:=z
def tw2610787146929766351:=z
def tw9692725206583654546:=z
def tw10083501799575575050:=z
def tw1871520667131101073:=z
def tw3419195122538359045:=z
def tw8775658081375833247:=z
def tw11127398687031241902:=z
def tw16212501240038028042:=z
def tw4887092858981611967:=z
def tw17258660092783774566:=z
def tw1124192997647675108:=z
def tw12276369088628248367:=z
def tw14405836921790950363:=z
def tw17267721342784808637:=z
def tw3432119009282154134:=z
def tw12579347273008265157:=z
def tw12357435080371272330:=z
def tw7285560616976367295:=z
def tw14276920065074308323:=z
def tw21938111693596419:=z
def tw4182758038587127289:=z
def tw1083827217656007195:=z
def tw6453073579932774793:=z
def tw281913839779455952:=z
def tw17983701595348326733:=z
def tw11517896580033301536:=z
def tw2943342013251115028:=z
def tw497948842593081245:=z
def tw2909337276784434758:=z
def tw3736212199185948005:=z
def tw13318097762974600895:=z
def tw14875572529782166695:=z
def tw18043177096165014027:=z
def tw10276161344549942786:=z
def tw217135760745077097:=z
def tw1256066435461272502:=z
def tw13549710953252578488:=z
def tw5376521124239270062:=z
def tw7765865130166561443:=z
def tw8140400032529847694:=z
def tw4502169303821632912:=z
def tw4687998516123822819:=z
def tw3350132443731832268:=z
def tw8949084938954161166:=z
def tw5759487608181082060:=z
def tw7656417450808107587:=z
def tw18434066444194925075:=z
def tw6790010542273125588:=z
def tw13957591338161668598:=z
def tw14869583178665512435:=z
def tw7223485407627114567:=z
def tw5156189456161419012:=z
def tw5721556407297521700:=z
def tw7677787796720871593:=z
def tw13262556115843165729:=z
def tw5997523353388443954:=z
def tw5896369377080473033:=z
def tw395514355264170528:=z
def tw5424995652575359044:=z
def tw15928040433950080319:=z
def tw270940507345544425:=z
def tw12270054404474913222:=z
def tw11971882857881516061:=z
def tw5361182224607400036:=z
def tw12782743396813849939:=z
def tw9725002005616002688:=z
def tw11371093361833984492:=z
def tw7909531527630731224:=z
def tw6483017523583304390:=z
def tw4956016990582674860:=z
def tw14636037135140531553:=z
def tw8733664506065043848:=z
def tw9044851137750529721:=z
def tw457742829426995778:=z
def tw5867674908721287643:=z
def tw1437645672498141051:=z
def tw5516656027930415563:=z
def tw6596845948265108871:=z
def tw5699776721947887136:=z
def tw335473612970742673:=z
def tw14670061874689040467:=z
def tw18201073280464277388:=z
def tw736351081166886014:=z
def tw11571873252227925022:=z
def tw11570735741509335457:=z
def tw3121126939444065324:=z
def tw7343033948787847409:=z
def tw17857978461228010164:=z
def tw2363064339394033177:=z
def tw9691540522876995844:=z
def tw15845074058210137336:=z
def tw16388832683017589561:=z
def tw15848380452181156068:=z
def tw10585426750132505545:=z
def tw7125183584522265500:=z
def tw9176687058272727969:=z
def tw13608870418992255767:=z
def tw9751163287910099129:=z
def tw399825420764801869:=z
def tw7477696737092247912:=z
def tw4022477694005997333:=z
def tw9345300950019869180:=z
def tw6007448363975788160:=z
def tw16709685057773632128:=z
def tw4178500371178785806:=z
def tw10391015437462965800:=z
def tw5265989312081105706:=z
def tw7290411652771840090:=z
def tw7221932357487598082:=z
def tw529148850696890594:=z
def tw4003594789993633938:=z
def tw8356919332818538928:=z
def tw8007130158655302570:=z
def tw15434496373137025797:=z
def tw12502101055563602817:=z
def tw15881602233262711233:=z
def tw7718012683397875638:=z
def tw2611356591601863481:=z
def tw3497881012441524333:=z
def tw6206503630778327769:=z
def tw3388076445014943754:=z
def tw13799940226665855128:=z
def tw8060907481382471640:=z
def tw9273519518345374839:=z
def tw4191317956207013294:=z
def tw2130225294304493267:=z
def tw15873304707092054191:=z
def tw17704716410981885458:=z
def tw5511661185751335030:=z
def tw11762909313114315633:=z
def tw14216894936934599337:=z
def tw10711891530435853758:=z
def tw10149637522037967059:=z
def tw3992769989843379190:=z
def tw80877513750807262:=z
def tw13277121335167325967:=z
def tw5445666677235943442:=z
def tw15140820878919127826:=z
def tw12198532900886950296:=z
def tw2195105465931104597:=z
def tw16555835024189268681:=z
def tw232061222115101836:=z
def tw17799545698068098386:=z
def tw12400067780082949587:=z
def tw15454651675327047170:=z
def tw12734523965138186113:=z
def tw7565329276214617950:=z
def tw15559510091236946940:=z
def tw2922878574157949880:=z
def tw1388344416010032414:=z
def tw7702645027163994886:=z
def tw3170077760096324866:=z
def tw9805990175495559591:=z
def tw7309333924603134624:=z
def tw16330971138251390873:=z
def tw322436346700665520:=z
def tw16064856267194293446:=z
def tw13530700567986795591:=z
def tw17321584024916647623:=z
def tw9915023178021666530:=z
def tw2581317871383925760:=z
def tw5198112391879311405:=z
def tw15777276710941903931:=z
def tw8463471684938681646:=z
def tw7877663134895025245:=z
def tw9274647098371457393:=z
def tw18039522053709214595:=z
def tw16294299894316187299:=z
def tw8166445652716437169:=z
def tw6112299456044010997:=z
def tw13327057884766287345:=z
def tw16076865409703163538:=z
def tw11247941136996388664:=z
def tw13676455958589298727:=z
def tw5415104683036908989:=z
def tw4484814196178439007:=z
def tw10775524820133864705:=z
def tw8431226325516636262:=z
def tw2717531552826299507:=z
def tw6603505398369677893:=z
def tw11505121226503497258:=z
def tw6007927691874744458:=z
def tw5771727088919157690:=z
def tw9389263843917528570:=z
def tw15469349456706179769:=z
def tw8683735300089255301:=z
def tw10879173096957995548:=z
def tw17503670489384573142:=z
def tw13250905549395622898:=z
def tw11429981764054848424:=z
def tw6781205029013032577:=z
def tw2704011491958127218:=z
def tw3549779122664559599:=z
def tw9725941162455812644:=z
def tw4575041618054970851:=z
def tw15129434993774550692:=z
def tw10258636268771619063:=z
def tw15833341388818971301:=z
def tw15176086245808698059:=z
def tw5914934431090124512:=z
def tw2268987761628271536:=z
def tw12715398107657471947:=z
def tw1922333968022674353:=z
def tw14003975431275392672:=z
def tw566182120419160256:=z
def tw10688694710164889186:=z
def tw15439634235426958814:=z
def tw6126478985339697233:=z
def tw1488197842961132031:=z
def tw13060717864392807463:=z
def tw268079020381527876:=z
def tw4710377689806692810:=z
def tw9402270610578268659:=z
def tw14034526142328118598:=z
def tw3924448766681402002:=z
def tw14365277092167615616:=z
def tw6365899724740095212:=z
def tw2270952719037144508:=z
def tw4634048392793751359:=z
def tw16564346305668533193:=z
def tw11707928309794321271:=z
def tw16593253486866458544:=z
def tw13751930926391147808:=z
def tw1133156352452107429:=z
def tw14070790276692633406:=z
def tw1226423408000745926:=z
def tw14313497971926971234:=z
def tw7307051916275408443:=z
def tw7386245527899514614:=z
def tw17793843209481645413:=z
def tw14192298454981323399:=z
def tw6623628887240985274:=z
def tw1249975716834641328:=z
def tw1935557780586817216:=z
def tw13183658063455106754:=z
def tw5332313863357322092:=z
def tw2444866600142939957:=z
def tw1850382352073012823:=z
def tw9813618343687143298:=z
def tw5377732365297712358:=z
def tw15444176320497727199:=z
def tw13506878973232450907:=z
def tw4742165944530095657:=z
def tw7260551985574441009:=z
def tw8830947838648242764:=z
def tw5961872257568376759:=z
def tw3888990929007443963:=z
def tw4794141531004147470:=z
def tw8454404450149249098:=z
def tw12427222395855745260:=z
def tw8556089174493525507:=z
def tw16970534072775882211:=z
def tw9627670096984257780:=z
def tw14083413919065305878:=z
def tw1073246602265966697:=z
def tw14484595210384988400:=z
def tw5793779921432827822:=z
def tw13502737243065836492:=z
def tw14168212196389722296:=z
def tw3058216442139686318:=z
def tw9793771741954197024:=z
def tw17881803090472703236:=z
def tw6156817384363782226:=z
def tw14091678882605284350:=z
def tw6602074412893387572:=z
def tw15143062143723072376:=z
def tw14390097734271895729:=z
def tw16801971292949063807:=z
def tw163872467796528151:=z
def tw17191361887892545673:=z
def tw6483899647843884888:=z
def tw4430978905276668042:=z
def tw10891911562944323451:=z
def tw14877207851281546808:=z
def tw2014425159482360927:=z
def tw865690980987651100:=z
def tw11065821045165727773:=z
def tw13526814432022107417:=z
def tw5080322082151892475:=z
def tw17361213107069893485:=z
def tw1095865194150341571:=z
def tw18125727215781760391:=z
def tw11255377102107350488:=z
def tw1752991919516380262:=z
def tw2528101084606963363:=z
def tw4300420585968322661:=z
def tw4527807511137304751:=z
def tw6194874018839505717:=z
def tw13212875502267061421:=z
def tw13204480417158000404:=z
def tw2655785302194026480:=z
def tw7816411998658074006:=z
def tw7219761630410342755:=z
def tw7238859904989473804:=z
def tw11373166741762471888:=z
def tw5760449203322937842:=z
def tw14316605004202393382:=z
def tw9908383683960605908:=z
def tw5772924784400958264:=z
def tw8879513351022640473:=z
def tw3745021201032905191:=z
def tw14802342342116532058:=z
def tw5538302621163433319:=z
def tw4868264979285717447:=z
def tw10826306096980903730:=z
def tw8724913910641789046:=z
def tw12752590631447151503:=z
def tw9846871700325770989:=z
def tw9495282760116204236:=z
def tw10658800782508966881:=z
def tw10136571045401040146:=z
def tw9634003230193150518:=z
def tw6515834183495051289:=z
def tw17796904503542713181:=z
def tw11510654304586540471:=z
def tw9616149776499319014:=z
def tw965890136095472213:=z
def tw16345438931150097249:=z
def tw8561307675116211838:=z
def tw9761509882985828702:=z
def tw10353212435039636371:=z
def tw15423449491802742239:=z
def tw851032533661151746:=z
def tw12306187476061494718:=z
def tw16861342985651278612:=z
def tw11746347073650949756:=z
def tw8984363689835853141:=z
def tw15215179335338911225:=z
def tw3170884313876905631:=z
def tw1702733338342919492:=z
def tw1136325403837549808:=z
def tw18109796999478814554:=z
def tw14385322920253572674:=z
def tw6453474882099267312:=z
def tw4249511854703539272:=z
def tw14585394526761105517:=z
def tw4872138626423462556:=z
def tw14513381057939846633:=z
def tw4816452079513352752:=z
def tw8351395197058156298:=z
def tw4160423322683941032:=z
def tw13586699201846842553:=z
def tw15576734485437222331:=z
def tw18291736673741555381:=z
def tw2876895224957576824:=z
def tw852217635619219584:=z
def tw902029717270179020:=z
def tw15006968450197159995:=z
def tw2384676102653659734:=z
def tw1900033838128312417:=z
def tw182834557702193919:=z
def tw8701707817974628341:=z
def tw5565601457191922690:=z
def tw15404853966763106635:=z
def tw8667635950190730707:=z
def tw2426682400864128978:=z
def tw17465545684452603514:=z
def tw17728061731948162658:=z
def tw2163025804449030533:=z
def tw8024066112754827424:=z
def tw7652565033563435599:=z
def tw9672216807355453988:=z
def tw1302183930313976000:=z
def tw4451215964279999846:=z
def tw15404021308710998244:=z
def tw17683502480387651762:=z
def tw5860466069559671064:=z
def tw17543723945135159969:=z
def tw17442048709341434867:=z
def tw7871387327884964125:=z
def tw10509886150973971038:=z
def tw5050037091982449544:=z
def tw18368446965777058847:=z
def tw6986292302544621826:=z
def tw5604811330811576491:=z
def tw18114450689381404293:=z
def tw4783432908399896652:=z
def tw8203503924034174700:=z
def tw18047797022951824673:=z
def tw663551702297921204:=z
def tw16260340732477318960:=z
def tw4655790807676672563:=z
def tw4327513660368284870:=z
def tw17052434176884182686:=z
def tw16080135840872224203:=z
def tw8271360118094546809:=z
def tw14561021038410926457:=z
def tw6653441923207832648:=z
def tw4816141780803055366:=z
def tw12679879936409759866:=z
def tw15973874470533918993:=z
def tw1911731233758138338:=z
def tw15850026129561341287:=z
def tw17453986064645891583:=z
def tw11797006049076988591:=z
def tw10106673642256844541:=z
def tw2738552121451508580:=z
def tw853592369773261596:=z
def tw12405581574614733851:=z
def tw13197789202010876686:=z
def tw146549880083158492:=z
def tw6305371217448903516:=z
def tw10915124228408262625:=z
def tw16563300053885457467:=z
def tw1789082651719670777:=z
def tw13149084285429498714:=z
def tw10345516804576580712:=z
def tw2847502932123171954:=z
def tw2371057892889817708:=z
def tw9188838034913795537:=z
def tw7128398145535381881:=z
def tw4399143492621406304:=z
def tw12825866171633869295:=z
def tw11611366652459188360:=z
def tw12463403437169025749:=z
def tw10404121662208378574:=z
def tw16037654885632647580:=z
def tw16907624400484409740:=z
def tw775349644443202382:=z
def tw10356736469026826418:=z
def tw12059887132790695815:=z
def tw1199138258536496097:=z
def tw2222710073577498934:=z
def tw17613723521498585020:=z
def tw7421346238072479104:=z
def tw16141998515489739962:=z
def tw9884779271209644820:=z
def tw11758882748573775030:=z
def tw3848882143930746491:=z
def tw6345821083400338343:=z
def tw13385940403216069327:=z
def tw10418607541974482326:=z
def tw12261159438268120544:=z
def tw7886101563029278533:=z
def tw16031878685436004142:=z
def tw10352282035994195185:=z
def tw5746158096739395460:=z
def tw2744764555813036513:=z
def tw17420237836221746085:=z
def tw11277324571249200114:=z
def tw3239686672190560431:=z
def tw17114285166102636713:=z
def tw16189925962432442951:=z
def tw10311315726127363738:=z
def tw1228061210340247418:=z
def tw3048964673697472273:=z
def tw12122280170805034662:=z
def tw14435063500829226138:=z
def tw9673738083020595591:=z
def tw10935442895475937342:=z
def tw473017607617118955:=z
def tw8888574337769717561:=z
def tw14246515827326622161:=z
def tw4257935518923811727:=z
def tw5458364218733655482:=z
def tw14454213729631152318:=z
def tw730422454868829125:=z
def tw11236919837039728007:=z
def tw1887136420948585808:=z
def tw14427215673344400519:=z
def tw2231806870983208610:=z
def tw16000429453617954606:=z
def tw2739144755863872454:=z
def tw10792642560452562855:=z
def tw4464461210494034588:=z
def tw11637463135080945460:=z
def tw13373694174335004365:=z
def tw3322792503588259813:=z
def tw5601838585938077477:=z
def tw13889431328614634444:=z
def tw1490040276653512631:=z
def tw10845374587502857608:=z
def tw14504539817570001801:=z
def tw9382582492149973553:=z
def tw125102624342222703:=z
def tw14761479303793198879:=z
def tw3853669570501378768:=z
def tw6233290392343978785:=z
def tw8871033735327383357:=z
def tw1264999936911474895:=z
def tw9459440051153679439:=z
def tw3519547502674706749:=z
def tw13757236042786809251:=z
def tw17717356448588112055:=z
def tw3345570874146319638:=z
def tw14241901581291110084:=z
def tw968332359835663892:=z
def tw14776699076634683683:=z
def tw4414318042621563279:=z
def tw609328067843813838:=z
def tw6255596107107633519:=z
def tw13229489964231439440:=z
def tw14408056434237203018:=z
def tw9147805814907174459:=z
def tw943357359084864909:=z
def tw12545530183357218847:=z
def tw16239719186693243146:=z
def tw11395044893292524621:=z
def tw14876909483895564498:=z
def tw4662954028784586538:=z
def tw10260569520085852538:=z
def tw16939196390146942929:=z
def tw11210022180009397651:=z
def tw9318898068056944407:=z
def tw16730084397338874475:=z
def tw16903867465303544599:=z
def tw7353863521693882140:=z
def tw1688364956589174685:=z
def tw433962579496126514:=z
def tw2811859520842713039:=z
def tw8660283665980418281:=z
def tw4213216176309862258:=z
def tw11603863605790049673:=z
def tw2316539556904607783:=z
def tw18287745635928641156:=z
def tw1795226317816881960:=z
def tw16488610506244098054:=z
def tw14906625754334339482:=z
def tw15739724378312667483:=z
def tw1520592176793195122:=z
def tw167616108559826156:=z
def tw3942445831825433553:=z
def tw5380663054231135461:=z
def tw15547230162706086630:=z
def tw100140922716741665:=z
def tw9214139902056274280:=z
def tw11440571193298878411:=z
def tw13703690939462195462:=z
def tw11411794102524201389:=z
def tw11043939447085775940:=z
def tw10220688709677703920:=z
def tw17606852982449266976:=z
def tw7018440897718868833:=z
def tw3514218955285885231:=z
def tw6254087345845736386:=z
def tw5348125180271921788:=z
def tw3894679874978937123:=z
def tw1635716033647093920:=z
def tw830256128574660100:=z
def tw16474926737837735755:=z
def tw9109188443657421308:=z
def tw2257732679981976257:=z
def tw8964109422859252290:=z
def tw18166045419837340763:=z
def tw2714544361022726268:=z
def tw12014419736509201851:=z
def tw11920535243032521398:=z
def tw3278401212075399576:=z
def tw13942108724699684561:=z
def tw13013781685454847213:=z
def tw14112407205747475423:=z
def tw4550283716992838519:=z
def tw7306852470838131143:=z
def tw12384647767699094382:=z
def tw12758767188431166477:=z
def tw12265215789124132792:=z
def tw14238081128427671887:=z
def tw14634543702022558553:=z
def tw18143707723501484295:=z
def tw15995075752336722599:=z
def tw6833267008282705202:=z
def tw9733700198663119291:=z
def tw18044747862098142011:=z
def tw10629036015708310785:=z
def tw4924921407297903539:=z
def tw9546971506378871099:=z
def tw3549407975638390664:=z
def tw7199309604144638918:=z
def tw10485029573170452549:=z
def tw6576152196054196458:=z
def tw4799360835384912357:=z
def tw18203693761621894104:=z
def tw17848792927587417820:=z
def tw4908396731362477586:=z
def tw6834853834486125357:=z
def tw9015725282966766510:=z
def tw17100040213924049048:=z
def tw14878071053252454267:=z
def tw5620599770264803213:=z
def tw15151844064563857384:=z
def tw2591165484446669348:=z
def tw7117981743529247416:=z
def tw18339811022890614844:=z
def tw10060086901447075725:=z
def tw16542940057739289030:=z
def tw14178696210408340746:=z
def tw14964876643514455012:=z
def tw5600975588569750732:=z
def tw7407399807687142761:=z
def tw736162991466104419:=z
def tw9684051977786560394:=z
def tw5566568242895572311:=z
end PySem.W.Fast
set_option maxRecDepth 100000 in
set_option maxHeartbeats 0 in
theorem PySem.Challenge.cw_likehalves_k33_a_keeper_by_drawn_deeds_holds : PySem.Challenge.rw_likehalves_k33_a_keeper_by_drawn_deeds.Holds := by
 w_on;o_law;k_head;(case hw=>w_witness2);k_fill;refine Hv.walk (l := PySem.Challenge.rw_likehalves_k33_a_keeper_by_drawn_deeds) rfl rfl (λw h Y => PySem.W.kIn_of Y) ?F
 case F =>
  intro w mg fa h KX G tj;refine' Hv.sP_ KX G tj ?t ?i0 ?i1 ?i2 ?i3 ?i4 ?i5 ?i6 ?i7 ?i8 ?i9 ?PZ ?P0 ?pA ?pB ?P1 ?P2 ?P3 ?P4 ?P5 ?P6 ?P7 ?P8 ?P9 ?pC ?Qa ?Qb ?Qc ?Qd ?Qe ?Qf ?Qg ?Qh ?Gf ?Qi ?Qj ?Gg ?Qk ?Ql ?Qm ?Qn ?Qo ?Qp ?vD ?sC ?Qq ?Qr ?Qs ?Qt ?Qu ?Qv ?Qw ?Qx ?Qy ?Qz ?QA ?QB ?QC ?QD ?QE ?QF ?QG ?QH ?aC ?Gh ?Gi ?Gj ?Gk ?Gm ?kC ?nS ?Gn ?Go ?Gp ?Gq ?Az ?AB ?Gr ?eB ?e0 ?e1 ?e2 ?e3 ?e4 ?e5 ?e6 ?e7 ?e8 ?e9 ?tB ?mB ?q1 ?m1 ?l1 ?v1 ?Gs ?Gu ?Gv ?Gw ?GA ?GB ?GC ?GE ?GF ?GG ?q2 ?m2 ?l2 ?v2 ?GH ?GI ?GJ ?GK ?GL ?GM ?GN ?GO ?GP ?GQ ?o8 ?o9 ?fQ ?nK ?vE ?jl;case aC=>k_is
  case Gh=>k_is
  case Gi=>k_is
  case Gj=>k_is
  case Gk=>k_is
  case Gm=>k_is
  case kC=>k_is
  case nS=>k_is
  case Gn =>
   refine' Hv.p8 ?a ?i ?l ?c ?k;(case a=>k_is);(case i=>k_is);(case l=>k_is);(case c=>k_is);(case k=>k_is)
  case Go =>
   refine' Hv.p8 ?a ?i ?l ?c ?k;(case a=>k_is);(case i=>k_is);(case l=>k_is);(case c=>k_is);(case k=>k_is)
  case Gp =>
   refine' Hv.p8 ?a ?i ?l ?c ?k;(case a=>k_is);(case i=>k_is);(case l=>k_is);(case c=>k_is);(case k=>k_is)
  case Gq =>
   refine' Hv.p8 ?a ?i ?l ?c ?k;(case a=>k_is);(case i=>k_is);(case l=>k_is);(case c=>k_is);(case k=>k_is)
  case Az =>
   refine' Hv.p8 ?a ?i ?l ?c ?k;(case a=>k_is);(case i=>k_is);(case l=>k_is);(case c=>k_is);(case k=>k_is)
  case AB =>
   refine' Hv.p8 ?a ?i ?l ?c ?k;(case a=>k_is);(case i=>k_is);(case l=>k_is);(case c=>k_is);(case k=>k_is)
  case Gr =>
   refine' Hv.p8 ?a ?i ?l ?c ?k;(case a=>k_is);(case i=>k_is);(case l=>k_is);(case c=>k_is);(case k=>k_is)
  case eB=>k_is
  case e0=>k_is
  case e1=>k_is
  case e2=>k_is
  case e3=>k_is
  case e4=>k_is
  case e5=>k_is
  case e6=>k_is
  case e7=>k_is
  case e8=>k_is
  case e9=>k_is
  case tB=>k_is
  case mB=>k_is
  case q1=>kernel_rfl
  case m1=>k_is
  case l1=>exact⟨by k_is,by k_is,by kernel_rfl,by k_is,by k_is⟩
  case v1=>kernel_rfl
  case Gs=>kernel_rfl
  case Gu=>kernel_rfl
  case Gv=>kernel_rfl
  case Gw=>kernel_rfl
  case GA=>kernel_rfl
  case GB=>kernel_rfl
  case GC=>kernel_rfl
  case GE=>kernel_rfl
  case GF=>kernel_rfl
  case GG=>kernel_rfl
  case q2=>kernel_rfl
  case m2=>k_is
  case l2=>exact⟨by k_is,by k_is,by kernel_rfl,by k_is,by k_is⟩
  case v2=>kernel_rfl
  case GH=>kernel_rfl
  case GI=>kernel_rfl
  case GJ=>kernel_rfl
  case GK=>kernel_rfl
  case GL=>kernel_rfl
  case GM=>kernel_rfl
  case GN=>kernel_rfl
  case GO=>kernel_rfl
  case GP=>kernel_rfl
  case GQ=>kernel_rfl
  case o8=>k_is
  case o9=>k_is
  case fQ=>k_is
  case nK=>k_is
  case vE=>k_is
  case t=>refine⟨?_,?_,?_,?_,?_,?_,?_,?_,?_,?_,?_,?_,?_,?_⟩ <;> k_is
  all_goals
   refine' Hv.sY_ ?a ?l ?c ?k;(case a=>k_is);(case l=>k_is);(case c=>k_is);(case k=>k_is)
#print axioms PySem.Challenge.cw_likehalves_k33_a_keeper_by_drawn_deeds_holds
