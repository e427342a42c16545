import PyProof.Rows.All
import Wide.All
import OpenK.AllK
import Wide.FinOn
import Lean
import PyProof.EqAt
import PyProof.EqKinds
import PyProof.TupleCall
import KE.KIsAll
import KE.KItem
import KE.KxBytes
import KE.KRevIter
import PyProof.LongRange
import KE.KDictOf
import PyProof.ReprRoads
import PyProof.ListRange
import PyProof.ReprLen
import KE.KTurnsDict
import KE.KPairComp
import PyProof.Rows.SortShell
import KE.KDictList
import PyProof.AttrMissSeq
import PyProof.DictUpdate
import PyProof.WalksS
import KE.KEqDict
import PyProof.SumWalkG
import PyProof.Rows.StrJoin2
import PyProof.StrWalks
import PyProof.StrCalls2
import PyProof.SliceStr2
import KE.KIntText
import PyProof.StrLawsTight
import PyProof.StrBlockL
import PyProof.Rows.ReprOcc
import PyProof.StationsW
import PyProof.Rows.TopTwo
import OpenK.KOwn
import PyProof.RulesDel
import PyProof.Rows.CatchOwn
import PyProof.RulesAs
import PyProof.ExcArgs
import PyProof.Rows.SortStr
import PyProof.StrBlock2
import PyProof.Rows.CatFin
import PySem.Challenge.RW_likehalves_k41_rows_that_are_none
local macro_rules|`(tactic|decide)=>`(tactic|decide +kernel)
local macro_rules|`(tactic|show $e)=>`(tactic|refine $e)
theorem Z.{u}{α:Sort u}{a:α}:a=a:=rfl
set_option linter.defProp false
noncomputable section
def a2x:=@List.length_map
def a2y:=@PySem.Heap.get?_push_of_some
def a2z:=@List.getElem?_eq_some_iff
def a2A:=@List.mem_of_getElem?
def a2B:=@List.mem_cons
def a2C:=@PySem.Heap.lt_size
def a2D:=@Nat.le_refl
def a2E:=@List.getElem?_map
def a2F:=@PySem.Heap.get?_push_size
def a2G:=@List.mem_cons_of_mem
def a2H:=@Bool.and_eq_true
def a2I:=@List.take_add_one
def a2J:=@Option.some.inj
def a2K:=@List.all_eq_true
def a2L:=@Nat.lt_of_lt_of_le
def a2M:=@List.take_length
def a2N:=@List.mem_map
def a2O:=@List.length_append
def a2P:=@List.length_cons
def a2Q:=@List.not_mem_nil
def a2R:=@Bool.false_ne_true
def a2S:=@List.size_toArray
def a2T:=@List.getElem?_eq_getElem
def a2U:=@Nat.le_trans
def a2V:=@Nat.ne_of_lt
def a2W:=@List.foldl_cons
def a2X:=@List.map_cons
def a2Y:=@List.mem_cons_self
def a2Z:=@List.mem_singleton
def a3a:=@List.length_take
def a3b:=@List.mem_append_right
def a3c:=@List.length_drop
def a3d:=@List.sum_cons
def a3e:=@List.map_append
def a3f:=@List.take_of_length_le
def a3g:=@List.nodup_cons
def a3h:=@PySem.Heap.size_push
def a3i:=@List.take_append_drop
def a3j:=@List.mem_append
def a3k:=@List.getElem?_append_left
def a3l:=@List.append_assoc
def a3m:=@Array.toList_append
def a3n:=@PySem.W.mg_of
def a3o:=@List.getElem?_append_right
def a3p:=@Int.eq_ofNat_of_zero_le
def a3q:=@Nat.zero_le
def a3r:=@PySem.Heap.get?_update_other
def a3s:=@Array.getElem?_eq_some_iff
def a3t:=@Nat.le_add_right
def a3u:=@Nat.ne_of_gt
def a3v:=@List.map_map
def a3w:=@Nat.lt_irrefl
def a3x:=@List.all_cons
def a3y:=@List.getElem?_of_mem
def a3z:=@Nat.mul_le_mul_right
def a3A:=@List.mem_of_find?_eq_some
def a3B:=@Bool.false_eq_true
def a3C:=@List.map_congr_left
def a3D:=@List.mem_of_mem_drop
def a3E:=@Nat.add_mul
def a3F:=@Nat.pow_add
def a3G:=@PySem.W.kia_one
def a3H:=@List.append_nil
def a3I:=@List.sum_append
def a3J:=@Int.emod_nonneg
def a3K:=@Nat.lt_succ_self
def a3L:=@Nat.div_div_eq_div_mul
def a3M:=@Nat.mul_assoc
def a3N:=@Nat.mul_comm
def a3O:=@List.find?_cons
def a3P:=@Int.emod_lt_of_pos
def a3Q:=@List.mem_append_left
def a3R:=@List.getElem_mem
def a3S:=@Nat.lt_succ_of_lt
def a3T:=@List.length_pos_of_mem
def a3U:=@Array.toList_push
def a3V:=@Bool.not_eq_true'
def a3W:=@List.zipWith_cons_cons
def a3X:=@Array.length_toList
def a3Y:=@PySem.Heap.get?_update_self
def a3Z:=@List.zipWith_nil_left
def a4a:=@List.lookup_cons
def a4b:=@Array.getElem?_setIfInBounds_self_of_lt
def a4c:=@Nat.pow_succ
def a4d:=@List.getElem?_set_ne
def a4e:=@List.mem_of_mem_take
def a4f:=@Int.mul_le_mul_of_nonneg_left
def a4g:=@List.getElem?_cons_succ
def a4h:=@Nat.min_eq_left
def a4i:=@List.drop_succ_cons
def a4j:=@List.getElem?_set_self
def a4k:=@List.all_map
def a4l:=@Option.map_eq_some_iff
def a4m:=@Nat.add_zero
def a4n:=@Nat.pow_pos
def a4o:=@List.drop_zero
def a4p:=@PySem.W.mg_none_of
def a4q:=@List.getElem?_eq_none
def a4r:=@List.getElem?_zipWith
def a4s:=@List.perm_append_comm
def a4t:=@List.all_append
def a4u:=@List.foldl_append
def a4v:=@Int.zero_add
def a4w:=@Nat.sub_self
def a4x:=@Nat.add_assoc
def a4y:=@List.replicate_succ
def a4z:=@List.zipWith_append
def a4A:=@Nat.add_sub_cancel_left
def a4B:=@List.cons_append
def a4C:=@Int.le_refl
def a4D:=@Nat.le_of_lt
def a4E:=@Nat.pow_zero
def a4F:=@Nat.sub_zero
def a4G:=@Nat.zero_mul
def a4H:=@List.any_cons
def a4I:=@PySem.W.methodCall_KW
def a4J:=@List.length_singleton
def a4K:=@Array.getElem?_toList
def a4L:=@Array.perm_iff_toList_perm
def a4M:=@Array.toList_reverse
def a4N:=@Nat.pow_le_pow_right
def a4O:=@Int.one_mul
def a4P:=@Int.le_trans
def a4Q:=@List.zipIdx_cons
def a4R:=@Nat.div_eq_of_lt
def a4S:=@List.filterMap_cons
def a4T:=@Int.mul_assoc
def a4U:=@Bool.and_true
def a4V:=@List.length_set
def a4W:=@List.forIn_cons
def a4X:=@List.find?_some
def a4Y:=@Nat.div_add_mod
def a4Z:=@List.cons.injEq
def a5a:=@Nat.lt_of_le_of_lt
def a5b:=@List.getElem?_replicate
def a5c:=@Nat.one_mul
def a5d:=@List.mem_range
def a5e:=@Int.toNat_natCast
def a5f:=@List.flatten_cons
def a5g:=@List.map_nil
def a5h:=@List.ext_getElem?
def a5i:=@List.drop_drop
def a5j:=@List.drop_of_length_le
def a5k:=@Nat.zero_add
def a5l:=@List.reverse_perm
def a5m:=@List.all_nil
def a5n:=@Array.getElem?_setIfInBounds_ne
def a5o:=@List.length_replicate
def a5p:=@Nat.mod_lt
def a5q:=@Option.getD_some
def a5r:=@PySem.W.kdl_dict
def a5s:=@List.any_eq_true
def a5t:=@PySem.Heap.IsList.push
def a5u:=@Bool.true_and
def a5v:=@Nat.pow_succ'
def a5w:=@Nat.le_succ
def a5x:=@Array.toList_extract
def a5y:=@List.eq_nil_of_length_eq_zero
def a5z:=@List.mem_filter
def a5A:=@Bool.eq_iff_iff
def a5B:=@List.nil_append
def a5C:=@List.range_succ
def a5D:=@List.zipIdx_nil
def a5E:=@List.dropLast_concat_getLast
def a5F:=@PySem.W.plainGet_of
def a5G:=@PySem.W.callWith_K0
def a5H:=@Nat.pow_le_pow_left
def a5I:=@PySem.Heap.SameBut.update
def a5J:=@Int.zero_mul
def a5K:=@Int.mul_comm
def a5L:=@PySem.W.callWith_K
def a5M:=@List.nodup_nil
def a5N:=@List.forIn_nil
def a5O:=@List.getD_eq_getElem?_getD
def a5P:=@List.getElem?_eq_none_iff
def a5Q:=@List.extract_eq_take_drop
def a5R:=@Array.getElem?_eq_getElem
def a5S:=@List.mem_or_eq_of_mem_set
def a5T:=@Nat.log2_lt
def a5U:=@Nat.div_one
def a5V:=@List.map_drop
def a5W:=@Nat.min_eq_right
def a5X:=@Nat.add_comm
def a5Y:=@Nat.le_total
def a5Z:=@List.of_mem_zip
def a6a:=@List.length_nil
def a6b:=@Array.Perm.refl
def a6c:=@Nat.mul_add_div
def a6d:=@Bool.false_and
def a6e:=@Int.mul_one
def a6f:=@Int.add_mul
def a6g:=@Int.mul_add
def a6h:=@List.take_take
set_option compiler.extract_closed false
set_option genSizeOf false
set_option Elab.async false
set_option linter.all false
set_option maxRecDepth 100000
namespace L2
open PySem PySem.Spec PyProof.Rows
abbrev ax:=Sum Int Str
def jJ:ax->Value->Bool
 | .inl k,v=>Value.isInt k v
 | .inr x,v=>Value.isStrOf x v
def PZ(w:World):ax->Int
 | .inl k=>hashInt k
 | .inr x=>hashStr w x
def F_:∀ {k:ax} {v:Value},jJ k v=true->(∃i t,k=Sum.inl i/\v=Value.int i t)\/(∃x t,k=Sum.inr x/\v=Value.str x t)
 | .inl i,v,h=>by
  obtain⟨t,e⟩:=Value.isInt_shape h;show .inl ⟨i,t,Z,e⟩
 | .inr x,v,h=>by
  obtain⟨t,e⟩:=Value.isStrOf_shape h;show .inr ⟨x,t,Z,e⟩
def P0(i:Int)(t:Tok):jJ (.inl i) (.int i t)=true:=by simp[jJ,Value.isInt]
def P1(x:Str)(t:Tok):jJ (.inr x) (.str x t)=true:=by simp[jJ,Value.isStrOf]
def P2(a b:Int):decide ((Sum.inl a:ax)=Sum.inl b)=(a==b):=by grind
def P3(a b:Str):decide ((Sum.inr a:ax)=Sum.inr b)=decide (a=b):=by simp
def P4(a:Int)(b:Str):decide ((Sum.inl a:ax)=Sum.inr b)=false:=by simp
def P5(a:Str)(b:Int):decide ((Sum.inr a:ax)=Sum.inl b)=false:=by simp
def v_(prog:Program)(w:World):PySem.KeyKind prog w ax where
 is:=jJ
 hash:=PZ w
 inj:=λv a b ha hb=>by
  rcases F_ ha with⟨i,t,rfl,rfl⟩ | ⟨x,t,rfl,rfl⟩
  .rcases F_ hb with⟨j,u,rfl,e⟩ | ⟨y,u,rfl,e⟩;.injection e with e1 _;rw[e1]
   .show nomatch e
  .rcases F_ hb with⟨j,u,rfl,e⟩ | ⟨y,u,rfl,e⟩;.show nomatch e
   .injection e with e1 _;rw[e1]
 byValue:=λk v h=>by
  rcases F_ h with⟨i,t,rfl,rfl⟩ | ⟨x,t,rfl,rfl⟩ <;> rfl
 pyHash:=λhv h=>by
  rcases F_ hv with⟨i,t,rfl,rfl⟩ | ⟨x,t,rfl,rfl⟩;.show wpAny_pyHash_int h
  .show wpAny_pyHash_str h
 eqBool:=λhu hv h=>by
  rcases F_ hu with⟨i,t,rfl,rfl⟩ | ⟨x,t,rfl,rfl⟩
  .rcases F_ hv with⟨j,u,rfl,rfl⟩ | ⟨y,u,rfl,rfl⟩;.rw[P2] at h;show wpAny_eqBool_int h
   .rw[P4] at h;show SeqAt.EqAt.int_str i t y u _ _ _ _ h
  .rcases F_ hv with⟨j,u,rfl,rfl⟩ | ⟨y,u,rfl,rfl⟩;.rw[P5] at h;show SeqAt.EqAt.str_int x t j u _ _ _ _ h
   .rw[P3] at h;show wpAny_eqBool_str h
 «strs»:=λk x t v h=>by
  rcases F_ h with⟨i,u,rfl,e⟩ | ⟨y,u,rfl,e⟩;.show nomatch e
  .injection e with e1 _;subst e1;cases v <;> rfl
def P6(prog:Program)(w:World)(i:Int)(t:Tok):(v_ prog w).is (.inl i) (.int i t)=true:=P0 i t
def An(prog:Program)(w:World)(x:Str)(t:Tok):(v_ prog w).is (.inr x) (.str x t)=true:=P1 x t
inductive V where
 | au | bl (b:Bool) | int (i:Int) | str (x:Str) | io (b:Array UInt8) | nq (b:UInt64) | ref (a:Addr) | ty (n:String)
 deriving DecidableEq
def RelV:V->Value->Prop
 | .au,u=>u=Value.none
 | .bl b,u=>u=Value.bool b
 | .int i,u=>∃t,u=Value.int i t
 | .str x,u=>∃t,u=Value.str x t
 | .io b,u=>∃t,u=Value.bytes b t
 | .nq b,u=>∃t,u=Value.float b t
 | .ref a,u=>u=Value.ref a
 | .ty n,u=>u=Value.type n
abbrev az:List V->List Value->Prop:=Paired RelV
theorem az.length(r:az xs us):xs.length=us.length:=Paired.length r
theorem az.get:∀ {xs:List V} {us:List Value} {i:Nat} {x:V},az xs us->xs[i]?=some x->∃u,us[i]?=some u/\RelV x u
 | _,_,_,_,.nil,e=>by simp at e
 | _,_,0,_,.cons r _,e=>by simp at e;subst e;show⟨_,Z,r⟩
 | _,_,i+1,x,.cons _ t,e=>by
  obtain⟨u,h1,h2⟩:=az.get t (by simpa using e);show⟨u,by simpa using h1,h2⟩
theorem az.set{x:V}{u:Value}(r:RelV x u):∀ {xs:List V} {us:List Value} (i:Nat),az xs us->az (xs.set i x) (us.set i u)
 | _,_,_,.nil=>.nil
 | _,_,0,.cons _ t=>.cons r t
 | _,_,i+1,.cons q t=>.cons q (az.set r i t)
def az.append(a:az xs us)(b:az ys ws):az (xs++ys) (us++ws):=by
 induction a with
 | nil=>show b
 | cons r _ ih=>show .cons r ih
theorem az.take:∀ {xs:List V} {us:List Value} (n:Nat),az xs us->az (xs.take n) (us.take n)
 | _,_,0,_=>.nil
 | _,_,_+1,.nil=>.nil
 | _,_,n+1,.cons r t=>.cons r (az.take n t)
theorem az.drop:∀ {xs:List V} {us:List Value} (n:Nat),az xs us->az (xs.drop n) (us.drop n)
 | _,_,0,r=>r
 | _,_,_+1,.nil=>.nil
 | _,_,n+1,.cons _ t=>az.drop n t
def az.none_of:∀ {xs:List V} {us:List Value} {i:Nat},az xs us->xs[i]?=none->us[i]?=none:=λ{xs us i} r e=>by
 have h1:=r.length;have h2:=a5P.mp e;show a5P.mpr<|by omega
def d9:Option V->Option Value->Prop
 | some v,some u=>RelV v u
 | none,none=>True
 | _,_=>False
def KV:List (κ×V)->List (κ×Value)->Prop:=Paired λ(p:κ×V) (q:κ×Value)=>p.1=q.1/\RelV p.2 q.2
def kV:ax->V
 | .inl i=>.int i
 | .inr x=>.str x
inductive HO where
 | lst (xs:List V)
 | tup (xs:List V)
 | dK (kvs:List (ax×V)) | dT (kvs:List (List ax×V))
 | set (S:Int->Bool) (n:Nat)
 | ins (C dx:Addr) (fs:List (Str×V))
 | own (x:Addr)
 | xd (fs:List (Str×V))
 | met (f x:Addr)
 | vA (lo hi:Int)
 | bV (o:Obj) (u:HO)
 | lT (ps:Array Value)
 | ext (φ:Heap->Prop)
abbrev Hp:=Addr->Option HO
def ad(H:Hp)(a:Addr)(o:HO):Hp:=λb=>if b=a then some o else H b
def c_:ad H a o a=some o:=by unfold ad;rw[if_pos Z]
def i_(h:b≠a):ad H a o b=H b:=by unfold ad;rw[if_neg h]
def Ao{H:Hp}(h:H a=some o)(h':H b=some u)(d:o≠u):a≠b:=by intro e;subst e;rw[h] at h';show d<|a2J h'
def l_{H:Hp}(h:H a=some o)(h':H b=none):a≠b:=by grind
section
variable(P:Program)(w:World)
def cr(H:Hp)(h:Heap)(a:Addr):HO->Prop
 | .lst xs=>xs.length<=sizeLine/\∃(af:List Value) (n:Nat),az xs af/\h.get? a=some {cls:=.type "list",data:=.seq af.toArray n}
 | .tup xs=>xs.length<=sizeLine/\∃af:List Value,az xs af/\IsTup h a af.toArray
 | .dK kvs=>kvs.length<=sizeLine/\(a==sysModules)=false/\∃vs,KV kvs vs/\h.DictOf (v_ P w) a vs
 | .dT kvs=>kvs.length<=sizeLine/\(a==sysModules)=false/\∃xs:List (List ax×Addr×Value),
   Paired (λ(p:List ax×V) (q:List ax×Addr×Value)=>p.1=q.1/\H q.2.1=some (.tup (p.1.map kV))/\RelV p.2 q.2.2) kvs xs/\
   ∃o es ep,h.get? a=some o/\o.ExactDict/\o.data=.dict es ep/\es.toList=xs.map (entryOfKey (tupleKind (v_ P w)))/\(xs.map (·.1)).Nodup
 | .set S n=>h.SetOf (intKind P w) a S n
 | .ins C dx fs=>H dx=some (.own a)/\fs.length<=1000/\dx≠a/\h.get? a=some (PySem.W.instObj C dx)/\
   ∃mA,h.Ns1 dx mA/\(∀f,d9 (fs.lookup f) (mA f))/\PySem.Within mA (fs.map (·.1))
 | .own _=>∃o,h.get? a=some o
 | .xd fs=>∃mA,h.Ns1 a mA/\∀f,d9 (fs.lookup f) (mA f)
 | .vA lo hi=>∃t u v,h.get? a=some {cls:=.type "range",data:=.fields #[.int lo t,.int hi u,.int 1 v]}
 | .bV o u=>h.get? a=some o/\cr H h a u
 | .lT ps=>h.get? a=some {cls:=.none,data:=.fields ps}
 | .met f x=>h.get? a=some (PySem.W.methodObj (.ref f) (.ref x))
 | .ext φ=>φ h/\(∃o,h.get? a=some o)/\∀h1 h2:Heap,φ h1->(∀o,h1.get? a=some o->h2.get? a=some o)->φ h2
def bC(H:Hp)(h:Heap):Prop:=∀a o,H a=some o->cr P w H h a o
end
section
variable{a:Addr}
theorem cr.lt(x:cr P w H h a o):a<h.objs.size:=by
 cases o with
 | lst xs=>obtain⟨_,_,_,_,e⟩:=x;show a2C e
 | tup xs=>obtain⟨_,_,_,p⟩:=x;show p.lt
 | dK kvs=>obtain⟨_,_,_,_,o,_,_,e,_⟩:=x;show a2C e
 | dT kvs=>obtain⟨_,_,_,_,o,_,_,e,_⟩:=x;show a2C e
 | set S n=>obtain⟨o,_,_,_,e,_⟩:=x;show a2C e
 | ins C dx fs=>obtain⟨_,_,_,e,_⟩:=x;show a2C e
 | own y=>obtain⟨_,e⟩:=x;show a2C e
 | xd fs=>obtain⟨_,⟨_,_,_,e,_⟩,_⟩:=x;show a2C e
 | vA lo hi=>obtain⟨_,_,_,e⟩:=x;show a2C e
 | bV ob u=>obtain⟨e,_⟩:=x;show a2C e
 | lT ps=>show a2C (show h.get? a=some _ from x)
 | met f y=>show a2C (show h.get? a=some _ from x)
 | ext φ=>obtain⟨_,⟨_,e⟩,_⟩:=x;show a2C e
def Paired.jK{Gc:List α}{Gd:List β}(h:Paired F Gc Gd)(f:∀a b,F a b->G a b):Paired G Gc Gd:=by
 induction h with
 | nil=>show .nil
 | cons r _ ih=>show .cons (f _ _ r) ih
def cr.gt(x:cr P w H h a o)(k:∀b u,(b=a\/H b=some (.own a))->h.get? b=some u->h'.get? b=some u) (ho:∀b,H b=some (.own a)->H' b=some (.own a)) (ht:∀b xs,H b=some (.tup xs)->H' b=some (.tup xs)):cr P w H' h' a o:=by
 induction o with
 | lst xs=>obtain⟨z,af,n,r,e⟩:=x;show⟨z,af,n,r,k _ _ (.inl Z) e⟩
 | tup xs=>obtain⟨z,af,r,ob,e,c⟩:=x;show⟨z,af,r,ob,k _ _ (.inl Z) e,c⟩
 | dK kvs=>obtain⟨z,y,vs,r,ob,es,ep,e,c⟩:=x;show⟨z,y,vs,r,ob,es,ep,k _ _ (.inl Z) e,c⟩
 | dT kvs =>
  obtain⟨z,y,xs,r,ob,es,ep,e,c⟩:=x;show⟨z,y,xs,Paired.jK r λp q z=>⟨z.1,ht _ _ z.2.1,z.2.2⟩,ob,es,ep,k _ _ (.inl Z) e,c⟩
 | set S n=>obtain⟨ob,es,ep,t,e,c⟩:=x;show⟨ob,es,ep,t,k _ _ (.inl Z) e,c⟩
 | ins C dx fs =>
  obtain⟨d,z,ne,e,mA,⟨od,es,ep,e2,c⟩,r⟩:=x;show⟨ho _ d,z,ne,k _ _ (.inl Z) e,mA,⟨od,es,ep,k _ _ (.inr d) e2,c⟩,r⟩
 | own y=>obtain⟨ob,e⟩:=x;show⟨ob,k _ _ (.inl Z) e⟩
 | xd fs=>obtain⟨mA,⟨od,es,ep,e,c⟩,r⟩:=x;show⟨mA,⟨od,es,ep,k _ _ (.inl Z) e,c⟩,r⟩
 | vA lo hi=>obtain⟨t,u,v,e⟩:=x;show⟨t,u,v,k _ _ (.inl Z) e⟩
 | bV ob u ih=>obtain⟨e,q⟩:=x;show⟨k _ _ (.inl Z) e,ih q⟩
 | lT ps =>
  have e:=x;show k a _ (.inl Z) e
 | met f y =>
  have e:=x;show k a _ (.inl Z) e
 | ext φ=>obtain⟨p,⟨o,e⟩,st⟩:=x;show⟨st _ _ p λo q=>k _ _ (.inl Z) q,⟨o,k _ _ (.inl Z) e⟩,st⟩
theorem bC.lt(x:bC P w H h)(e:H a=some o):a<h.objs.size:=(x a o e).lt
def bC.fresh(x:bC P w H h)(e:h.objs.size<=a):H a=none:=by
 cases q:H a with
 | none=>rfl
 | some u=>show absurd (a2L (x.lt q) e)<|a3w _
def bC.kept(x:bC P w H h)(k:∀b u,h.get? b=some u->h'.get? b=some u):bC P w H h':=λa o e => (x a o e).gt (λb u _ q=>k b u q) (λ_ q=>q) λ_ _ q=>q
def bC.laid(x:bC P w H h)(k:∀b u,h.get? b=some u->h'.get? b=some u)(hp:h.objs.size<=a)(new:cr P w (ad H a o) h' a o):bC P w (ad H a o) h':=λb u e=>by
 have hn:=x.fresh hp;by_cases hb:b=a;.subst hb;rw[c_] at e;cases e;show new
 .rw[i_ hb] at e;show(x b u e).gt (λc v _ q=>k c v q) (λc q=>by rw[i_ (l_ q hn)];show q) λc xs q=>by rw[i_ (l_ q hn)];show q
end
def Rd(H:Hp)(a:Addr)(u:HO):Prop:=H a=some u\/∃o,H a=some (.bV o u)
def Rd.ok(r:Rd H a u)(x:bC P w H h):cr P w H h a u:=by
 rcases r with r | ⟨o,r⟩;.show x a u r
 .obtain⟨_,q⟩:=x a _ r;show q
def rP:Option HO->Prop
 | some (.lst _)=>True
 | some (.dK _)=>True
 | some (.dT _)=>True
 | some (.set _ _)=>True
 | some (.ins _ _ _)=>True
 | some (.ext _)=>True
 | _=>False
def bC.write(ok:bC P w H h)(mu:rP (H x))(he:e=x\/H e=some (.own x))(k:∀b u,b≠e->h.get? b=some u->h'.get? b=some u)(pT:∃u,h'.get? e=some u) (new:cr P w (ad H x o') h' x o'):bC P w (ad H x o') h':=λb u q=>by
 have Ge:∀c y,H c=some (.own y)->c≠x:=λc y r z=>by subst z;rw[r] at mu;show mu
 have P7:∀c xs,H c=some (.tup xs)->c≠x:=λc xs r z=>by subst z;rw[r] at mu;show mu
 by_cases hb:b=x;.subst hb;rw[c_] at q;cases q;show new
 .rw[i_ hb] at q;by_cases kz:b=e
  .have q':H b=some (.own x):=by simp_all
   rw[q] at q';cases q';obtain⟨v,hv⟩:=pT;show⟨v,by rw[kz];show hv⟩
  .show(ok b u q).gt (λc v hc r=>k c v ?_ r) (λc r=>by rw[i_ (Ge c b r)];show r) λc xs r=>by rw[i_ (P7 c xs r)];show r
   rcases hc with rfl | hc;.show kz
   .grind
structure Un(fs ex:List Addr)(H H':Hp)(h h':Heap):Prop where
 keep:∀b o,h.get? b=some o->H b=none->b∉fs->b∉ex->h'.get? b=some o
 slot:∀b o,h.get? b=some o->H b=none->b∈fs->b∉ex->∃sl,h'.get? b=some {o with slots:=sl}
 free:∀b o,h.get? b=some o->H b=none->b∉ex->H' b=none
 there:∀b o,h.get? b=some o->b∉ex->∃o',h'.get? b=some o'
 fM:∀b xs,H b=some (.tup xs)->H' b=some (.tup xs)
 fm:∀b o u,H b=some (.bV o u)->H' b=some (.bV o u)
 f6:∀b ps,H b=some (.lT ps)->∃more,H' b=some (.lT (ps++more))
section
variable{h h1 h2 h':Heap}{a x e:Addr}
def Un.any(u:Un fs ex H H1 h h1)(q:h.get? b=some ob)(n:H b=none)(hx:b∉ex):∃sl,h1.get? b=some {ob with slots:=sl}:=by
 by_cases hb:b∈fs;.show u.slot b ob q n hb hx
 .show⟨ob.slots,u.keep b ob q n hb hx⟩
def Un.kept(k:∀b u,h.get? b=some u->h'.get? b=some u):Un fs ex H H h h' := ⟨λb ob q _ _ _=>k b ob q,λb ob q _ _ _=>⟨ob.slots,k b ob q⟩,λ_ _ _ n _=>n,λb ob q _=>⟨ob,k b ob q⟩,λ_ _ q=>q,λ_ _ _ q=>q,λ_ ps q=>⟨#[],by show q▸?_;simp⟩⟩
def Un.refl:Un fs ex H H h h:=Un.kept λ_ _ q=>q
def Un.laid(k:∀b u,h.get? b=some u->h'.get? b=some u)(hp:h.objs.size<=a)(hn:H a=none):Un fs ex H (ad H a o) h h' where
 keep:=λb u q _ _ _=>k b u q
 slot:=λb u q _ _ _=>⟨u.slots,k b u q⟩
 free:=λb u q n _=>by rw[i_ (a2V<|a2L (a2C q) hp)];show n
 there:=λb u q _=>⟨u,k b u q⟩
 fM:=λb xs q=>by rw[i_ (l_ q hn)];show q
 fm:=λb u xs q=>by rw[i_ (l_ q hn)];show q
 f6:=λb ps q=>⟨#[],by show (i_ (l_ q hn))▸q▸?_;simp⟩
def Un.write(mu:rP (H x))(he:e=x\/H e=some (.own x))(k:∀b u,b≠e->h.get? b=some u->h'.get? b=some u)(pT:∃u,h'.get? e=some u):Un fs ex H (ad H x o) h h':=by
 have hx:∀b,H b=none->b≠x:=λb n z=>by subst z;rw[n] at mu;show mu
 have hb:∀b,H b=none->b≠e:=λb n z=>by simp_all
 have hm:∀b u,H b=some u->¬ rP (some u)->b≠x:=λb u q nm z=>by simp_all
 show⟨λb u q n _ _=>k b u (hb b n) q,λb u q n _ _=>⟨u.slots,k b u (hb b n) q⟩,λb u q n _=>by rw[i_ (hx b n)];show n,λb u q _=>?_, λb xs q=>by rw[i_ (hm b _ q λz=>z)];show q,λb u xs q=>by rw[i_ (hm b _ q λz=>z)];show q,λb ps q=>⟨#[],by show (i_ (hm b _ q λz=>z))▸q▸?_;simp⟩⟩;by_cases kz:b=e;.subst kz;show pT
 .show⟨u,k b u kz q⟩
end
def vB(h:Heap)(H:Hp):List Addr:=(List.range h.objs.size).filter λa=>(H a).isSome
def kA(h:Heap)(H:Hp):Heap:=PySem.W.hideAll h (vB h H)
def P9(h:Heap)(H:Hp):(kA h H).objs.size=h.objs.size:=PySem.W.hideAll_size _ _
def Qa(e:h.get? b=some o)(n:H b=none):(kA h H).get? b=some o :=
 PySem.W.hideAll_get _ e λhm=>by
  have q:=(a5z.mp hm).2;rw[n] at q;simp at q
def Qb(e:(kA h H).get? b=some o):h.get? b=some o/\H b=none:=by
 have e':=PySem.W.of_hideAll _ e;show⟨e',?_⟩
 cases q:H b with
 | none=>rfl
 | some x =>
  have hm:b∈vB h H:=a5z.mpr ⟨a5d.mpr<|a2C e',by simp[q]⟩;have z:(kA h H).get? b=none:=PySem.W.hideAll_none _ hm;rw[z] at e;cases e
def Qc(g h:Heap)(L:Addr):List (Addr×Obj):=(List.range h.objs.size).filterMap λa=>if a=L\/(g.get? a).isSome=true then none else (h.get? a).map λo=>(a,o)
def aY(g h:Heap)(L d:Addr):List (Addr×Obj):=(Qc g h L).filter λp=>decide (p.1≠d)
structure Mod(K:PySem.W.Frag)(mg:Str->Option Value)(base:Heap):Prop where
 rQ:K.In base
 glob:base.Ns mainGlobals mg
 blt:∃mb,base.Ns builtinsNs mb/\∀x:Str,x≠"__name__"->mb x=bootBuiltins x
 nolimit:base.NoLimit
structure Cx where
 prog:Program
 w:World
 K:PySem.W.Frag
 mg:Str->Option Value
 base:Heap
 A:Around
 N:List Str
 cJ:Shared
 jL:Hp
 env:Env
 outer:List Env
 stack:List Env
 ex:List Addr
 fn:Str->Bool
 calm:Bool
 pn:List (Addr×Obj)
 xe:Value->Shared->Prop
def bv(l:List Env):List Addr:=l.filterMap (·.frame)
abbrev Cx.fs(X:Cx):List Addr:=bv X.outer
def pU(sc:Scope)(x:Str):Prop:=sc.names.lookup x=some .local\/sc.names.lookup x=some .cell\/sc.names.lookup x=some .free
def Loc(sc:Scope)(x:Str):Prop:=sc.names.lookup x=some .local\/sc.names.lookup x=some .cell
def Look(env:Env)(h:Heap)(m:Str->Option Value)(x:Str)(u:Value):Prop := (env.kindOf x=some .local/\m x=some u)\/((env.kindOf x=some .cell\/env.kindOf x=some .free)/\∃c,env.cells.lookup x=some c/\h.IsCell c (some u))
structure Cx.Ok(X:Cx):Prop where
 mod:Mod X.K X.mg X.base
 kind:X.env.scope.kind=.function
 glob:X.env.globals=mainGlobals
 blt:X.env.builtins=builtinsNs
 above:X.cJ.heap.objs.size<=X.env.locals
 inj:∀x y c,X.env.cells.lookup x=some c->X.env.cells.lookup y=some c->x=y
 has:∀x,(X.env.kindOf x=some .cell\/X.env.kindOf x=some .free)->∃c,X.env.cells.lookup x=some c
 nt:∀x c,X.fn x=true->X.env.cells.lookup x=some c->X.cJ.heap.objs.size<=c
 hd:X.calm=true->X.A.handled=none
 frames:X.A.frames=some X.stack
 pV:X.stack=X.outer\/(X.stack=X.env::X.outer/\X.env.frame=some X.env.locals)
 rR:∀b∈X.ex,b≠X.env.locals/\∀x c,X.env.cells.lookup x=some c->c≠b
 bs:∀b o,X.base.get? b=some o->X.cJ.heap.get? b=some o/\X.jL b=none
 iq:X.base.objs.size<=X.cJ.heap.objs.size
 nu:∀b o,X.base.get? b=some o->b∉X.ex
 nv:∀b∈X.ex,b∉X.fs
 gu:X.cJ.heap.FunFrames X.base X.outer
 kB:∀b∈X.fs,X.jL b=none
structure Inv(X:Cx)(aa:List (Addr×Obj))(σ:List (Option V))(H:Hp)(s:Shared):Prop where
 ok:X.Ok
 os:s.os=X.cJ.os
 bare:AllBare s.gens
 base:Un X.fs X.ex X.jL H X.cJ.heap s.heap
 loc:∃m,s.heap.Ns X.env.locals m/\∀(i:Nat) (x:Str) (v:V),X.N[i]?=some x->σ[i]?=some (some v)->pU X.env.scope x->∃u,RelV v u/\Look X.env s.heap m x u
 cell:∀x c,X.env.cells.lookup x=some c->∃v,s.heap.IsCell c v
 free:H X.env.locals=none
 fu:∀x c,X.env.cells.lookup x=some c->H c=none
 pin:∀p∈X.pn++aa,s.heap.get? p.1=some p.2/\H p.1=none/\p.1≠X.env.locals/\p.1∉X.fs/\∀v,p.2.data≠.cell v
 am:bC X.prog X.w H s.heap
 len:σ.length=X.N.length
section
variable{X:Cx}
def Cx.Ok.Qd(ok:X.Ok)(e:X.base.get? b=some o):b∉X.fs:=λhb=>by
 have:=(ok.gu.mem hb).1;rw[e] at this;cases this
theorem Inv.bs(I:Inv X aa σ H s):∀b o,X.base.get? b=some o->s.heap.get? b=some o/\H b=none:=λb o e => ⟨I.base.keep b o (I.ok.bs b o e).1 (I.ok.bs b o e).2 (I.ok.Qd e)<|I.ok.nu b o e,I.base.free b o (I.ok.bs b o e).1 (I.ok.bs b o e).2<|I.ok.nu b o e⟩
def Inv.bk(I:Inv X aa σ H s):∀b o,X.base.get? b=some o->s.heap.get? b=some o:=λb o e=>(I.bs b o e).1
theorem Inv.mod(I:Inv X aa σ H s):Mod X.K X.mg X.base:=I.ok.mod
def Inv.cb(I:Inv X aa σ H s):X.K.In s.heap:=I.ok.mod.rQ.keeps I.bk
def Inv.fr(I:Inv X aa σ H s):∃m,Fr X.base X.env.locals s.heap m :=
 let ⟨m,hn,_⟩:=I.loc
 ⟨m,hn,I.bk,a2U I.ok.iq I.ok.above⟩
theorem Inv.lt(I:Inv X aa σ H s):X.env.locals<s.heap.objs.size:=let ⟨_,hn,_⟩:=I.loc;hn.lt
def Inv.sz(I:Inv X aa σ H s):X.cJ.heap.objs.size<=s.heap.objs.size:=a2U I.ok.above (a4D I.lt)
def Inv.Qe(I:Inv X aa σ H s){a:Addr}(h:s.heap.objs.size<=a):a∉X.fs:=λhb=>by
 obtain⟨_,o,ho,_⟩:=I.ok.gu.mem hb;show absurd (a2L (a2C ho)<|a2U I.sz h)<|a3w _
def Inv.jb(I:Inv X aa σ H s):∀x c,X.env.cells.lookup x=some c->c≠X.env.locals:=λx c e z=>by
 obtain⟨v,o,ho,hd⟩:=I.cell x c e;obtain⟨m,⟨o',es,ep,jc,f7,_⟩,_⟩:=I.loc;rw[z,jc] at ho;cases ho;rw[f7] at hd;cases hd
theorem Inv.gu(I:Inv X aa σ H s):s.heap.FunFrames X.base X.outer:=by
 have all:∀ l ,(∀b∈bv l,b∈X.fs)->X.cJ.heap.FunFrames X.base l->s.heap.FunFrames X.base l:=by
  intro l
  induction l with
  | nil=>intro _ _;trivial
  | cons env r ih =>
   intro hs hl;obtain⟨hk,⟨L,o,hf,hn,ho,hd⟩,hr⟩:=hl;have hL:=hs L (by unfold bv;rw[a4S,hf];show a2Y);obtain⟨sl,e⟩:=I.base.slot L o ho (I.ok.kB L hL) hL λz=>I.ok.nv L z hL;show⟨hk,⟨L,_,hf,hn,e,hd⟩,ih (λb hb=>hs b<|by unfold bv;rw[a4S,hf];show a2G _ hb) hr⟩
 show all _ (λ_ hb=>hb) I.ok.gu
theorem Inv.stack(I:Inv X aa σ H s):s.heap.FunFrames X.base X.stack:=by
 rcases I.ok.pV with e | ⟨e,hf⟩;.rw[e];show I.gu
 .rw[e];obtain⟨m,hn,_⟩:=I.loc;show .cons (by rw[I.ok.kind];decide) hf hn (Heap.get?_none_of_le (a2U I.ok.iq I.ok.above)) I.gu
def Inv.Ap(I:Inv X aa σ H s):∀b∈bv X.stack,b∈X.env.locals::X.fs:=λb hb=>by
 rcases I.ok.pV with e | ⟨e,hf⟩;.rw[e] at hb;show a2G _ hb
 .rw[e] at hb;unfold bv at hb;rw[a4S,hf] at hb;show hb
def Inv.kF(I:Inv X aa σ H s):∀b∈bv X.stack,H b=none:=λb hb=>by
 rcases a2B.mp (I.Ap b hb) with e | hb;.rw[e];show I.free
 .obtain⟨_,o,ho,_⟩:=I.ok.gu.mem hb;show I.base.free b o ho (I.ok.kB b hb) λz=>I.ok.nv b z hb
def Inv.step{ch:List Addr}(I:Inv X aa σ H s) (jM:∀b∈ch,(b∈X.ex\/X.cJ.heap.objs.size<=b)/\b≠X.env.locals/\(∀x c,X.env.cells.lookup x=some c->c≠b)/\∀p∈X.pn++aa,p.1≠b) (keep:∀b o,b≠X.env.locals->b∉X.fs->b∉ch->s.heap.get? b=some o->H b=none->h'.get? b=some o) (slot:∀b o,b≠X.env.locals->b∈X.fs->b∉ch->s.heap.get? b=some o->H b=none->∃sl,h'.get? b=some {o with slots:=sl}) (free:∀b o,b∉ch->s.heap.get? b=some o->H b=none->H' b=none) (there:∀b o,b∉ch->s.heap.get? b=some o->∃o',h'.get? b=some o') (fM:∀b xs,H b=some (.tup xs)->H' b=some (.tup xs)) (fm:∀b o u,H b=some (.bV o u)->H' b=some (.bV o u)) (f6:∀b ps,H b=some (.lT ps)->∃more,H' b=some (.lT (ps++more))) (ns:∀m,s.heap.Ns X.env.locals m->h'.Ns X.env.locals m) (am:bC X.prog X.w H' h') (hg:AllBare g') : Inv X aa σ H' {s with heap:=h',gens:=g',drawn:=d',toks:=t'}:=by
 have Gf:∀b o,X.cJ.heap.get? b=some o->b≠X.env.locals:=λb o e=>a2V (a2L (a2C e) I.ok.above)
 have vC:∀b o,X.cJ.heap.get? b=some o->b∉X.ex->b∉ch:=λb o e hx hb=>by
  rcases(jM b hb).1 with z | z;.show hx z
  .show absurd (a2L (a2C e) z) (a3w _)
 have Gg:∀x c,X.env.cells.lookup x=some c->∀v,s.heap.IsCell c v->h'.IsCell c v:=λx c e v ⟨o,ho,hd⟩=>by
  have rS:=λz=>(jM c z).2.2.1 x c e Z;by_cases hc:c∈X.fs
  .obtain⟨sl,q⟩:=slot c o (I.jb x c e) hc rS ho (I.fu x c e);show⟨_,q,hd⟩
  .show⟨o,keep c o (I.jb x c e) hc rS ho (I.fu x c e),hd⟩
 show⟨I.ok,I.os,hg,⟨λb o e n hb hx=>?_,λb o e n hb hx=>?_,λb o e n hx=>?_,λb o e hx=>?_,λb xs e=>fM b xs (I.base.fM b xs e),λb o xs e=>fm b o xs (I.base.fm b o xs e),λb ps e=>?_⟩,?_,λx c e=>?_,?_,λx c e=>?_,λp hp=>?_,am,I.len⟩;.show keep b o (Gf b o e) hb (vC b o e hx) (I.base.keep b o e n hb hx) (I.base.free b o e n hx)
 .obtain⟨sl,e1⟩:=I.base.slot b o e n hb hx;obtain⟨Qf,e2⟩:=slot b _ (Gf b o e) hb (vC b o e hx) e1 (I.base.free b o e n hx);show⟨Qf,e2⟩
 .obtain⟨o',e1⟩:=I.base.there b o e hx;show free b o' (vC b o e hx) e1 (I.base.free b o e n hx)
 .obtain⟨o',e1⟩:=I.base.there b o e hx;show there b o' (vC b o e hx) e1
 .obtain⟨m1,e1⟩:=I.base.f6 b ps e;obtain⟨m2,e2⟩:=f6 b _ e1;show⟨m1++m2,by rw[e2,Array.append_assoc]⟩
 .obtain⟨m,hn,hl⟩:=I.loc;show⟨m,ns m hn,λi x v e1 e2 e3=>?_⟩;obtain⟨u,r,l⟩:=hl i x v e1 e2 e3;show⟨u,r,?_⟩;rcases l with l | ⟨k,c,e,z⟩;.show .inl l
  .show .inr ⟨k,c,e,Gg x c e _ z⟩
 .obtain⟨v,z⟩:=I.cell x c e;show⟨v,Gg x c e v z⟩
 .obtain⟨m,⟨o,_,_,ho,_⟩,_⟩:=I.loc;show free _ o (λz=>(jM _ z).2.1 Z) ho I.free
 .obtain⟨v,o,ho,hd⟩:=I.cell x c e;show free c o (λz=>(jM c z).2.2.1 x c e Z) ho (I.fu x c e)
 .obtain⟨e,n,ne,nf,d⟩:=I.pin p hp;have rS:=λz=>(jM p.1 z).2.2.2 p hp Z;show⟨keep p.1 p.2 ne nf rS e n,free p.1 p.2 rS e n,ne,nf,d⟩
def Inv.un(I:Inv X aa σ H s)(u:Un X.fs [] H H' s.heap h')(am:bC X.prog X.w H' h'):Inv X aa σ H' {s with heap:=h',toks:=t'}:=by
 obtain⟨m,⟨o,es,ep,ho,r⟩,_⟩:=id I.loc;obtain⟨sl,hL⟩:=u.any ho I.free (by simp)
 show I.step (ch:=[]) (λ_ z=>nomatch z) (λb o _ hb _ e n=>u.keep b o e n hb<|by simp) (λb o _ hb _ e n=>u.slot b o e n hb<|by simp) (λb o _ e n=>u.free b o e n<|by simp) (λb o _ e=>u.there b o e<|by simp) u.fM u.fm u.f6 (λm' hm=>by
  obtain⟨o',lU,Aq,jc,r'⟩:=hm;rw[ho] at jc;cases jc;show⟨_,lU,Aq,hL,r'⟩) am I.bare
def Inv.call(I:Inv X aa σ H s)(u:Un (bv X.stack) ch H H' s.heap h')(am:bC X.prog X.w H' h')(hg:AllBare g') (jM:∀b∈ch,(b∈X.ex\/X.cJ.heap.objs.size<=b)/\b≠X.env.locals/\(∀x c,X.env.cells.lookup x=some c->c≠b)/\∀p∈X.pn++aa,p.1≠b) : Inv X aa σ H' {s with heap:=h',gens:=g',drawn:=d',toks:=t'}:=by
 obtain⟨m,⟨o,es,ep,ho,r⟩,_⟩:=id I.loc;obtain⟨sl,hL⟩:=u.any ho I.free λz=>(jM _ z).2.1 Z
 show I.step jM (λb o hL hb hc e n=>u.keep b o e n (λz=>(a2B.mp<|I.Ap b z).elim hL hb) hc) (λb o _ _ hc e n=>u.any e n hc) (λb o hc e n=>u.free b o e n hc) (λb o hc e=>u.there b o e hc) u.fM u.fm u.f6 (λm' hm=>by
  obtain⟨o',lU,Aq,jc,r'⟩:=hm;rw[ho] at jc;cases jc;show⟨_,lU,Aq,hL,r'⟩) am hg
def Inv.turned(I:Inv X aa σ H s)(k:∀b o,b≠it->s.heap.get? b=some o->h'.get? b=some o)(hn:H it=none)(hL:it≠X.env.locals) (h1:it∈X.ex\/X.cJ.heap.objs.size<=it) (h2:∀x c,X.env.cells.lookup x=some c->c≠it) (h3:∀p∈X.pn++aa,p.1≠it):Inv X aa σ H {s with heap:=h',toks:=t'}:=by
 have Gh:∀b u,H b=some u->b≠it:=λb u e z=>by rw[z,hn] at e;cases e
 show I.step (ch:=[it]) (λb hb=>?_) (λb o _ _ hc e _=>k b o (λz=>hc<|by simp[z]) e) (λb o _ _ hc e _=>⟨o.slots,k b o (λz=>hc<|by simp[z]) e⟩) (λ_ _ _ _ n=>n) (λb o hc e=>⟨o,k b o (λz=>hc<|by simp[z]) e⟩) (λ_ _ e=>e) (λ_ _ _ e=>e) (λb ps e=>⟨#[],by show e▸?_;simp⟩) (λm hm=>?_) (λb u e=>?_) I.bare
 .have e:b=it:=by simpa using hb
  subst e;show⟨h1,hL,h2,h3⟩
 .obtain⟨o,es,ep,ho,r⟩:=hm;show⟨o,es,ep,k _ o (Ne.symm hL) ho,r⟩
 .show(I.am b u e).gt (λc v hc q=>k c v ?_ q) (λ_ q=>q) λ_ _ q=>q;rcases hc with z | z;.rw[z];show Gh b u e
  .show Gh c _ z
def Inv.tok(I:Inv X aa σ H s)(t:Nat):Inv X aa σ H {s with toks:=t}:=I.un Un.refl I.am
theorem Inv.kept(I:Inv X aa σ H s)(k:∀b u,s.heap.get? b=some u->h'.get? b=some u):Inv X aa σ H {s with heap:=h',toks:=t'}:=I.un (Un.kept k) (I.am.kept k)
theorem Inv.laid{a:Addr}(I:Inv X aa σ H s)(k:∀b u,s.heap.get? b=some u->h'.get? b=some u)(hp:s.heap.objs.size<=a)(new:cr X.prog X.w (ad H a o) h' a o) : Inv X aa σ (ad H a o) {s with heap:=h',toks:=t'}:=I.un (Un.laid k hp<|I.am.fresh hp) (I.am.laid k hp new)
theorem Inv.write(I:Inv X aa σ H s)(mu:rP (H x))(he:e=x\/H e=some (.own x))(k:∀b u,b≠e->s.heap.get? b=some u->h'.get? b=some u)(pT:∃u,h'.get? e=some u) (new:cr X.prog X.w (ad H x o) h' x o):Inv X aa σ (ad H x o) {s with heap:=h',toks:=t'}:=I.un (Un.write mu he k pT) (I.am.write mu he k pT new)
def Inv.weak(I:Inv X aa σ H s)(hl:aF.length=σ.length)(w:∀(i:Nat) v,aF[i]?=some (some v)->σ[i]?=some (some v)):Inv X aa aF H s :=
 ⟨I.ok,I.os,I.bare,I.base,let ⟨m,hn,cW⟩:=I.loc;⟨m,hn,λi x v e1 e2 e3=>cW i x v e1 (w i v e2) e3⟩,I.cell,I.free,I.fu,I.pin,I.am,hl.trans I.len⟩
def Inv.vD(I:Inv X aa σ H s)(h:∀p∈Gi,s.heap.get? p.1=some p.2/\H p.1=none/\p.1≠X.env.locals/\p.1∉X.fs/\∀v,p.2.data≠.cell v):Inv X Gi σ H s := ⟨I.ok,I.os,I.bare,I.base,I.loc,I.cell,I.free,I.fu,λp hp=>(a3j.mp hp).elim (λz=>I.pin p<|a3Q _ z)<|h p,I.am,I.len⟩
def Ar{N:List Str}(hN:N.Nodup){i j:Nat}(a:N[i]?=some x)(b:N[j]?=some x):i=j:=by
 obtain⟨h1,e1⟩:=a2z.mp a;obtain⟨h2,e2⟩:=a2z.mp b;show(List.getElem_inj hN).mp<|e1.trans e2.symm
def Gj(I:Inv X aa σ H s)(hN:X.N.Nodup)(hi:X.N[i]?=some x)(hx:Loc X.env.scope x)(r:RelV v u) (h:∀s',Inv X aa (σ.set i (some v)) H s'->(∃a,Heap.SameBut a s.heap s'.heap/\(a=X.env.locals\/X.env.cells.lookup x=some a))->Q () s') (hf:X.fn x=true\/X.env.scope.names.lookup x=some .local:=by first | show .inl Z | show .inr Z | assumption):wpAny M A (storeName X.env x u) Q E s:=by
 obtain⟨m,hn,hl⟩:=id I.loc;have rT:(X.env.scope.kind==.class || (X.env.scope.kind==.module&&X.env.locals != X.env.globals))=false:=by rw[I.ok.kind];rfl
 have vE:i<σ.length:=by rw[I.len];show(a2z.mp hi).1
 have jb:=I.jb
 have Gk:∀ {a:Addr} {h':Heap},(∃o,s.heap.get? a=some o/\H a=none)->Heap.SameBut a s.heap h'->bC X.prog X.w H h':=λ{a h'} ha hs b ob e=>by
  obtain⟨_,_,Gm⟩:=ha;show(I.am b ob e).gt (λc w' hc q=>(hs.2 c ?_).trans q) (λ_ q=>q) λ_ _ q=>q;rintro rfl;rcases hc with rfl | hc;.rw[Gm] at e;cases e
  .rw[Gm] at hc;cases hc
 rcases hx with hk | hk
 .show wpAny_storeName_local hk hn (λh' cC hs=>?_) rT;obtain⟨oL,_,_,Gn,_⟩:=id hn;show h _ ⟨I.ok,I.os,I.bare,⟨λb o e n hb hx=>?_,λb o e n hb hx=>?_,I.base.free,λb o e hx=>?_,I.base.fM,I.base.fm,I.base.f6⟩,⟨_,cC,λj y v' e1 e2 e3=>?_⟩,λy c e=>?_,I.free,I.fu,λp hp=>?_,Gk ⟨oL,Gn,I.free⟩ hs,by simpa using I.len⟩ ⟨_,hs,.inl Z⟩;.show(hs.2 b (a2V (a2L (a2C e) I.ok.above))).trans (I.base.keep b o e n hb hx)
  .obtain⟨sl,e1⟩:=I.base.slot b o e n hb hx;show⟨sl,(hs.2 b (a2V (a2L (a2C e) I.ok.above))).trans e1⟩
  .obtain⟨o',e1⟩:=I.base.there b o e hx;show⟨o',(hs.2 b (a2V (a2L (a2C e) I.ok.above))).trans e1⟩
  .by_cases hj:j=i
   .subst hj;rw[hi] at e1;cases e1;rw[a4j vE] at e2;cases e2;show⟨u,r,.inl ⟨hk,by simp⟩⟩
   .rw[a4d (Ne.symm hj)] at e2;obtain⟨u',r',q⟩:=hl j y v' e1 e2 e3;show⟨u',r',?_⟩;rcases q with⟨k,e⟩ | ⟨k,c,e,z⟩
    .show .inl ⟨k,?_⟩;have:y≠x:=λe=>hj (Ar hN e1 (e▸hi));simp[this,e]
    .show .inr ⟨k,c,e,z.sameBut hs (jb y c e)⟩
  .obtain⟨w',z⟩:=I.cell y c e;show⟨w',z.sameBut hs (jb y c e)⟩
  .obtain⟨e,n,ne,nf,d⟩:=I.pin p hp;show⟨(hs.2 p.1 ne).trans e,n,ne,nf,d⟩
 .have nA:X.fn x=true:=by
   rcases hf with z | z;.show z
   .rw[z] at hk;cases hk
  obtain⟨c,hc⟩:=I.ok.has x (.inl hk);obtain⟨w',z⟩:=I.cell x c hc;show wpAny_storeName_cell I.ok.kind hk hc z (λh' gw hs=>?_);obtain⟨oc,Go,Qg⟩:=id z;show h {s with heap:=h'} ⟨I.ok,I.os,I.bare,⟨λb o e n hb hx=>?_,λb o e n hb hx=>?_,I.base.free,λb o e hx=>?_,I.base.fM,I.base.fm,I.base.f6⟩,⟨m,hn.sameBut hs (Ne.symm (jb x c hc)),λj y v' e1 e2 e3=>?_⟩,λy c' e=>?_,I.free,I.fu,λp hp=>?_,Gk ⟨oc,Go,I.fu x c hc⟩ hs,by simpa using I.len⟩ ⟨c,hs,.inr hc⟩;.show(hs.2 b (a2V (a2L (a2C e) (I.ok.nt x c nA hc)))).trans (I.base.keep b o e n hb hx)
  .obtain⟨sl,e1⟩:=I.base.slot b o e n hb hx;show⟨sl,(hs.2 b (a2V (a2L (a2C e) (I.ok.nt x c nA hc)))).trans e1⟩
  .obtain⟨o',e1⟩:=I.base.there b o e hx;show⟨o',(hs.2 b (a2V (a2L (a2C e) (I.ok.nt x c nA hc)))).trans e1⟩
  .by_cases hj:j=i
   .subst hj;rw[hi] at e1;cases e1;rw[a4j vE] at e2;cases e2;show⟨u,r,.inr ⟨.inl hk,c,hc,gw⟩⟩
   .rw[a4d (Ne.symm hj)] at e2;obtain⟨u',r',q⟩:=hl j y v' e1 e2 e3;show⟨u',r',?_⟩;rcases q with q | ⟨k,c',e,z'⟩;.show .inl q
    .show .inr ⟨k,c',e,z'.sameBut hs ?_⟩;rintro rfl;show hj (Ar hN e1 (I.ok.inj _ _ _ e hc▸hi))
  .by_cases Gp:c'=c;.subst Gp;show⟨_,gw⟩
   .obtain⟨w2,z2⟩:=I.cell y c' e;show⟨w2,z2.sameBut hs Gp⟩
  .obtain⟨e,n,ne,nf,d⟩:=I.pin p hp;show⟨(hs.2 p.1 ?_).trans e,n,ne,nf,d⟩;intro q;rw[q,Go] at e;have q':=a2J e;show d w' (by show q'▸?_;show Qg)
def nC(I:Inv X aa σ H s)(hN:X.N.Nodup)(hi:X.N[i]?=some x)(hx:Loc X.env.scope x)(r:RelV v u) (h:∀s',Inv X aa (σ.set i (some v)) H s'->Q () s') (hf:X.fn x=true\/X.env.scope.names.lookup x=some .local:=by first | show .inl Z | show .inr Z | assumption):wpAny M A (storeName X.env x u) Q E s := Gj I hN hi hx r (λs' I' _=>h s' I') hf
def Inv.rV(I:Inv X aa σ H s)(ho:s'.os=s.os)(u:Un (bv X.stack) ch H H' s.heap s'.heap)(am:bC X.prog X.w H' s'.heap)(hg:AllBare s'.gens) (jM:∀b∈ch,(b∈X.ex\/X.cJ.heap.objs.size<=b)/\b≠X.env.locals/\(∀x c,X.env.cells.lookup x=some c->c≠b)/\∀p∈X.pn++aa,p.1≠b):Inv X aa σ H' s':=by
 obtain⟨h',g',d',t',o'⟩:=s';have e:=ho;subst e;show I.call u am hg jM
end
abbrev XK:=Value->Option Addr->Hp->Prop
abbrev St:=List (Option V)
abbrev VK:=V->Hp->Prop
abbrev TE:=St->Hp->VK->Prop
abbrev TT:=St->Hp->(Bool->Hp->Prop)->Prop
abbrev TA:=St->Hp->(List V->Hp->Prop)->Prop
structure Ends where
 nx:St->Hp->Prop
 rt:VK
 bk:St->Hp->Prop:=λ_ _=>False
 ct:St->Hp->Prop:=λ_ _=>False
abbrev TS:=Ends->St->Hp->Prop
def EP(X:Cx)(aa:List (Addr×Obj))(σ:St)(Q:VK)(u:Value)(s':Shared):Prop:=∃v H',Inv X aa σ H' s'/\RelV v u/\Q v H'
def TP(X:Cx)(aa:List (Addr×Obj))(σ:St)(Q:Bool->Hp->Prop)(b:Bool)(s':Shared):Prop:=∃H',Inv X aa σ H' s'/\Q b H'
def AP(X:Cx)(aa:List (Addr×Obj))(σ:St)(Q:List V->Hp->Prop)(us:List Value)(s':Shared):Prop:=∃vs H',Inv X aa σ H' s'/\az vs us/\Q vs H'
def SP(X:Cx)(aa:List (Addr×Obj))(D:Ends)(f:Flow)(s':Shared):Prop :=
 match f with
 | .next=>∃ aF H',Inv X aa aF H' s'/\D.nx aF H'
 | .brk=>∃ aF H',Inv X aa aF H' s'/\D.bk aF H'
 | .cont=>∃ aF H',Inv X aa aF H' s'/\D.ct aF H'
 | .ret u=>∃v aF H',Inv X aa aF H' s'/\RelV v u/\D.rt v H'
def PE(X:Cx)(e:Expr)(t:TE):Prop := ∀(aa:List (Addr×Obj)) (s:Shared) (σ:St) (H:Hp) (Q:VK),Inv X aa σ H s->t σ H Q->wpAny (model X.prog X.w) X.A (eval e X.env) (EP X aa σ Q) X.xe s
def PT(X:Cx)(e:Expr)(t:TT):Prop := ∀(aa:List (Addr×Obj)) (s:Shared) (σ:St) (H:Hp) (Q:Bool->Hp->Prop),Inv X aa σ H s->t σ H Q->wpAny (model X.prog X.w) X.A (isTrue e X.env (eval e X.env)) (TP X aa σ Q) X.xe s
def PW(X:Cx)(e:Expr)(t:TT):Prop := ∀(vF:Sem Value) (aa:List (Addr×Obj)) (s:Shared) (σ:St) (H:Hp) (Q:Bool->Hp->Prop),Inv X aa σ H s->t σ H Q->wpAny (model X.prog X.w) X.A (isTrue e X.env vF) (TP X aa σ Q) X.xe s
def PW.pt(h:PW X e t):PT X e t:=h _
def PA(X:Cx)(es:List Expr)(t:TA):Prop := ∀(pos:Pos) (aa:List (Addr×Obj)) (s:Shared) (σ:St) (H:Hp) (Q:List V->Hp->Prop),Inv X aa σ H s->t σ H Q->wpAny (model X.prog X.w) X.A (spliced (backTo pos (starEach es X.env))) (AP X aa σ Q) X.xe s
def PS(X:Cx)(st:Stmt)(t:TS):Prop := ∀(aa:List (Addr×Obj)) (s:Shared) (σ:St) (H:Hp) (D:Ends),Inv X aa σ H s->t D σ H->wpAny (model X.prog X.w) X.A (exec st X.env) (SP X aa D) X.xe s
def bQ(X:Cx)(st:List Stmt)(t:TS):Prop := ∀(aa:List (Addr×Obj)) (s:Shared) (σ:St) (H:Hp) (D:Ends),Inv X aa σ H s->t D σ H->wpAny (model X.prog X.w) X.A (execs st X.env) (SP X aa D) X.xe s
def ar{Q Q':α->Shared->Prop}(h:wpAny M A t Q E s)(hQ:∀a s,Q a s->Q' a s):wpAny M A t Q' E s:=wpAny_mono h hQ λ_ _ x=>x
section
variable{X:Cx}
def bin(ha:PE X a ta)(hb:PE X b tb){σ:St}{R:V->V->Hp->Prop}(I:Inv X aa σ H s)(h:ta σ H λx H1=>tb σ H1 λy H2=>R x y H2) {f:Value->Value->Sem α} (hf:∀v u s2 x y H2,Inv X aa σ H2 s2->RelV x v->RelV y u->R x y H2->wpAny (model X.prog X.w) X.A (f v u) Q X.xe s2) : wpAny (model X.prog X.w) X.A (eval a X.env) (λv bf=>wpAny (model X.prog X.w) X.A (eval b X.env) (λu ir=>wpAny (model X.prog X.w) X.A (f v u) Q X.xe ir) X.xe bf) X.xe s:=by
 show ar (ha aa s σ H _ I h) λv s1 ⟨x,H1,I1,r1,q1⟩=>(ar (hb aa s1 σ H1 _ I1 q1) λu s2 ⟨y,H2,I2,r2,q2⟩=>?_);show hf v u s2 x y H2 I2 r1 r2 q2
inductive jN(i:Nat)(σ:St)(H:Hp)(Q:VK):Prop
 | mk:∀v,(σ[i]?=some (some v))->(Q v H)->jN i σ H Q
def tC(v:V):TE:=λ_ H Q=>Q v H
def Qh{pos:Pos}(hN:X.N[i]?=some x)(hv:pU X.env.scope x)(hd:(x==("__debug__":Str))=false:=by decide)(gU:(x==("__classdict__":Str))=false:=by decide):PE X (.Name x pos) (jN i):=by
 intro aa s σ H Q I h;obtain⟨v,e,h⟩:=h;obtain⟨m,hn,hl⟩:=I.loc;obtain⟨u,r,l⟩:=hl i x v hN e hv;have fin:EP X aa σ Q u s:=⟨v,H,I,r,h⟩;rcases l with⟨hk,hm⟩ | ⟨hk,c,hc,hcell⟩;.show wpAny_Name (wpAny_loadName_local I.ok.kind hk hn hm fin) hd
 .rcases hk with hk | hk;.show wpAny_Name (wpAny_loadName_cell I.ok.kind hk hc hcell fin) hd
  .show wpAny_Name (wpAny_loadName_free I.ok.kind hk hc hcell fin gU) hd
def h_:PE X (.Constant (.int i) j pos) (tC (.int i)):=λ_ _ _ H _ I h=>wpAny_Constant_int ⟨.int i,H,I.tok _,⟨_,Z⟩,h⟩
def ff:PE X (.Constant (.bool b) j pos) (tC (.bl b)):=λ_ _ _ H _ I h=>Constant_bool ⟨.bl b,H,I,Z,h⟩
def iu:PE X (.Constant .none j pos) (tC .au):=λ_ _ _ H _ I h=>Constant_none ⟨.au,H,I,Z,h⟩
def n_:PE X (.Constant (.str x) j pos) (tC (.str x)):=λ_ _ _ H _ I h=>Calls.Constant_str ⟨.str x,H,I.tok _,⟨_,Z⟩,h⟩
def Gl(X:Cx)(x:Str):Prop:=X.env.kindOf x=some .globalImplicit
def pW{σ:St}(I:Inv X aa σ H s)(hg:Gl X x)(hm:X.mg x=some u)(h:Q u s) (hd:(x==("__debug__":Str))=false:=by decide):wpAny (model X.prog X.w) X.A (eval (.Name x pos) X.env) Q E s := Calls.Name_function_global I.ok.kind hg (Calls.loadGlobal_global (by rw[I.ok.glob];show I.mod.glob.keeps I.bk) hm h) hd
def jd{E:Value->Shared->Prop}{σ:St}{pos:Pos}(I:Inv X aa σ H s)(hg:Gl X x)(hm:X.mg x=none)(hv:bootBuiltins x=some u)(h:Q u s) (hn:x≠"__name__":=by decide) (hd:(x==("__debug__":Str))=false:=by decide):wpAny (model X.prog X.w) X.A (eval (.Name x pos) X.env) Q E s:=by
 obtain⟨mb,h1,h2⟩:=I.mod.blt;show Calls.Name_function_global I.ok.kind hg (Calls.loadGlobal_builtin (by rw[I.ok.glob];show I.mod.glob.keeps I.bk) hm (by rw[I.ok.blt];show h1.keeps I.bk) ((h2 x hn).trans hv) h) hd
def U_(hg:Gl X x)(hm:X.mg x=some u)(r:RelV v u)(hd:(x==("__debug__":Str))=false:=by decide):PE X (.Name x pos) (tC v) := λ_ _ _ H _ I h=>pW I hg hm ⟨v,H,I,r,h⟩ hd
def Qi{pos:Pos}(hg:Gl X x)(hm:X.mg x=none)(hv:bootBuiltins x=some u)(r:RelV v u)(hn:x≠"__name__":=by decide)(hd:(x==("__debug__":Str))=false:=by decide):PE X (.Name x pos) (tC v) := λ_ _ _ H _ I h=>jd I hg hm hv ⟨v,H,I,r,h⟩ hn hd
inductive Gq(k:Int->Int->Hp->Prop)(x:V)(y:V)(H2:Hp):Prop
 | mk:∀i j,(x=.int i)->(y=.int j)->(k i j H2)->Gq k x y H2
def Qj(ta tb:TE)(k:Int->Int->Hp->Prop):St->Hp->Prop:=fun σ H=>ta σ H λx H1=>tb σ H1 (Gq k x)
def PC(X:Cx)(op:CmpOp)(a b:Expr)(t:TE):Prop := ∀(aa:List (Addr×Obj)) (s:Shared) (σ:St) (H:Hp) (Q:VK),Inv X aa σ H s->t σ H Q-> wpAny (model X.prog X.w) X.A (eval a X.env) (λv bf=>wpAny (model X.prog X.w) X.A (eval b X.env) (λu ir=>wpAny (model X.prog X.w) X.A (compareOp op v u) (EP X aa σ Q) X.xe ir) X.xe bf) X.xe s
def pX(p:Int->Int->Bool)(ta tb:TE):TE:=fun σ H Q=>Qj ta tb (λi j H2=>Q (.bl (p i j)) H2) σ H
abbrev tLt:TE->TE->TE:=pX λi j=>decide (i<j)
abbrev tLe:TE->TE->TE:=pX λi j=>decide (i<=j)
abbrev tGt:TE->TE->TE:=pX λi j=>decide (j<i)
abbrev tGe:TE->TE->TE:=pX λi j=>decide (j<=i)
abbrev a2b:TE->TE->TE:=pX λi j=>decide (i=j)
abbrev a2c:TE->TE->TE:=pX λi j=>!decide (i=j)
inductive Gr(Q:Bool->Hp->Prop)(x:V)(H1:Hp):Prop
 | mk:∀c,(x=.bl c)->(Q c H1)->Gr Q x H1
def tB(t:TE):TT:=fun σ H Q=>t σ H (Gr Q)
def Gs(h:PC X op a b t)(h1:behindInMarks op b=false:=by first | show nobehind _ (by decide) (by decide) | rfl):PT X (.Compare a [op] [b] pos) (tB t):=by
 show λaa s σ H Q I hw=>wpAny_isTrue_Compare1 (ar (h aa s σ H _ I hw) λv s1 h1=>ar h1 λu s2 h2=>ar h2 λc s3 ⟨x,H1,I1,r1,q1⟩=>?_) h1;obtain⟨d,rfl,q⟩:=q1;cases r1;show wpAny_truthy_bool ⟨H1,I1,q⟩
def L_(h:PE X e t)(he:∀vF,isTrue e X.env vF=(do let v <-vF;standAt e.pos;holding [v] (truthy v)):=by intro _;rfl):PT X e (tB t):=by
 show λaa s σ H Q I hw=>isTrue_plain (ar (h aa s σ H _ I hw) λv s1 ⟨x,H1,I1,r1,q1⟩=>?_)<|he _;obtain⟨d,rfl,q⟩:=q1;cases r1;show wpAny_truthy_bool ⟨H1,I1,q⟩
variable{aY:List Expr}
def Qk(t u:TT):TT:=fun σ H Q=>t σ H λc H1=>if c=true then u σ H1 Q else Q false H1
def Ql(t u:TT):TT:=fun σ H Q=>t σ H λc H1=>if c=true then Q true H1 else u σ H1 Q
def Qm(t:TT):TT:=fun σ H Q=>t σ H λc H1=>Q (!c) H1
def As(ha:PT X a tA):PW X (.BoolOp .And [a] pos) tA:=by
 show λwh aa s σ H Q I h=>isTrue_and<|ar (ha aa s σ H Q I h) λc s1 e=>?_
 cases c with
 | true=>show isTrue_and_nil e
 | false=>show e
def jO(ha:PT X a tA):PW X (.BoolOp .Or [a] pos) tA:=by
 show λwh aa s σ H Q I h=>isTrue_or<|ar (ha aa s σ H Q I h) λc s1 e=>?_
 cases c with
 | false=>show isTrue_or_nil e
 | true=>show e
def vH(ha:PT X a tA)(hb:PW X (.BoolOp .And (b::aY) pos) vG):PW X (.BoolOp .And (a::b::aY) pos) (Qk tA vG):=by
 show λwh aa s σ H Q I h=>isTrue_and<|ar (ha aa s σ H _ I h) λc s1 ⟨H1,I1,q1⟩=>?_
 cases c with
 | true=>show hb wh aa s1 σ H1 Q I1 q1
 | false=>show⟨H1,I1,q1⟩
def je(ha:PT X a tA)(hb:PW X (.BoolOp .Or (b::aY) pos) vG):PW X (.BoolOp .Or (a::b::aY) pos) (Ql tA vG):=by
 show λwh aa s σ H Q I h=>isTrue_or<|ar (ha aa s σ H _ I h) λc s1 ⟨H1,I1,q1⟩=>?_
 cases c with
 | true=>show⟨H1,I1,q1⟩
 | false=>show hb wh aa s1 σ H1 Q I1 q1
def N_(ha:PT X a tA):PT X (.UnaryOp .Not a pos) (Qm tA):=by show λaa s σ H Q I h=>isTrue_not<|ha aa s σ H _ I h
inductive Gu(tb:TE)(σ:St)(Q:VK)(x:V)(H1:Hp):Prop
 | mk:∀c,(x=.bl c)->(if c=true then tb σ H1 Q else Q (.bl false) H1)->Gu tb σ Q x H1
def Qn(ta tb:TE):TE:=fun σ H Q=>ta σ H (Gu tb σ Q)
inductive Gv(Q:VK)(x:V)(H1:Hp):Prop
 | mk:∀c,(x=.bl c)->(Q (.bl (!c)) H1)->Gv Q x H1
def Qo(ta:TE):TE:=fun σ H Q=>ta σ H (Gv Q)
def pY(h:PE X a t):PE X (.BoolOp op [a] pos) t:=λaa s σ H Q I hw=>BoolOp_one<|h aa s σ H Q I hw
def pZ(ha:PE X a ta)(hb:PE X (.BoolOp .And (b::aY) pos) tb):PE X (.BoolOp .And (a::b::aY) pos) (Qn ta tb):=by
 show λaa s σ H Q I h=>BoolOp_and<|ar (ha aa s σ H _ I h) λv s1 ⟨x,H1,I1,r1,q1⟩=>?_;obtain⟨c,rfl,q1⟩:=q1;cases r1;show wpAny_truthy_bool ?_
 cases c with
 | true=>show hb aa s1 σ H1 Q I1 q1
 | false=>show⟨.bl _,H1,I1,Z,q1⟩
def Qp(ha:PE X a ta):PE X (.UnaryOp .Not a pos) (Qo ta):=by
 show λaa s σ H Q I h=>UnaryOp_<|ar (ha aa s σ H _ I h) λv s1 ⟨x,H1,I1,r1,q1⟩=>?_;obtain⟨c,rfl,q1⟩:=q1;cases r1;show not_of<|wpAny_truthy_bool ⟨.bl _,H1,I1,Z,q1⟩
def Qq(t:TT)(ta tb:TE):TE:=fun σ H Q=>t σ H λc H1=>if c=true then ta σ H1 Q else tb σ H1 Q
def vI(hc:PT X c tA)(ha:PE X a ta)(hb:PE X b tb):PE X (.IfExp c a b pos) (Qq tA ta tb):=by
 show λaa s σ H Q I h=>wpAny_IfExp<|ar (hc aa s σ H _ I h) λd s1 ⟨H1,I1,q1⟩=>?_
 cases d with
 | true=>show ha aa s1 σ H1 Q I1 q1
 | false=>show hb aa s1 σ H1 Q I1 q1
end
def ag(K:PySem.W.Frag)(H:Hp)(a:Addr)(xs:List V):Prop := Rd H a (.lst xs)\/ ∃(o:Obj) (af:Array Value) (n:Nat),K.lookup a=some o/\o.cls=.type "list"/\o.dict=none/\o.data=.seq af n/\af.size<=sizeLine/\az xs af.toList
def aP(K:PySem.W.Frag)(H:Hp)(a:Addr)(xs:List V):Prop := Rd H a (.tup xs)\/ ∃(o:Obj) (af:Array Value) (n:Nat),K.lookup a=some o/\o.cls=.type "tuple"/\o.data=.seq af n/\af.size<=sizeLine/\az xs af.toList
def Qr:Value->Option V
 | .none=>some .au
 | .bool b=>some (.bl b)
 | .int i _=>some (.int i)
 | .str x _=>some (.str x)
 | .bytes b _=>some (.io b)
 | .float b _=>some (.nq b)
 | .ref a=>some (.ref a)
 | .type n=>some (.ty n)
 | _=>none
def RelV.abs(r:RelV x u):Qr u=some x:=by
 cases x with
 | au=>cases r;rfl
 | bl _=>cases r;rfl
 | int _=>obtain⟨t,rfl⟩:=r;rfl
 | str _=>obtain⟨t,rfl⟩:=r;rfl
 | io _=>obtain⟨t,rfl⟩:=r;rfl
 | nq _=>obtain⟨t,rfl⟩:=r;rfl
 | ref _=>cases r;rfl
 | ty _=>cases r;rfl
def RelV.inj(r:RelV x u)(q:RelV y u):x=y:=a2J (r.abs.symm.trans q.abs)
theorem az.inj(a:az xs us)(b:az ys us):xs=ys:=by
 induction a generalizing ys with
 | nil=>cases b;rfl
 | cons r t ih =>
  cases b with
  | cons r' t'=>rw[r.inj r',ih t']
section
variable{σ:St}
def ag.of{K:PySem.W.Frag}(h:H a=some (.lst xs)):ag K H a xs:=.inl (.inl h)
def aP.of{K:PySem.W.Frag}(h:H a=some (.tup xs)):aP K H a xs:=.inl (.inl h)
def Inv.list(I:Inv X aa σ H s)(h:ag X.K H a xs):∃af:List Value,az xs af/\PlainL s.heap a af.toArray/\xs.length<=sizeLine:=by
 rcases h with h | ⟨o,af,n,hk,hc,hd,hs,hz,r⟩
 .obtain⟨z,af,n,r,e⟩:=h.ok I.am;show⟨af,r,⟨_,n,e,Z,Z,Z⟩,z⟩
 .show⟨af.toList,r,⟨o,n,I.cb a o hk,hc,hd,by simpa using hs⟩,?_⟩;have e:=r.length;simp only[a3X] at e;omega
def Inv.tuple(I:Inv X aa σ H s)(h:aP X.K H a xs):∃af:List Value,az xs af/\IsTup s.heap a af.toArray/\xs.length<=sizeLine:=by
 rcases h with h | ⟨o,af,n,hk,hc,hs,hz,r⟩
 .obtain⟨z,af,r,p⟩:=h.ok I.am;show⟨af,r,p,z⟩
 .show⟨af.toList,r,⟨o,I.cb a o hk,hc,n,by simpa using hs⟩,?_⟩;have e:=r.length;simp only[a3X] at e;omega
def Inv.nD(I:Inv X aa σ H s)(h:ag X.K H a xs)(h':ag X.K H a ys):xs=ys:=by
 obtain⟨af,r,⟨o,n,e,_,_,d⟩,_⟩:=I.list h;obtain⟨its',r',⟨o',n',e',_,_,d'⟩,_⟩:=I.list h';rw[e] at e';cases e';rw[d] at d';have:af=its':=by simp_all
 subst this;show r.inj r'
def Inv.Qt(I:Inv X aa σ H s)(h:aP X.K H a xs)(h':aP X.K H a ys):xs=ys:=by
 obtain⟨af,r,⟨o,e,_,n,d⟩,_⟩:=I.tuple h;obtain⟨its',r',⟨o',e',_,n',d'⟩,_⟩:=I.tuple h';rw[e] at e';cases e';rw[d] at d';have:af=its':=by simp_all
 subst this;show r.inj r'
end
abbrev Cx.gx(X:Cx)(E:Value->Shared->Prop):Cx:={X with xe:=E}
abbrev Cx.iy(X:Cx):Cx:=X.gx λ_ _=>False
theorem Cx.Ok.gx{X:Cx}(ok:X.Ok)(E:Value->Shared->Prop):(X.gx E).Ok := ⟨ok.mod,ok.kind,ok.glob,ok.blt,ok.above,ok.inj,ok.has,ok.nt,ok.hd,ok.frames,ok.pV,ok.rR,ok.bs,ok.iq,ok.nu,ok.nv,ok.gu,ok.kB⟩
def Cx.Ok.iz{X:Cx}(ok:(X.gx E).Ok):X.Ok := ⟨ok.mod,ok.kind,ok.glob,ok.blt,ok.above,ok.inj,ok.has,ok.nt,ok.hd,ok.frames,ok.pV,ok.rR,ok.bs,ok.iq,ok.nu,ok.nv,ok.gu,ok.kB⟩
section
variable{σ:St}
theorem Inv.gx(I:Inv X aa σ H s)(E:Value->Shared->Prop):Inv (X.gx E) aa σ H s:=⟨I.ok.gx E,I.os,I.bare,I.base,I.loc,I.cell,I.free,I.fu,I.pin,I.am,I.len⟩
theorem Inv.iz(I:Inv (X.gx E) aa σ H s):Inv X aa σ H s:=⟨I.ok.iz,I.os,I.bare,I.base,I.loc,I.cell,I.free,I.fu,I.pin,I.am,I.len⟩
theorem SP.iz(h:SP (X.gx E) aa D f s'):SP X aa D f s':=by
 cases f with
 | next=>obtain⟨aF,H',I,q⟩:=h;show⟨aF,H',I.iz,q⟩
 | brk=>obtain⟨aF,H',I,q⟩:=h;show⟨aF,H',I.iz,q⟩
 | cont=>obtain⟨aF,H',I,q⟩:=h;show⟨aF,H',I.iz,q⟩
 | ret u=>obtain⟨v,aF,H',I,r,q⟩:=h;show⟨v,aF,H',I.iz,r,q⟩
theorem bQ.iy{st:List Stmt}(h:bQ X.iy st t):bQ X st t:=λaa s σ H D I hw => wpAny_mono (h aa s σ H D (I.gx _) hw) (λ_ _ q=>q.iz) λ_ _ z=>False.elim z
end
section
variable{st:Stmt}{aY:List Stmt}
def Qu:TS:=λD σ H=>D.nx σ H
def kG(t u:TS):TS:=λD σ H=>t {D with nx:=u D} σ H
def q_:bQ X [] Qu:=λ_ _ σ H _ I h=>wpAny_execs_nil ⟨σ,H,I,h⟩
def b_(h1:PS X st t)(h2:bQ X aY u):bQ X (st::aY) (kG t u):=by
 show λaa s σ H D I h=>wpAny_execs_cons<|ar (h1 aa s σ H {D with nx:=u D} I h) λf s1 q=>?_
 cases f with
 | next =>
  obtain⟨aF,H',I',q⟩:=q;show h2 aa s1 aF H' D I' q
 | ret v=>show q
 | brk=>show q
 | cont=>show q
def g_(h1:PS X st t):bQ X [st] t:=by
 show λaa s σ H D I h=>wpAny_execs_cons<|ar (h1 aa s σ H D I h) λf s1 q=>?_
 cases f with
 | next=>show wpAny_execs_nil q
 | ret v=>show q
 | brk=>show q
 | cont=>show q
def Inv.quiet{σ:St}(I:Inv X aa σ H s):interactive X.env=false:=by simp[interactive,I.ok.kind]
def vJ(te:TE):TS:=λD σ H=>te σ H λ_ H1=>D.nx σ H1
def t_(he:PE X e te)(hs:swapsWith e none pos.line X.env=pure false:=by rfl):PS X (.Expr e pos) (vJ te):=by show λaa s σ H D I h=>wpAny_Expr_any (ar (he aa s σ H _ I h) λv s1 ⟨x,H1,I1,r1,q1⟩=>⟨σ,H1,I1,q1⟩) I.quiet hs
def Qv(te:TE):TS:=λD σ H=>te σ H D.rt
def k_(he:PE X e te):PS X (.Return (some e) pos) (Qv te):=by show λaa s σ H D I h=>wpAny_Return_some<|ar (he aa s σ H _ I h) λv s1 ⟨x,H1,I1,r1,q1⟩=>⟨x,σ,H1,I1,r1,q1⟩
def Qw(c:TT)(t u:TS):TS:=λD σ H=>c σ H λb H1=>if b=true then t D σ H1 else u D σ H1
def C_(hc:PT X c tc)(ha:bQ X a t)(hb:bQ X b u):PS X (.If c a b pos) (Qw tc t u):=by
 show λaa s σ H D I h=>wpAny_If<|ar (hc aa s σ H _ I h) λd s1 ⟨H1,I1,q1⟩=>?_
 cases d with
 | true=>show ha aa s1 σ H1 D I1 q1
 | false=>show hb aa s1 σ H1 D I1 q1
def Qx:TS:=λ_ _ _=>False
def A_:bQ X nE Qx:=λ_ _ _ _ _ _ h=>h.elim
end
abbrev TG:=V->St->Hp->(St->Hp->Prop)->Prop
abbrev jP:=List V->St->Hp->(St->Hp->Prop)->Prop
def PG(X:Cx)(Qy:Expr)(t:TG):Prop := ∀(aa:List (Addr×Obj)) (s:Shared) (σ:St) (H:Hp) (v:V) (u:Value) (Q:St->Hp->Prop),Inv X aa σ H s->RelV v u->t v σ H Q-> wpAny (model X.prog X.w) X.A (assign Qy X.env u) (λ_ s'=>∃ aF H',Inv X aa aF H' s'/\Q aF H') X.xe s
def rW(X:Cx)(ts:List Expr)(t:jP):Prop := ∀(aa:List (Addr×Obj)) (s:Shared) (σ:St) (H:Hp) (vs:List V) (us:List Value) (Q:St->Hp->Prop),Inv X aa σ H s->az vs us->t vs σ H Q-> wpAny (model X.prog X.w) X.A (assignInOrder ((assignEach ts X.env).map (·.2)) us) (λ_ s'=>∃ aF H',Inv X aa aF H' s'/\Q aF H') X.xe s
abbrev At:=V->V->V->Hp->(Hp->Prop)->Prop
def Gw(X:Cx)(t:At):Prop := ∀(aa:List (Addr×Obj)) (s:Shared) (σ:St) (H:Hp) (o i v:V) (ov iv u:Value) (Q:Hp->Prop),Inv X aa σ H s->RelV o ov->RelV i iv->RelV v u->t o i v H Q-> wpAny (model X.prog X.w) X.A (setItem ov iv u) (λ_ s'=>∃H',Inv X aa σ H' s'/\Q H') X.xe s
abbrev Au:=V->V->Hp->VK->Prop
def Gx(X:Cx)(op:Operator)(t:Au):Prop := ∀(aa:List (Addr×Obj)) (s:Shared) (σ:St) (H:Hp) (x y:V) (v u:Value) (Q:VK),Inv X aa σ H s->RelV x v->RelV y u->t x y H Q-> wpAny (model X.prog X.w) X.A (inplaceOp op v u) (EP X aa σ Q) X.xe s
section
variable{pos:Pos}
def jf(i:Nat):TG:=λv σ H Q=>Q (σ.set i (some v)) H
def u_(i:Nat)(hf:X.fn x=true\/X.env.scope.names.lookup x=some .local:=by first | show .inl Z | show .inr Z | assumption)(hN:X.N.Nodup:=by show nd)(hi:X.N[i]?=some x:=by rfl)(hx:Loc X.env.scope x:=by first|show Or.inl Z|show Or.inr Z):PG X (.Name x pos) (jf i):=by show λaa s σ H v u Q I r h=>wpAny_assign_Name<|nC I hN hi hx r (λs' I'=>⟨_,H,I',h⟩) hf
def vK:jP:=λvs σ H Q=>vs=[]/\Q σ H
inductive nG(t:TG)(u:jP)(vs:List V)(σ:St)(H:Hp)(Q:St->Hp->Prop):Prop
 | mk:∀v r,(vs=v::r)->(t v σ H λaF H'=>u r aF H' Q)->nG t u vs σ H Q
def p7:rW X [] vK:=by
 intro aa s σ H vs us Q I r h;obtain⟨e,h⟩:=h;subst e;cases r;show assignInOrder_nil ⟨σ,H,I,h⟩
def W_(h1:PG X e t)(h2:rW X es u) (hs:(assignEach (e::es) X.env).map (·.2)=assign e X.env::(assignEach es X.env).map (·.2):=by rfl):rW X (e::es) (nG t u):=by
 intro aa s σ H vs us Q I r h;obtain⟨v,vr,e1,h⟩:=h;subst e1
 cases r with
 | cons r rr =>
  rw[hs];show assignInOrder_cons<|ar (h1 aa s σ H _ _ _ I r h) λ_ s1 ⟨iA,H1,I1,q1⟩=>(h2 aa s1 iA H1 _ _ Q I1 rr q1)
inductive p8(K:PySem.W.Frag)(n:Nat)(t:jP)(v:V)(σ:St)(H:Hp)(Q:St->Hp->Prop):Prop
 | mk:∀a xs,(v=.ref a)->(aP K H a xs)->(xs.length=n)->(t xs σ H Q)->p8 K n t v σ H Q
def Gy{k:Nat}(hc:X.calm=true)(h:rW X es t) (hn:(assignEach es X.env).length=n:=by rfl) (eT:(assignEach es X.env).findIdx? (·.1)=none:=by rfl):PG X (.Tuple es k pos) (p8 X.K n t):=by
 intro aa s σ H v u Q I r hw;obtain⟨a,xs,e1,hq,hl,hw⟩:=hw;subst e1;cases r;obtain⟨af,rv,ht,hz⟩:=I.tuple hq;show assign_Tuple_tuple (I.ok.hd hc) ht (by simp[hn,<-hl,rv.length]) eT λh' hx=>?_;have I1:Inv X aa σ H {s with heap:=h'}:=I.kept λb o e=>hx b o (a2V<|a2C e) e;show h aa _ σ H xs _ Q I1 (by simpa using rv) hw
def Qz(to ti:TE)(t:At):TG:=λv σ H Q=>to σ H λo H1=>ti σ H1 λi H2=>t o i v H2 λH3=>Q σ H3
def nH(ho:PE X o to)(hi:PE X i ti)(hs:Gw X t)
  (ha:∀v,assign (.Subscript o i pos) X.env v=(do
   let ov <-holding [v] (eval o X.env)
   let iv <-holding [v,ov] (eval i X.env)
   standAt pos
   holding [v,ov,iv] (setItem ov iv v)
   release [v,ov,iv] []):=by intro _;rfl):PG X (.Subscript o i pos) (Qz to ti t):=by
 intro aa s σ H v u Q I r h;rw[ha];show wpAny_bind<|wpAny_holding<|ar (ho aa s σ H _ I h) λov s1 ⟨x,H1,I1,r1,q1⟩=>(wpAny_bind (wpAny_holding (ar (hi aa s1 σ H1 _ I1 q1) λiv s2 ⟨y,H2,I2,r2,q2⟩=>?_)));show wpAny_bind<|wpAny_standAt<|wpAny_bind<|wpAny_holding<|ar (hs aa s2 σ H2 x y v ov iv u _ I2 r1 r2 r q2) λ_ s3 ⟨H3,I3,q3⟩=>(wpAny_release ⟨σ,H3,I3,q3⟩)
def vL(te:TE)(g:TG):TS:=λD σ H=>te σ H λx H1=>g x σ H1 D.nx
def nI(he:PE X e te)(hg:PG X tg g)(hs:swapsWithSole [tg] e pos.line X.env=pure false:=by rfl)(hw:swappedStores [tg] e X.env=pure none:=by rfl) (h1:(assignEach [tg] X.env).map (·.2)=[assign tg X.env]:=by rfl):PS X (.Assign [tg] e pos) (vL te g):=by
 show λaa s σ H D I h=>wpAny_Assign_stores (ar (he aa s σ H _ I h) λv s1 ⟨x,H1,I1,r1,q1⟩=>?_) hs hw;rw[h1];show ar (hg aa s1 σ H1 x v _ I1 r1 q1) λ_ s2 q=>q
def j_(i:Nat)(he:PE X e te)(hs:swapsWith e (some (.Name x iB)) pos.line X.env=pure false:=by rfl)(hf:X.fn x=true\/X.env.scope.names.lookup x=some .local:=by first | show .inl Z | show .inr Z | assumption)(hN:X.N.Nodup:=by show nd)(hi:X.N[i]?=some x:=by rfl)(hx:Loc X.env.scope x:=by first|show Or.inl Z|show Or.inr Z): PS X (.Assign [.Name x iB] e pos) (vL te (jf i)):=by
 show λaa s σ H D I h=>wpAny_Assign_Name (ar (he aa s σ H _ I h) λv s1 ⟨y,H1,I1,r1,q1⟩=>?_) hs;show nC I1 hN hi hx r1 (λs2 I2=>⟨_,H1,I2,q1⟩) hf
inductive Gz(i:Nat)(j:Nat)(D:Ends)(σ:St)(vs:List V)(H1:Hp):Prop
 | mk:∀v w,(vs=[v,w])->(D.nx ((σ.set i (some v)).set j (some w)) H1)->Gz i j D σ vs H1
def QA(i j:Nat)(ta:TA):TS:=λD σ H=>ta σ H (Gz i j D σ)
def QB(hc:X.calm=true)(hN:X.N.Nodup)(hi:X.N[i]?=some x)(hj:X.N[j]?=some y)(QC:i≠j) (hx:X.env.scope.names.lookup x=some .local) (hy:X.env.scope.names.lookup y=some .local) (ha:PA X [a,b] ta) (hw:swappedStores [.Tuple [.Name x px,.Name y py] kt pt] (.Tuple [a,b] k2 pt2) X.env=pure (some [x,y])) (hs:swapsWithSole [.Tuple [.Name x px,.Name y py] kt pt] (.Tuple [a,b] k2 pt2) pos.line X.env=pure false:=by rfl) : PS X (.Assign [.Tuple [.Name x px,.Name y py] kt pt] (.Tuple [a,b] k2 pt2) pos) (QA i j ta):=by
 intro aa s σ H D I h;show wpAny_bind (wpAny_standAt ?_);show wpAny_bind (wpAny_pure ?_);show wpAny_bind (Tuple_ (ar (ha _ aa s σ H _ I h) λus s1 ⟨vs,H1,I1,r1,q1⟩=>?_));obtain⟨v,w,e1,q1⟩:=q1;subst e1
 obtain⟨u1,u2,rfl,rv,cR⟩:∃u1 u2,us=[u1,u2]/\RelV v u1/\RelV w u2:=by
  cases r1 with
  | cons p q =>
   cases q with
   | cons p' q' =>
    cases q';show⟨_,_,Z,p,p'⟩
 show wpAny_newObj_type ?_ (by change 2<=sizeLine;decide);have I2:Inv X aa σ H1 {s1 with heap:=s1.heap.push {cls:=.type "tuple",data:=.seq [u1,u2].toArray}}:=I1.kept λb o e=>a2y _ e;rw[hw];show wpAny_bind (wpAny_pure ?_);show wpAny_bind (wpAny_rule (wpAny_bind (unpackItems_tuple (items:=#[u1,u2]) (I.ok.hd hc) (IsTup.new s1.heap _) λh' fN=>?_)));have I3:=I2.kept (t':=s1.toks) λb o e=>fN b o (a2V (a2C e)) e;show wpAny_bind (assignInOrder_cons (wpAny_bindName (nC I3 hN hj (.inl hy) cR (λs2 I4=>(assignInOrder_cons (wpAny_bindName (nC I4 hN hi (.inl hx) rv (λs3 I5=>assignInOrder_nil (wpAny_pure ?_)) (.inr hx))))) (.inr hy))));rw[List.set_comm _ _ (Ne.symm QC)] at I5;show⟨_,H1,I5,q1⟩
inductive GA(i:Nat)(te:TE)(ti:Au)(D:Ends)(σ:St)(H:Hp):Prop
 | mk:∀x,(σ[i]?=some (some x))->(te σ H λy H1=>ti x y H1 λz H2=>D.nx (σ.set i (some z)) H2)->GA i te ti D σ H
def QD(hN:X.N.Nodup)(hi:X.N[i]?=some x)(hx:Loc X.env.scope x)(he:PE X e te)(ho:Gx X op ti)(hf:X.fn x=true\/X.env.scope.names.lookup x=some .local:=by first | show .inl Z | show .inr Z | assumption) : PS X (.AugAssign (.Name x iB) op e pos) (GA i te ti):=by
 intro aa s σ H D I h;obtain⟨v,e1,h⟩:=h;obtain⟨m,hn,hl⟩:=I.loc;have QE:pU X.env.scope x:=by rcases hx with k | k;show .inl k;show .inr<|.inl k
 obtain⟨u,r,l⟩:=hl i x v hi e1 QE;show wpAny_AugAssign_Name ?_
 have go:wpAny (model X.prog X.w) X.A (eval e X.env) (λw ir=>wpAny (model X.prog X.w) X.A (inplaceOp op u w) (λr vM=>wpAny (model X.prog X.w) X.A (storeName X.env x r) (λ_=>SP X aa D .next) X.xe vM) X.xe ir) X.xe s:=by
  show ar (he aa s σ H _ I h) λw s1 ⟨y,H1,I1,r1,q1⟩=>(ar (ho aa s1 σ H1 v y u w _ I1 r r1 q1) λz s2 ⟨zv,H2,I2,r2,q2⟩=>?_);show nC I2 hN hi hx r2 (λs3 I3=>⟨_,H2,I3,q2⟩) hf
 rcases l with⟨hk,hm⟩ | ⟨hk,c,hc,hcell⟩;.show wpAny_loadName_local I.ok.kind hk hn hm go
 .rcases hk with hk | hk;.show wpAny_loadName_cell I.ok.kind hk hc hcell go
  .rcases hx with k | k
   .have:X.env.scope.names.lookup x=some .free:=hk;rw[k] at this;cases this
   .have:X.env.scope.names.lookup x=some .free:=hk;rw[k] at this;cases this
inductive GB(f:Int->Int->Int)(x:V)(y:V)(H:Hp)(Q:VK):Prop
 | mk:∀i j,(x=.int i)->(y=.int j)->(Q (.int (f i j)) H)->GB f x y H Q
def QF:Gx X .Add (GB λi j=>i+j):=by
 intro aa s σ H x y v u Q I r1 r2 h;obtain⟨i,j,e1,e2,q⟩:=h;subst e1;subst e2;obtain⟨t,rfl⟩:=r1;obtain⟨t',rfl⟩:=r2;show iadd_int ⟨.int _,H,I.tok _,⟨_,Z⟩,q⟩
def QG(c:TT)(tb:TS):TS:=λD σ H=>∃W:Nat->St->Hp->Prop,(∃m,W m σ H)/\∀m σ H,W m σ H-> c σ H λb H1=>if b=true then ∃N:St->Hp->Prop,(∀ aF H',N aF H'->∃m',m'<m/\W m' aF H')/\tb {D with nx:=N,ct:=N,bk:=D.nx} σ H1 else D.nx σ H1
def QH(hp:PassesOwn (model X.prog X.w) X.A X.env X.xe)(hc:PT X c tc)(hb:bQ X body tb):PS X (.While c body [] pos) (QG tc tb):=by
 intro aa s σ H D I h;obtain⟨W,⟨m0,w0⟩,jg⟩:=h;show wpAny_While<|codeAny_whileLoop (λn s'=>∃ aF H',Inv X aa aF H' s'/\W n aF H') ?_ m0 ⟨σ,H,I,w0⟩;rintro n s1 ⟨iA,H1,I1,w1⟩;show wpAny_passesOwn hp<|ar (hc aa s1 iA H1 _ I1<|jg n iA H1 w1) λb s2 ⟨H2,I2,q2⟩=>?_
 cases b with
 | true =>
  obtain⟨N,hN,q2⟩:=q2;show wpAny_passesOwn hp<|ar (hb aa s2 iA H2 _ I2 q2) λf s3 q3=>?_
  cases f with
  | next =>
   obtain⟨iC,H3,I3,n3⟩:=q3;obtain⟨m',hm,w3⟩:=hN iC H3 n3;show⟨m',hm,iC,H3,I3,w3⟩
  | cont =>
   obtain⟨iC,H3,I3,n3⟩:=q3;obtain⟨m',hm,w3⟩:=hN iC H3 n3;show⟨m',hm,iC,H3,I3,w3⟩
  | brk=>show q3
  | ret v=>show q3
 | false =>
  show wpAny_execs_nil ⟨iA,H2,I2,q2⟩
end
structure It where
 go:Nat->Hp->Prop
 gy:Nat->Hp->V->Hp->Prop
 stop:Nat->Hp->Prop
def gW(X:Cx)(aa:List (Addr×Obj))(H:Hp)(b:Addr):Prop := H b=none/\b≠X.env.locals/\b∉X.fs/\(b∈X.ex\/X.cJ.heap.objs.size<=b)/\(∀x c,X.env.cells.lookup x=some c->c≠b)/\∀p∈X.pn++aa,p.1≠b
def Inv.nJ{σ:St}{b:Addr}(I:Inv X aa σ H s)(hb:s.heap.objs.size<=b)(hn:H' b=none):gW X aa H' b:=by
 show⟨hn,a3u<|a2L I.lt hb,I.Qe hb,.inr<|a2U I.sz hb,λx c e z=>?_,λp hp z=>?_⟩
 .obtain⟨v,q⟩:=I.cell x c e;show absurd (a2L q.lt<|by rw[z];show hb)<|a3w _
 .show absurd (a2L (a2C (I.pin p hp).1)<|by rw[z];show hb)<|a3w _
structure jQ(P:Program)(w:World)(K:PySem.W.Frag)(tg:Expr)(J:It)(fp:List Addr)(it:Addr)(tn:Nat->Heap->Prop):Prop where
 mem:it∈fp
 obj:∀i h,tn i h->∀b∈fp,∃o,h.get? b=some o/\∀v,o.data≠.cell v
 keep:∀i h h',tn i h->(∀b∈fp,∀o,h.get? b=some o->h'.get? b=some o)->tn i h'
 item:∀(X:Cx),X.prog=P->X.w=w->X.K=K->X.calm=true->∀(i:Nat) (aa:List (Addr×Obj)) (s:Shared) (σ:St) (H:Hp) (E:Value->Shared->Prop),Inv X aa σ H s->(∀b∈fp,gW X aa H b)->tn i s.heap->J.go i H->
  wpAny (model P w) X.A (pyNext (.ref it)) (λr s1=>∃u,r=some u/\
   wpAny (model P w) X.A (letOwnedTupleGo tg (.ref it) u) (λ_ s2=>∃x H',Inv X aa σ H' s2/\RelV x u/\J.gy i H x H'/\tn (i+1) s2.heap/\∀b∈fp,H' b=none) E s1) E s
 done:∀(X:Cx),X.prog=P->X.w=w->X.K=K->X.calm=true->∀(i:Nat) (aa:List (Addr×Obj)) (s:Shared) (σ:St) (H:Hp) (E:Value->Shared->Prop),Inv X aa σ H s->(∀b∈fp,gW X aa H b)->tn i s.heap->J.stop i H->
  wpAny (model P w) X.A (pyNext (.ref it)) (λr s1=>r=none/\Inv X aa σ H s1) E s
 self:∀(A:Around) (i:Nat) (s:Shared) (Q:Value->Shared->Prop) (E:Value->Shared->Prop),tn i s.heap->Q (.ref it) s->wpAny (model P w) A (pyIter (.ref it)) Q E s
abbrev TI:=St->Hp->(It->Hp->Prop)->Prop
def GC(X:Cx)(aa:List (Addr×Obj))(σ:St)(tg:Expr)(R:It->Hp->Prop)(vN:Value)(s2:Shared):Prop := ∃(it:Addr) (fp:List Addr) (tn:Nat->Heap->Prop) (J:It) (H':Hp),vN=.ref it/\Inv X aa σ H' s2/\jQ X.prog X.w X.K tg J fp it tn/\tn 0 s2.heap/\(∀b∈fp,gW X aa H' b)/\R J H'
def PI(X:Cx)(tg iter:Expr)(wi:TI):Prop := ∀(aa:List (Addr×Obj)) (s:Shared) (σ:St) (H:Hp) (R:It->Hp->Prop),Inv X aa σ H s->wi σ H R-> wpAny (model X.prog X.w) X.A (eval iter X.env) (λv s1=>wpAny (model X.prog X.w) X.A (pyIter v) (GC X aa σ tg R) X.xe s1) X.xe s
def vO(ho:s.heap.get? it=some o)(hc:o.cls=.type n)(hd:o.data=.fields vs) (hn:["enumerate","zip","dict_itemiterator","dict_reverseitemiterator","odict_iterator","itertools.zip_longest","itertools.pairwise"].contains n=false) (hQ:Q () s):wpAny M A (letOwnedTupleGo tg (.ref it) u) Q E s:=by
 cases tg <;> first
  | show wpAny_pure hQ
  | (cases u <;> first
    | show wpAny_pure hQ
    | (show wpAny_bind<|wpAny_load ho ?_;show hc▸hd▸?_;change wpAny M A (if (["enumerate","zip","dict_itemiterator","dict_reverseitemiterator","odict_iterator","itertools.zip_longest","itertools.pairwise"].contains n&&vs[0]?==some _)=true then _ else _) Q E s;rw[if_neg (by intro h;rw[hn,a6d] at h;cases h)];show wpAny_pure hQ))
def lV(K:PySem.W.Frag)(a:Addr):It := ⟨λi H=>∃xs x,ag K H a xs/\xs[i]?=some x,λi H x H'=>H'=H/\∀xs,ag K H a xs->xs[i]?=some x,λi H=>∃xs,ag K H a xs/\xs.length<=i⟩
def jR(lo:Int)(n:Nat):It:=⟨λi _=>i<n,λi H x H'=>H'=H/\x=.int (lo+i),λi _=>n<=i⟩
def QI{K:PySem.W.Frag}(a it:Addr):jQ P w K tg (lV K a) [it] it (λi h=>h.IsListIter it a i) where
 mem:=by simp
 obj:=λi h st b hb=>by
  have e:b=it:=by simpa using hb
  subst e;obtain⟨o,e,c,d⟩:=st;show⟨o,e,λv z=>by rw[d] at z;cases z⟩
 keep:=λi h h' st k=>st.at λo e=>k it (by simp) o e
 item:=by
  intro X hP hw hK hc i aa s σ H E I hf st hg;subst hP hw hK;obtain⟨xs,x,hq,hx⟩:=hg;obtain⟨af,rv,p,hz⟩:=I.list hq;obtain⟨u,hu,ru⟩:=rv.get hx;obtain⟨f0,f1,f2,f3,f4,f5⟩:=hf it (by simp);show wpAny_pyNext_list_item st p.isList (by simpa using hu) λh' ao sb=>?_;have I1:Inv X aa σ H {s with heap:=h'}:=I.turned (λb o hb e=>(sb.2 b hb).trans e) f0 f1 f3 f4 f5;obtain⟨o,e,c,d⟩:=id ao;show⟨u,Z,vO e c d (by decide) ⟨x,H,I1,ru,⟨Z,λys hy=>by rw[I.nD hy hq];show hx⟩,ao,λb hb=>(hf b hb).1⟩⟩
 done:=by
  intro X hP hw hK hc i aa s σ H E I hf st hg;subst hP hw hK;obtain⟨xs,hq,hx⟩:=hg;obtain⟨af,rv,p,hz⟩:=I.list hq;obtain⟨f0,f1,f2,f3,f4,f5⟩:=hf it (by simp);have hl:=rv.length;show wpAny_pyNext_list_end (I.ok.hd hc) st p.isList (by simp;omega) λh' eb=>⟨Z,I.turned (λb o hb e=>eb b o hb e) f0 f1 f3 f4 f5⟩
 self:=λ_ _ _ _ _ st h=>wpAny_pyIter_listiter st h
def QJ{K:PySem.W.Frag}(it:Addr)(lo:Int)(n:Nat):jQ P w K tg (jR lo n) [it] it (λi h=>IsRangeIter h it (lo+(i:Nat)*1) ((n:Int)-(i:Nat)) 1) where
 mem:=by simp
 obj:=λi h st b hb=>by
  simp_all
 keep:=λi h h' st k=>k it (by simp) _ st
 item:=by
  intro X hP hw hK hc i aa s σ H E I hf st hg;subst hP hw hK;obtain⟨f0,f1,f2,f3,f4,f5⟩:=hf it (by simp);have W:=Walks.range (prog:=X.prog) (w:=X.w) (I.ok.hd hc) it lo 1 n;show W.item i s _ _ hg st λv h' tk hv ao kk=>?_;obtain⟨t,rfl⟩:=hv;have I1:Inv X aa σ H {s with heap:=h',toks:=tk}:=I.turned (λb o hb e=>kk b o (by simpa using hb) e) f0 f1 f3 f4 f5;show⟨_,Z,vO ao Z Z (by decide) ⟨.int _,H,I1,⟨t,?_⟩,⟨Z,Z⟩,ao,λb hb=>(hf b hb).1⟩⟩;rw[a6e]
 done:=by
  intro X hP hw hK hc i aa s σ H E I hf st hg;obtain⟨f0,f1,f2,f3,f4,f5⟩:=hf it (by simp);show wpAny_pyNext_range_end (I.ok.hd hc) st (by have:n<=i:=hg;omega) λh' eb=>⟨Z,I.turned (λb o hb e=>eb b o hb e) f0 f1 f3 f4 f5⟩
 self:=λ_ _ _ _ _ st h=>wpAny_pyIter_rangeiter st h
section
variable{tg:Expr}
inductive GD(K:PySem.W.Frag)(R:It->Hp->Prop)(x:V)(H1:Hp):Prop
 | mk:∀a,(x=.ref a)->((∃xs,ag K H1 a xs))->(R (lV K a) H1)->GD K R x H1
def QK(K:PySem.W.Frag)(tl:TE):TI:=fun σ H R=>tl σ H (GD K R)
def B_(hl:PE X l tl):PI X tg l (QK X.K tl):=by
 show λaa s σ H R I h=>ar (hl aa s σ H _ I h) λv s1 ⟨x,H1,I1,r1,q1⟩=>?_;obtain⟨a,e,⟨xs,hq⟩,q⟩:=q1;subst e;cases r1;obtain⟨af,rv,p,hz⟩:=I1.list hq;show wpAny_pyIter_list p.isList (⟨s1.heap.objs.size,[s1.heap.objs.size],_,_,H1,Z,I1.kept (t':=s1.toks) λb o e=>a2y _ e,QI a _,⟨_,a2F _ Z,Z,Z⟩,λb hb=>?_,q⟩);have e:b=s1.heap.objs.size:=by simpa using hb
 subst e;show I1.nJ (a2D _)<|I1.am.fresh<|a2D _
def GE{σ:St}{lo hi:Int}(I:Inv X aa σ H s)(h1 : -(2 ^ 62)<=lo)(h2:lo<2 ^ 62)(h3 : -(2 ^ 62)<=hi)(h4:hi<2 ^ 62) (q:R (jR lo (hi-lo).toNat) H):wpAny (model X.prog X.w) X.A (pyIter (.ref s.heap.objs.size)) (GC X aa σ tg R) E {s with heap:=s.heap.push {cls:=.type "range",data:=.fields #[.int lo t,.int hi u,.int 1 v]},toks:=tk}:=by
 show wpAny_pyIter_range (IsRange.new ..) (small_one h1 h2 h3 h4) ?_;have I1:Inv X aa σ H {s with heap:=s.heap.push {cls:=.type "range",data:=.fields #[.int lo t,.int hi u,.int 1 v]},toks:=tk}:=I.kept λb o e=>a2y _ e;show⟨(s.heap.push {cls:=.type "range",data:=.fields #[.int lo t,.int hi u,.int 1 v]}).objs.size,[(s.heap.push {cls:=.type "range",data:=.fields #[.int lo t,.int hi u,.int 1 v]}).objs.size],_,_,H,Z, I1.kept λb o e=>a2y _ e,QJ _ lo (hi-lo).toNat,?_,λb hb=>?_,q⟩
 .have e1:lo+ (0:Nat) *1=lo:=by simp
  have e2:(((hi-lo).toNat))- (0:Nat) =Builtin.Range.rangeSize lo hi 1:=by rw[rangeSize_one];split <;> omega
  rw[e1,e2];show a2F _ Z
 .have e:b=(s.heap.push {cls:=.type "range",data:=.fields #[.int lo t,.int hi u,.int 1 v]}).objs.size:=by simpa using hb
  subst e;show I1.nJ (a2D _)<|I1.am.fresh<|a2D _
def QL(ta:TA):TI:=fun σ H R=>ta σ H λvs H1=>∃j:Int,vs=[.int j]/\-(2 ^ 62)<=j/\j<2 ^ 62/\R (jR 0 j.toNat) H1
inductive GF(R:It->Hp->Prop)(vs:List V)(H1:Hp):Prop
 | mk:∀i j:Int,(vs=[.int i,.int j])->((-(2 ^ 62)<=i/\i<2 ^ 62/\-(2 ^ 62)<=j/\j<2 ^ 62))->(R (jR i (j-i).toNat) H1)->GF R vs H1
def QM(ta:TA):TI:=fun σ H R=>ta σ H (GF R)
def kH(hg:Gl X "range")(hm:X.mg "range"=none)(ha:PA X [a] ta)(hs:starEach [a] X.env=[(false,eval a X.env)]:=by rfl):PI X tg (.Call (.Name "range" p) [a] [] pos) (QL ta):=by
 show λaa s σ H R I h=>Call_<|jd I hg hm boot_range<|PyProof.Rows.callWith_type1 (ar (ha pos aa s σ H _ I h) λus s1 ⟨vs,H1,I1,r1,q1⟩=>?_) hs Z;obtain⟨j,e,q1,q2,q⟩:=q1;subst e
 cases r1 with
 | cons r rr =>
  cases rr;obtain⟨t,rfl⟩:=r;show call_range_1<|GE I1 (by omega) (by omega) q1 q2<|by simpa using q
def QN{p pos:Pos}(hg:Gl X "range")(hm:X.mg "range"=none)(ha:PA X [a,b] ta)(hs:starEach [a,b] X.env=[(false,eval a X.env),(false,eval b X.env)]:=by rfl)(gz:starEach [b] X.env=[(false,eval b X.env)]:=by rfl) : PI X tg (.Call (.Name "range" p) [a,b] [] pos) (QM ta):=by
 show λaa s σ H R I h=>Call_<|jd I hg hm boot_range<|PyProof.Rows.callWith_type1 (ar (ha pos aa s σ H _ I h) λus s1 ⟨vs,H1,I1,r1,q1⟩=>?_) (by rw[hs,gz])<|by rw[gz];rfl
 obtain⟨i,j,e,⟨q1,q2,q3,q4⟩,q⟩:=q1;subst e
 cases r1 with
 | cons r rr =>
  cases rr with
  | cons r' rr =>
   cases rr;obtain⟨t,rfl⟩:=r;obtain⟨t',rfl⟩:=r';show call_range_2<|GE I1 q1 q2 q3 q4 q
def QO(wi:TI)(g:TG)(tb:TS):TS:=λD σ H=>wi σ H λJ H1=>∃W:Nat->Nat->St->Hp->Prop,(∃m,W 0 m σ H1)/\∀i m σ H,W i m σ H-> (J.stop i H/\D.nx σ H)\/(J.go i H/\∃N:St->Hp->Prop,(∀ aF H',N aF H'->∃m',m'<m/\W (i+1) m' aF H')/\∀x H',J.gy i H x H'->g x σ H' λbI H2=>tb {D with nx:=N,ct:=N,bk:=D.nx} bI H2)
def lW(fp:List Addr)(h:Heap):List (Addr×Obj):=fp.filterMap λb=>(h.get? b).map λo=>(b,o)
def vP(hb:b∈fp)(e:h.get? b=some o):(b,o)∈lW fp h:=List.mem_filterMap.mpr ⟨b,hb,by rw[e];rfl⟩
def GG(hp:p∈lW fp h):p.1∈fp/\h.get? p.1=some p.2:=by
 obtain⟨b,hb,e⟩:=List.mem_filterMap.mp hp
 cases q:h.get? b with
 | none=>rw[q] at e;cases e
 | some o =>
  rw[q] at e;have e':=a2J e;subst e';show⟨hb,q⟩
def Inv.pinned{σ:St}(I:Inv X aa σ H s)(hf:∀b∈fp,gW X aa H b)(ho:∀b∈fp,∃o,s.heap.get? b=some o/\∀v,o.data≠.cell v):Inv X (aa++lW fp s.heap) σ H s :=
 I.vD λp hp=>(a3j.mp hp).elim (λz=>I.pin p<|a3b _ z) λz=>by
  obtain⟨hb,e⟩:=GG z;obtain⟨f0,f1,f2,_⟩:=hf p.1 hb;obtain⟨o,e',d⟩:=ho p.1 hb;rw[e] at e';cases e';show⟨e,f0,f1,f2,d⟩
def Inv.vQ{σ:St}(I:Inv X (aa++pl) σ H s):Inv X aa σ H s:=I.vD λp hp=>I.pin p<|a3b _<|a3Q _ hp
def Z_(hp:PassesOwn (model X.prog X.w) X.A X.env X.xe)(hc:X.calm=true)(hi:PI X tg iter wi)(hg:PG X tg g)(hb:bQ X body tb) (hs:∀x,foldedSetIterable iter X.env x=pure x:=by intro _;rfl):PS X (.For tg iter body [] pos) (QO wi g tb):=by
 show λaa s σ H D I h=>wpAny_For (ar (hi aa s σ H _ I h) λv s1 h1=>ar h1 λvN s2 h2=>?_) hs;obtain⟨it,fp,tn,J,H2,e,I2,T,bh,f2,W,⟨m0,w0⟩,jg⟩:=h2;subst e;have nK:∀ {H':Hp},(∀b∈fp,H' b=none)->∀b∈fp,gW X aa H' b:=λhn b hb=>⟨hn b hb,(f2 b hb).2⟩;show codeAny_forLoop_any (λn s'=>∃i aF H',Inv X aa aF H' s'/\tn i s'.heap/\(∀b∈fp,H' b=none)/\W i n aF H') ?_ m0 ⟨0,σ,H2,I2,bh,λb hb=>(f2 b hb).1,w0⟩;rintro n s3 ⟨i,iC,H3,I3,bL,bX,w3⟩;rcases jg i n iC H3 w3 with⟨stop,qn⟩ | ⟨go,N,hN,step⟩
 .show wpAny_passesOwn hp<|ar (T.done X Z Z Z hc i aa s3 iC H3 X.xe I3 (nK bX) bL stop) λr s4 ⟨hr,I4⟩=>?_;subst hr;show wpAny_execs_nil ⟨iC,H3,I4,qn⟩
 .show wpAny_passesOwn hp<|ar (T.item X Z Z Z hc i aa s3 iC H3 X.xe I3 (nK bX) bL go) λr s4 ⟨u,hr,h4⟩=>?_;subst hr;show wpAny_passesOwn hp<|ar h4 λ_ s5 ⟨x,H5,I5,r5,y5,nN,Av⟩=>?_;have Aw:=I5.pinned (nK Av) (T.obj _ _ nN);show wpAny_passesOwn hp<|ar (hg _ s5 iC H5 x u _ Aw r5<|step x H5 y5) λ_ s6 ⟨jS,H6,I6,q6⟩=>(wpAny_passesOwn hp (ar (hb _ s6 jS H6 _ I6 q6) λf s7 q7=>?_))
  have again:∀ {eU:St} {H7:Hp},Inv X (aa++lW fp s5.heap) eU H7 s7->N eU H7->∃m,m<n/\∃i aF H',Inv X aa aF H' s7/\tn i s7.heap/\(∀b∈fp,H' b=none)/\W i m aF H':=λ{eU H7} I7 n7=>by
   obtain⟨m',hm,w7⟩:=hN eU H7 n7;show⟨m',hm,i+1,eU,H7,I7.vQ,T.keep _ _ _ nN λb hb o e=>(I7.pin (b,o)<|a3b _<|a3b _<|vP hb e).1,λb hb=>?_,w7⟩;obtain⟨o,e,d⟩:=T.obj _ _ nN b hb;show(I7.pin (b,o)<|a3b _<|a3b _<|vP hb e).2.1
  cases f with
  | next=>obtain⟨eU,H7,I7,n7⟩:=q7;show again I7 n7
  | cont=>obtain⟨eU,H7,I7,n7⟩:=q7;show again I7 n7
  | brk=>obtain⟨eU,H7,I7,q7⟩:=q7;show⟨eU,H7,I7.vQ,q7⟩
  | ret v=>obtain⟨x7,eU,H7,I7,r7,q7⟩:=q7;show⟨x7,eU,H7,I7.vQ,r7,q7⟩
end
def kI{K:PySem.W.Frag}{g:TG}{tb:TS}{D:Ends}(Pv:Nat->St->Hp->Prop)(h0:Pv 0 σ H)(hl:∀i σ H,i<=xs.length->Pv i σ H->ag K H a xs) (hs:∀i x σ H,xs[i]?=some x->Pv i σ H->g x σ H λbI H2=>tb {D with nx:=Pv (i+1),ct:=Pv (i+1),bk:=D.nx} bI H2) (hd:∀ σ H,Pv xs.length σ H->D.nx σ H) : ∃W:Nat->Nat->St->Hp->Prop,(∃m,W 0 m σ H)/\∀i m σ H,W i m σ H-> ((lV K a).stop i H/\D.nx σ H)\/((lV K a).go i H/\∃N:St->Hp->Prop,(∀ aF H',N aF H'->∃m',m'<m/\W (i+1) m' aF H')/\∀x H',(lV K a).gy i H x H'->g x σ H' λbI H2=>tb {D with nx:=N,ct:=N,bk:=D.nx} bI H2):=by
 show⟨λi m σ H=>m=xs.length-i/\i<=xs.length/\Pv i σ H,⟨xs.length,by simp,a3q _,h0⟩,?_⟩;rintro i m σ H ⟨rfl,hi,p⟩;have q:=hl i σ H hi p;by_cases aJ:i<xs.length
 .show .inr ⟨⟨xs,xs[i],q,by simp[aJ]⟩,Pv _,λaF H' p'=>⟨xs.length-(i+1),by omega,Z,aJ,p'⟩,λx H' y=>?_⟩;obtain⟨e,y⟩:=y;subst e;show hs i x σ _ (y xs q) p
 .have e:i=xs.length:=by omega
  subst e;show .inl ⟨⟨xs,q,a2D _⟩,hd σ H p⟩
def nO{lo:Int}{g:TG}{tb:TS}{D:Ends}(Pv:Nat->St->Hp->Prop)(h0:Pv 0 σ H) (hs:∀i σ H,i<n->Pv i σ H->g (.int (lo+i)) σ H λbI H2=>tb {D with nx:=Pv (i+1),ct:=Pv (i+1),bk:=D.nx} bI H2) (hd:∀ σ H,Pv n σ H->D.nx σ H) : ∃W:Nat->Nat->St->Hp->Prop,(∃m,W 0 m σ H)/\∀i m σ H,W i m σ H-> ((jR lo n).stop i H/\D.nx σ H)\/((jR lo n).go i H/\∃N:St->Hp->Prop,(∀ aF H',N aF H'->∃m',m'<m/\W (i+1) m' aF H')/\∀x H',(jR lo n).gy i H x H'->g x σ H' λbI H2=>tb {D with nx:=N,ct:=N,bk:=D.nx} bI H2):=by
 show⟨λi m σ H=>m=n-i/\i<=n/\Pv i σ H,⟨n,by simp,a3q _,h0⟩,?_⟩;rintro i m σ H ⟨rfl,hi,p⟩;by_cases aJ:i<n
 .show .inr ⟨aJ,Pv _,λaF H' p'=>⟨n-(i+1),by omega,Z,aJ,p'⟩,λx H' y=>?_⟩;obtain⟨e,y⟩:=y;subst e y;show hs i σ _ aJ p
 .have e:i=n:=by omega
  subst e;show .inl ⟨a2D _,hd σ H p⟩
abbrev R2:=V->V->Hp->VK->Prop
def cu(X:Cx)(f:Value->Value->Sem Value)(r:R2):Prop := ∀(aa:List (Addr×Obj)) (s:Shared) (σ:St) (H:Hp) (x y:V) (v u:Value) (Q:VK),Inv X aa σ H s->RelV x v->RelV y u->r x y H Q-> wpAny (model X.prog X.w) X.A (f v u) (EP X aa σ Q) X.xe s
def Ax(X:Cx)(f:Value->Sem Value)(r:V->Hp->VK->Prop):Prop := ∀(aa:List (Addr×Obj)) (s:Shared) (σ:St) (H:Hp) (x:V) (v:Value) (Q:VK),Inv X aa σ H s->RelV x v->r x H Q-> wpAny (model X.prog X.w) X.A (f v) (EP X aa σ Q) X.xe s
def dw(X:Cx)(f:Value)(r:List V->Hp->VK->Prop):Prop := ∀(aa:List (Addr×Obj)) (s:Shared) (σ:St) (H:Hp) (xs:List V) (us:List Value) (Q:VK),Inv X aa σ H s->az xs us->r xs H Q-> wpAny (model X.prog X.w) X.A (call f us) (EP X aa σ Q) X.xe s
def iD(r:R2)(ta tb:TE):TE:=fun σ H Q=>ta σ H λx H1=>tb σ H1 λy H2=>r x y H2 Q
def QP(r:V->Hp->VK->Prop)(ta:TE):TE:=fun σ H Q=>ta σ H λx H1=>r x H1 Q
inductive rI(C:Int->Int->Prop)(g:Int->Int->V)(x:V)(y:V)(H:Hp)(Q:VK):Prop
 | mk:∀i j,(x=.int i)->(y=.int j)->(C i j)->(Q (g i j) H)->rI C g x y H Q
inductive kJ(g:Int->Int->V)(x:V)(y:V)(H:Hp)(Q:VK):Prop
 | mk:∀i j,(x=.int i)->(y=.int j)->(Q (g i j) H)->kJ g x y H Q
inductive rU(g:Int->V)(x:V)(H:Hp)(Q:VK):Prop
 | mk:∀i,(x=.int i)->(Q (g i) H)->rU g x H Q
def Ay(ha:PE X a ta)(hb:PE X b tb){σ:St}{R:V->V->Hp->Prop}(I:Inv X aa σ H s) (h:ta σ H λx H1=>tb σ H1 λy H2=>R x y H2)  {f:Value->Value->Sem Value} (hf:∀v u s2 x y H2,Inv X aa σ H2 s2->RelV x v->RelV y u->R x y H2->wpAny (model X.prog X.w) X.A (f v u) Q X.xe s2) : wpAny (model X.prog X.w) X.A (eval a X.env) (λv bf=>wpAny (model X.prog X.w) X.A (eval b X.env) (λu ir=>wpAny (model X.prog X.w) X.A (f v u) Q X.xe ir) X.xe bf) X.xe s:=by
 show ar (ha aa s σ H _ I h) λv s1 ⟨x,H1,I1,r1,q1⟩=>(ar (hb aa s1 σ H1 _ I1 q1) λu s2 ⟨y,H2,I2,r2,q2⟩=>?_);show hf v u s2 x y H2 I2 r1 r2 q2
def o_(ho:cu X (binaryOp op) r)(ha:PE X a ta)(hb:PE X b tb):PE X (.BinOp a op b pos) (iD r ta tb):=by show λaa s σ H Q I h=>wpAny_BinOp<|Ay ha hb I h λv u s2 x y H2 I2 rx ry q=>ho aa s2 σ H2 x y v u Q I2 rx ry q
def rX(ho:Ax X (unaryOp op) r)(ha:PE X a ta):PE X (.UnaryOp op a pos) (QP r ta):=by show λaa s σ H Q I h=>UnaryOp_<|ar (ha aa s σ H _ I h) λv s1 ⟨x,H1,I1,r1,q1⟩=>ho aa s1 σ H1 x v Q I1 r1 q1
def Az{g:Int->Int->Int} (rule:∀ i j   t u   s   Q   E ,C i j->Q (.int (g i j) s.toks) {s with toks:=s.toks+1}->wpAny (model X.prog X.w) X.A (f (.int i t) (.int j u)) Q E s) : cu X f (rI C λi j=>.int (g i j)):=by
 intro aa s σ H x y v u Q I rx ry h;obtain⟨i,j,rfl,rfl,hc,q⟩:=h;obtain⟨t,rfl⟩:=rx;obtain⟨t',rfl⟩:=ry;show rule i j t t' s _ _ hc ⟨.int<|g i j,H,I.tok _,⟨_,Z⟩,q⟩
def GH{g:Int->Int->Int} (rule:∀ i j   t u   s   Q   E ,Q (.int (g i j) s.toks) {s with toks:=s.toks+1}->wpAny (model X.prog X.w) X.A (f (.int i t) (.int j u)) Q E s) : cu X f (kJ λi j=>.int (g i j)):=by
 intro aa s σ H x y v u Q I rx ry h;obtain⟨i,j,rfl,rfl,q⟩:=h;obtain⟨t,rfl⟩:=rx;obtain⟨t',rfl⟩:=ry;show rule i j t t' s _ _ ⟨.int<|g i j,H,I.tok _,⟨_,Z⟩,q⟩
def vR{g:Int->Int->Bool} (rule:∀ i j   t u   s   Q   E ,Q (.bool (g i j)) s->wpAny (model X.prog X.w) X.A (f (.int i t) (.int j u)) Q E s) : cu X f (kJ λi j=>.bl (g i j)):=by
 intro aa s σ H x y v u Q I rx ry h;obtain⟨i,j,rfl,rfl,q⟩:=h;obtain⟨t,rfl⟩:=rx;obtain⟨t',rfl⟩:=ry;show rule i j t t' s _ _ ⟨.bl<|g i j,H,I,Z,q⟩
def QQ(i j:Int):Prop:=0<j/\j<1073741824
def vS(i j:Int):Prop:=(-(2 ^ 64)<i/\i<2 ^ 64)\/(-(2 ^ 64)<j/\j<2 ^ 64)
def vS.ok(h:vS i j):IntMulOk i j:=by
 rcases h with⟨h1,h2⟩ | ⟨h1,h2⟩;.show .of_left<|intBits_le_64 h1 h2
 .show .of_right<|intBits_le_64 h1 h2
def Q_:cu X (binaryOp .Add) (kJ λi j=>.int (i+j)):=GH λ_ _ _ _ _ _ _ q=>add_int q
def gA:cu X (binaryOp .Sub) (kJ λi j=>.int (i-j)):=GH λ_ _ _ _ _ _ _ q=>sub_int q
def jh:cu X (binaryOp .Mult) (rI vS λi j=>.int (i*j)):=Az λ_ _ _ _ _ _ _ hc q=>mul_int q hc.ok
def gB:cu X (binaryOp .FloorDiv) (rI QQ λi j=>.int (i / j)):=Az λi j _ _ _ _ _ hc q=>by
 have h1:=hc.1;have h2:=hc.2;show floordiv_int (by omega) (by rw[Int.fdiv_eq_ediv_of_nonneg i (by omega)];show q)<|.inl<|PyProof.noPylong_small<|by omega
def fz:cu X (binaryOp .Mod) (rI (λ_ j=>0<j) λi j=>.int (i % j)):=Az λi j _ _ _ _ _ hc q=>by show mod_int' (by omega)<|by rw[Int.fmod_eq_emod_of_nonneg i (by omega)];show q
def QR{g:Int->Int} (rule:∀ i   t   s   Q   E ,Q (.int (g i) s.toks) {s with toks:=s.toks+1}->wpAny (model X.prog X.w) X.A (f (.int i t)) Q E s) : Ax X f (rU λi=>.int (g i)):=by
 intro aa s σ H x v Q I rx h;obtain⟨i,rfl,q⟩:=h;obtain⟨t,rfl⟩:=rx;show rule i t s _ _ ⟨.int<|g i,H,I.tok _,⟨_,Z⟩,q⟩
def rY:Ax X (unaryOp .USub) (rU λi=>.int (-i)):=QR λ_ _ _ _ _ q=>neg_int q
def GI:V->V->Bool
 | .au,.au=>true | .au,.int _=>true | .int _,.au=>true | .au,.bl _=>true | .bl _,.au=>true | .au,.str _=>true | .str _,.au=>true
 | .int _,.int _=>true | .bl _,.bl _=>true | .str _,.str _=>true | .io _,.io _=>true
 | .int _,.str _=>true | .str _,.int _=>true | .bl _,.str _=>true | .str _,.bl _=>true
 | _,_=>false
def QS:R2:=λx y H Q=>GI x y=true/\Q (.bl (decide (x=y))) H
def QT:R2:=λx y H Q=>GI x y=true/\Q (.bl (!decide (x=y))) H
def GJ:decide (V.int i=V.int j)=(i==j):=by
 rw[a5A];simp
def GK:decide (V.bl i=V.bl j)=(i==j):=by
 rw[a5A];simp
def GL:decide (V.str i=V.str j)=(i==j):=by
 rw[a5A];simp
def GM:decide (V.io i=V.io j)=(i.toList==j.toList):=by
 rw[a5A];cases i;cases j;simp
def K_{σ:St}(I:Inv X aa σ H s)(q:Q (.bl k) H)(e:k=k'):EP X aa σ Q (.bool k') s:=by
 subst e;show⟨.bl k,H,I,Z,q⟩
def dW:cu X (compareOp .Eq) QS:=by
 intro aa s σ H x y v u Q I rx ry h;obtain⟨hs,q⟩:=h
 cases x with
 | au =>
  cases rx
  cases y with
  | au=>cases ry;show PySem.EqNone.eq_none_none<|K_ I q<|by simp
  | bl j=>cases ry;show PySem.EqNone.eq_none_bool<|K_ I q<|by simp
  | int j=>obtain⟨t',rfl⟩:=ry;show PySem.EqNone.eq_none_int<|K_ I q<|by simp
  | str j=>obtain⟨t',rfl⟩:=ry;show PySem.EqNone.eq_none_str<|K_ I q<|by simp
  | _=>show absurd (show false=true from hs) a2R
 | bl i =>
  cases rx
  cases y with
  | au=>cases ry;show PySem.EqNone.eq_bool_none<|K_ I q<|by simp
  | bl j=>cases ry;show eq_bool<|K_ I q GK
  | str j=>obtain⟨t',rfl⟩:=ry;show PySem.EqMixed.eq_bool_str<|K_ I q<|by simp
  | _=>show absurd (show false=true from hs) a2R
 | int i =>
  obtain⟨t,rfl⟩:=rx
  cases y with
  | au=>cases ry;show PySem.EqNone.eq_int_none<|K_ I q<|by simp
  | int j=>obtain⟨t',rfl⟩:=ry;show eq_int<|K_ I q GJ
  | str j=>obtain⟨t',rfl⟩:=ry;show PySem.EqMixed.eq_int_str<|K_ I q<|by simp
  | _=>show absurd (show false=true from hs) a2R
 | str i =>
  obtain⟨t,rfl⟩:=rx
  cases y with
  | au=>cases ry;show PySem.EqNone.eq_str_none<|K_ I q<|by simp
  | bl j=>cases ry;show PySem.EqMixed.eq_str_bool<|K_ I q<|by simp
  | int j=>obtain⟨t',rfl⟩:=ry;show PySem.EqMixed.eq_str_int<|K_ I q<|by simp
  | str j=>obtain⟨t',rfl⟩:=ry;show eq_str<|K_ I q GL
  | _=>show absurd (show false=true from hs) a2R
 | io i =>
  obtain⟨t,rfl⟩:=rx
  cases y with
  | io j=>obtain⟨t',rfl⟩:=ry;show PySem.W.eq_bytes<|K_ I q GM
  | _=>show absurd (show false=true from hs) a2R
 | _=>cases y <;> show absurd (show false=true from hs) a2R
def rZ:cu X (compareOp .NotEq) QT:=by
 intro aa s σ H x y v u Q I rx ry h;obtain⟨hs,q⟩:=h
 cases x with
 | au =>
  cases rx
  cases y with
  | au=>cases ry;show PySem.EqNone.ne_none_none<|K_ I q<|by simp
  | bl j=>cases ry;show PySem.EqNone.ne_none_bool<|K_ I q<|by simp
  | int j=>obtain⟨t',rfl⟩:=ry;show PySem.EqNone.ne_none_int<|K_ I q<|by simp
  | str j=>obtain⟨t',rfl⟩:=ry;show PySem.EqNone.ne_none_str<|K_ I q<|by simp
  | _=>show absurd (show false=true from hs) a2R
 | bl i =>
  cases rx
  cases y with
  | au=>cases ry;show PySem.EqNone.ne_bool_none<|K_ I q<|by simp
  | bl j=>cases ry;show ne_bool<|K_ I q<|congrArg not GK
  | str j=>obtain⟨t',rfl⟩:=ry;show PySem.EqMixed.ne_bool_str<|K_ I q<|by simp
  | _=>show absurd (show false=true from hs) a2R
 | int i =>
  obtain⟨t,rfl⟩:=rx
  cases y with
  | au=>cases ry;show PySem.EqNone.ne_int_none<|K_ I q<|by simp
  | int j=>obtain⟨t',rfl⟩:=ry;show ne_int<|K_ I q<|congrArg not GJ
  | str j=>obtain⟨t',rfl⟩:=ry;show PySem.EqMixed.ne_int_str<|K_ I q<|by simp
  | _=>show absurd (show false=true from hs) a2R
 | str i =>
  obtain⟨t,rfl⟩:=rx
  cases y with
  | au=>cases ry;show PySem.EqNone.ne_str_none<|K_ I q<|by simp
  | bl j=>cases ry;show PySem.EqMixed.ne_str_bool<|K_ I q<|by simp
  | int j=>obtain⟨t',rfl⟩:=ry;show PySem.EqMixed.ne_str_int<|K_ I q<|by simp
  | str j=>obtain⟨t',rfl⟩:=ry;show ne_str<|K_ I q<|congrArg not GL
  | _=>show absurd (show false=true from hs) a2R
 | io i =>
  obtain⟨t,rfl⟩:=rx
  cases y with
  | io j=>obtain⟨t',rfl⟩:=ry;show PySem.W.ne_bytes<|K_ I q<|congrArg not GM
  | _=>show absurd (show false=true from hs) a2R
 | _=>cases y <;> show absurd (show false=true from hs) a2R
def r6:cu X (compareOp .Lt) (kJ λi j=>.bl (decide (i<j))):=vR λ_ _ _ _ _ _ _ q=>lt_int q
def jT:cu X (compareOp .LtE) (kJ λi j=>.bl (decide (i<=j))):=vR λ_ _ _ _ _ _ _ q=>le_int q
def r9:cu X (compareOp .Gt) (kJ λi j=>.bl (decide (j<i))):=vR λ_ _ _ _ _ _ _ q=>gt_int q
def QU:cu X (compareOp .GtE) (kJ λi j=>.bl (decide (j<=i))):=vR λ_ _ _ _ _ _ _ q=>ge_int q
def GN:cu X (compareOp .In) (λx y H Q=>∃i j,x=.str i/\y=.str j/\Q (.bl (!(Builtin.Str.occurrences j i 0 j.length 1).isEmpty)) H):=by
 intro aa s σ H x y v u Q I rx ry h;obtain⟨i,j,rfl,rfl,q⟩:=h;obtain⟨t,rfl⟩:=rx;obtain⟨t',rfl⟩:=ry;show in_str<|K_ I q Z
def AA:cu X (compareOp .Is) (λx y H Q=>y=.au/\Q (.bl (decide (x=.au))) H):=by
 intro aa s σ H x y v u Q I rx ry h;obtain⟨rfl,q⟩:=h;cases ry;show is_none_gen<|K_ I q ?_;cases x <;> first | (cases rx;rfl) | (obtain⟨t,rfl⟩:=rx;rfl)
def bx(b:Expr)(h:op≠.In:=by decide)(h2:op≠.NotIn:=by decide):behindInMarks op b=false:=by
 have e1:(op==CmpOp.In)=false:=by grind
 have e2:(op==CmpOp.NotIn)=false:=by grind
 cases b <;> simp[behindInMarks,e1,e2]
def sd(ho:cu X (compareOp op) r)(ha:PE X a ta)(hb:PE X b tb)(hm:behindInMarks op b=false):PE X (.Compare a [op] [b] pos) (iD r ta tb):=by show λaa s σ H Q I h=>wpAny_Compare1 (Ay ha hb I h λv u s2 x y H2 I2 rx ry q=>ho aa s2 σ H2 x y v u Q I2 rx ry q) hm
inductive GO(Q:Bool->Hp->Prop)(x:V)(H':Hp):Prop
 | mk:∀k,(x=.bl k)->(Q k H')->GO Q x H'
def GP(t:TE):TT:=fun σ H Q=>t σ H (GO Q)
def r_(ho:cu X (compareOp op) r)(ha:PE X a ta)(hb:PE X b tb)(hm:behindInMarks op b=false):PT X (.Compare a [op] [b] pos) (GP (iD r ta tb)):=by
 show λaa s σ H Q I h=>wpAny_isTrue_Compare1 (ar (ha aa s σ H _ I h) λv s1 ⟨x,H1,I1,r1,q1⟩=>ar (hb aa s1 σ H1 _ I1 q1) λu s2 ⟨y,H2,I2,r2,q2⟩ => ar (ho aa s2 σ H2 x y v u _ I2 r1 r2 q2) λc s3 ⟨z,H3,I3,r3,k,e,q3⟩=>?_) hm;subst e;cases r3;show wpAny_truthy_bool ⟨H3,I3,q3⟩
inductive GQ(r':R2)(tc:TE)(σ:St)(Q:VK)(y:V)(z:V)(H3:Hp):Prop
 | mk:∀k,(z=.bl k)->((if k=true then tc σ H3 λw' H4=>r' y w' H4 Q else Q (.bl false) H3))->GQ r' tc σ Q y z H3
def GR(r r':R2)(ta tb tc:TE):TE:=fun σ H Q=>ta σ H λx H1=>tb σ H1 λy H2=>r x y H2 (GQ r' tc σ Q y)
def GS(ho:cu X (compareOp op) r)(jc:cu X (compareOp nP) r')(ha:PE X a ta)(hb:PE X b tb)(hc:PE X c tc) (hm:lastMarks [op,nP] [b,c]=false:=by with_unfolding_all rfl):PE X (.Compare a [op,nP] [b,c] pos) (GR r r' ta tb tc):=by
 show λaa s σ H Q I h=>Compare_chain (ar (ha aa s σ H _ I h) λv s1 ⟨x,H1,I1,r1,q1⟩=>chain_link<|ar (hb aa s1 σ H1 _ I1 q1) λu s2 ⟨y,H2,I2,r2,q2⟩ => ar (ho aa s2 σ H2 x y v u _ I2 r1 r2 q2) λd s3 ⟨z,H3,I3,r3,k,e,q3⟩=>?_) hm;subst e;cases r3;show wpAny_truthy_bool ?_
 cases k with
 | false=>show ite_ff ⟨.bl _,H3,I3,Z,q3⟩
 | true=>show ite_tt<|chain_last<|ar (hc aa s3 σ H3 _ I3 q3) λw' s4 ⟨z',H4,I4,r4,q4⟩=>jc aa s4 σ H4 y z' u w' Q I4 r2 r4 q4
def AB(ho:cu X (compareOp op) r)(jc:cu X (compareOp nP) r')(ha:PE X a ta)(hb:PE X b tb)(hc:PE X c tc) (hm:lastMarks [op,nP] [b,c]=false:=by with_unfolding_all rfl):PT X (.Compare a [op,nP] [b,c] pos) (GP (GR r r' ta tb tc)):=by
 show λaa s σ H Q I h=>isTrue_chain (ar (ha aa s σ H _ I h) λv s1 ⟨x,H1,I1,r1,q1⟩=>test_link<|ar (hb aa s1 σ H1 _ I1 q1) λu s2 ⟨y,H2,I2,r2,q2⟩ => ar (ho aa s2 σ H2 x y v u _ I2 r1 r2 q2) λd s3 ⟨z,H3,I3,r3,k,e,q3⟩=>?_) hm;subst e;cases r3;show wpAny_truthy_bool ?_
 cases k with
 | false =>
  obtain⟨k',e',q'⟩:=q3;cases e';show ite_ff ⟨H3,I3,q'⟩
 | true =>
  show ite_tt<|test_last<|ar (hc aa s3 σ H3 _ I3 q3) λw' s4 ⟨z',H4,I4,r4,q4⟩=>ar (jc aa s4 σ H4 y z' u w' _ I4 r2 r4 q4) λd' s5 ⟨z2,H5,I5,r5,k2,e2,q5⟩=>?_;subst e2;cases r5;show wpAny_truthy_bool ⟨H5,I5,q5⟩
def p9:(sizeLine:Nat)<2 ^ 63:=by decide
def y_:cu X (binaryOp .Add) (λx y H Q=>∃i j,x=.str i/\y=.str j/\i.length+j.length<=sizeLine/\Q (.str (i++j)) H):=by
 intro aa s σ H x y v u Q I rx ry h;obtain⟨i,j,rfl,rfl,hz,q⟩:=h;obtain⟨t,rfl⟩:=rx;obtain⟨t',rfl⟩:=ry;show add_str (λt' tk=>⟨.str _,H,I.tok _,⟨_,Z⟩,q⟩) hz
def vals1(r:az [x] us):∃u,us=[u]/\RelV x u:=by
 cases r with
 | cons r1 r2=>cases r2;show⟨_,Z,r1⟩
def vals2(r:az [x,y] us):∃u w',us=[u,w']/\RelV x u/\RelV y w':=by
 cases r with
 | cons r1 r2 =>
  cases r2 with
  | cons r3 r4=>cases r4;show⟨_,_,Z,r1,r3⟩
def QV:dw X (.builtin "abs") (λxs H Q=>∃i,xs=[.int i]/\Q (.int (if i<0 then -i else i)) H):=by
 intro aa s σ H xs us Q I r h;obtain⟨i,rfl,q⟩:=h;obtain⟨u,rfl,t,rfl⟩:=vals1 r;show call_abs_int λu tk=>⟨.int _,H,I.tok _,⟨_,Z⟩,q⟩
def GT(hc:X.calm=true):dw X (.builtin "max") (λxs H Q=>∃i j,xs=[.int i,.int j]/\Q (.int (if j>i then j else i)) H):=by
 intro aa s σ H xs us Q I r h;obtain⟨i,j,rfl,q⟩:=h;obtain⟨u,w',rfl,⟨t,rfl⟩,⟨t',rfl⟩⟩:=vals2 r;show max_two_ints (I.ok.hd hc) λh' tk k=>⟨_,H,I.kept k,?_,q⟩;by_cases hj:j>i;.rw[if_pos hj,if_pos hj];show⟨_,Z⟩
 .rw[if_neg hj,if_neg hj];show⟨_,Z⟩
def GU(hc:X.calm=true):dw X (.builtin "min") (λxs H Q=>∃i j,xs=[.int i,.int j]/\Q (.int (if j<i then j else i)) H):=by
 intro aa s σ H xs us Q I r h;obtain⟨i,j,rfl,q⟩:=h;obtain⟨u,w',rfl,⟨t,rfl⟩,⟨t',rfl⟩⟩:=vals2 r;show min_two_ints (I.ok.hd hc) λh' tk k=>⟨_,H,I.kept k,?_,q⟩;by_cases hj:j<i;.rw[if_pos hj,if_pos hj];show⟨_,Z⟩
 .rw[if_neg hj,if_neg hj];show⟨_,Z⟩
def S_:dw X (.type "str") (λxs H Q=>∃i,xs=[.int i]/\i.natAbs.log2<1920/\Q (.str (toString i)) H):=by
 intro aa s σ H xs us Q I r h;obtain⟨i,rfl,hz,q⟩:=h;obtain⟨u,rfl,t,rfl⟩:=vals1 r;show PySem.P.str_of_int hz ⟨.str _,H,I.tok _,⟨_,Z⟩,q⟩
structure nQ(h:Heap)(x dx C:Addr)(mA:Str->Option Value):Prop where
 obj:h.get? x=some (PySem.W.instObj C dx)
 ns:h.Ns1 dx mA
 ne:dx≠x
def QW{h:Heap}(n:h.Ns1 dx mA):∃od,h.get? dx=some od/\∀name,PySem.W.lookIn name od=some (mA name):=by
 obtain⟨o,es,ep,ho,hd,hk,_,hm⟩:=n;show⟨o,ho,λname=>?_⟩;have e:=hm name;unfold nsFind findBy at e;rw[<-Array.find?_toList] at e;unfold PySem.W.lookIn;rw[hd];try dsimp only
 split;.simp_all
 .rename_i q;rw[q] at e
  have a:es.toList.any (·.refKey)=false:=by
   rw[List.any_eq_false];intro y hy;obtain⟨z,t,iE⟩:=hk y (Array.mem_toList_iff.mp hy);simp[DictEntry.refKey,iE]
  have a':¬ es.toList.any (·.refKey)=true:=by rw[a];show a2R
  rw[if_neg a'];show congrArg _ e
def nQ.look(I:nQ h x dx C mA):∃od,PySem.W.InstAt h x (PySem.W.instObj C dx) C (some od)/\∀name,PySem.W.lookIn name od=some (mA name) :=
 let ⟨od,ho,hl⟩:=QW I.ns
 ⟨od,⟨I.obj,Z,Z,ho⟩,hl⟩
section
variable{s:Shared}{K:PySem.W.Frag}
def QX(X:K.In s.heap)(I:nQ s.heap x dx C mA)(hg:PySem.W.plainGet K C name=true)(hh:PySem.W.hasDictIn K C=true) (ha:PySem.W.findIn K (.ref C) name=some none) (hv:mA name=some v) (QZ:PySem.W.handedIn v=true) (h:Q v {s with toks:=s.toks+1}) : wpAny (model prog w) A (getAttr (.ref x) name QY) Q E s:=by
 obtain⟨od,J,hl⟩:=I.look;show PySem.W.get_value X J (a5F hg).1 (PySem.W.findObj_own hh ha Z<|by rw[hl,hv]) QZ h
def Q0(X:K.In s.heap)(I:nQ s.heap x dx C mA)(hg:PySem.W.plainGet K C name=true) (hf:PySem.W.findIn K (.ref C) name=some (some (.ref f))) (ht:PySem.W.isFn K (.ref f)=true) (hv:mA name=none) (h:Q (.ref f,[.ref x]) s) : wpAny (model prog w) A (getMethod (.ref x) name pl) Q E s:=by
 obtain⟨od,J,hl⟩:=I.look;show PySem.W.method_fn X J (a5F hg).1 (a5F hg).2 hf (beq_iff_eq.mp ht) (by change(PySem.W.lookIn _ od).map _=some _;rw[hl,hv];rfl) h
def Q1(X:K.In s.heap)(I:nQ s.heap x dx C mA) (hs:PySem.W.findIn K (.ref C) "__setattr__"=some (some (.builtin "object.__setattr__"))) (hp:PySem.W.plainOver K C=true) (ht:PySem.W.takerIn K C name=some none) (hh:PySem.W.hasDictIn K C=true) (hw:PySem.Within mA ns) (hsz:ns.length<=sizeLine) (h:∀h',nQ h' x dx C (λy=>if y=name then some v else mA y)->Heap.SameBut dx s.heap h'->Q () {s with heap:=h',toks:=s.toks+2}) : wpAny (model prog w) A (setAttr (.ref x) name v) Q E s:=by
 obtain⟨od,J,hl⟩:=I.look;show PySem.W.set_plain X J hs<|PySem.W.osa_open X J hp ht λb=>?_;obtain⟨cd,hc,f7⟩:=PySem.W.any_some hh;have hx:=I.obj;show wpAny_bind<|wpAny_pure<|wpAny_bind<|wpAny_bind<|wpAny_loadPart hx<|wpAny_bind<|PySem.W.Looks.here (PySem.W.looks_clsIn X hc) ?_;rw[f7];show wpAny_pure<|wpAny_bind<|wpAny_pure<|wpAny_bind (wpAny_nsSet1 (s:={s with toks:=s.toks+1}) I.ns λh' f8 gz=>?_);obtain⟨oD,esD,epD,Q2,Q3,Q4⟩:=f8.count (PySem.Within.cons _ v hw);show wpAny_bind<|wpAny_lookBehind Q2 (by rw[Q3];show pastItsLine_dict<|a2U Q4<|by rw[a2P];omega) (wpAny_pure (h _ ⟨(gz.2 _ (Ne.symm I.ne)).trans I.obj,f8,I.ne⟩ gz))
def Q5(X:K.In s.heap)(hm:PySem.W.makesIn K C=true) (hi:PySem.W.findIn K (.ref C) "__init__"=some (some (.ref f))) (hf:PySem.W.typeIn K (.ref f)=some (.type "function")) (h:codeAny (model prog w) (A.under (.builtin "type.__call__" ⟨.ref C::vs,kw⟩)) (.call (.ref f) ⟨.ref (s.heap.objs.size+1)::vs,kw⟩) (PySem.W.InitBack (s.heap.objs.size+1) R) {s with heap:=(s.heap.push PySem.W.emptyDict).push (PySem.W.instObj C s.heap.objs.size)}) : codeAny (model prog w) A (.call (.ref C) ⟨vs,kw⟩) R s:=by
 obtain⟨hh,g,d,t,os⟩:=s;show PySem.W.make_core (PySem.W.makes_of X hm) (PySem.W.looks_findIn X hi) (λself=>PySem.W.bind_fn X _ hf) (.inl Z) h
end
def fD(f:Str)(v:V):List (Str×V)->List (Str×V)
 | []=>[(f,v)]
 | (g,x)::r=>if g=f then (g,v)::r else (g,x)::fD f v r
theorem vT(f g:Str)(v:V):∀fs:List (Str×V),(fD f v fs).lookup g=if g=f then some v else fs.lookup g
 | []=>by
  change List.lookup g [(f,v)]=_;by_cases h:g=f;.simp_all
  .simp_all
 | (k,x)::r=>by
  have ih:=vT f g v r;rw[show fD f v _=(if k=f then (k,v)::r else (k,x)::fD f v r) from rfl];by_cases hk:k=f
  .rw[if_pos hk];by_cases h:g=k;.simp_all
   .have hb:=beq_eq_false_iff_ne.mpr h;simp only[List.lookup,hb,if_neg (λe:g=f=>h<|e.trans hk.symm)]
  .rw[if_neg hk];by_cases h:g=k;.simp_all
   .have hb:=beq_eq_false_iff_ne.mpr h;simp only[List.lookup,hb];show ih
theorem AC(f:Str)(v:V):∀fs:List (Str×V),f∈(fD f v fs).map (·.1)/\∀g,g∈fs.map (·.1)->g∈(fD f v fs).map (·.1)
 | []=>⟨by simp[fD],λg h=>by simp at h⟩
 | (k,x)::r=>by
  obtain⟨i1,i2⟩:=AC f v r;rw[show fD f v _=(if k=f then (k,v)::r else (k,x)::fD f v r) from rfl];by_cases hk:k=f;.grind
  .rw[if_neg hk];show⟨?_,λg h=>?_⟩;.show a2G _ i1
   .rcases a2B.mp h with e | e;.show a2B.mpr<|.inl e
    .show a2G _<|i2 g e
theorem GV(f:Str)(v:V):∀fs:List (Str×V),(fD f v fs).length<=fs.length+1
 | []=>by simp[fD]
 | (k,x)::r=>by
  have ih:=GV f v r;rw[show fD f v _=(if k=f then (k,v)::r else (k,x)::fD f v r) from rfl];by_cases hk:k=f;.rw[if_pos hk,a2P,a2P];omega
  .rw[if_neg hk,a2P,a2P];omega
def d9.some_of(r:d9 (some v) o):∃u,o=some u/\RelV v u:=by
 cases o with
 | none=>show(show False from r).elim
 | some u=>show⟨u,Z,r⟩
def d9.none_of(r:d9 none o):o=none:=by
 cases o with
 | none=>rfl
 | some u=>show(show False from r).elim
def Q6(r:RelV v u):PySem.W.handedIn u=true:=by
 cases v with
 | au=>cases (show u=Value.none from r);rfl
 | bl b=>cases (show u=Value.bool b from r);rfl
 | int i=>obtain⟨t,e⟩:=(show ∃t,u=Value.int i t from r);cases e;rfl
 | str x=>obtain⟨t,e⟩:=(show ∃t,u=Value.str x t from r);cases e;rfl
 | io b=>obtain⟨t,e⟩:=(show ∃t,u=Value.bytes b t from r);cases e;rfl
 | nq b=>obtain⟨t,e⟩:=(show ∃t,u=Value.float b t from r);cases e;rfl
 | ref a=>cases (show u=Value.ref a from r);rfl
 | ty n=>cases (show u=Value.type n from r);rfl
def vU(am:bC P w H h)(e:H a=some (.ins C dx fs)):∃mA,nQ h a dx C mA/\(∀f,d9 (fs.lookup f) (mA f))/\PySem.Within mA (fs.map (·.1))/\fs.length<=1000/\H dx=some (.own a):=by
 obtain⟨d,z,ne,ob,mA,n,r,q⟩:=(show cr P w H h a _ from am a _ e);show⟨mA,⟨ob,n,ne⟩,r,q,z,d⟩
structure cS(K:PySem.W.Frag)(C:Addr):Prop where
 pg:PySem.W.plainGet K C Str.empty=true
 hd:PySem.W.hasDictIn K C=true
 po:PySem.W.plainOver K C=true
 sa:PySem.W.findIn K (.ref C) "__setattr__"=some (some (.builtin "object.__setattr__"))
def cS.get{K:PySem.W.Frag}(c:cS K C)(f:Str):PySem.W.plainGet K C f=true:=c.pg
def kL(K:PySem.W.Frag)(C:Addr)(f:Str):Prop:=PySem.W.findIn K (.ref C) f=some none
def kL.Q7{K:PySem.W.Frag}(n:kL K C f):PySem.W.takerIn K C f=some none:=by
 unfold PySem.W.takerIn;rw[show PySem.W.findIn K _ f=some _ from n];rfl
structure qa(K:PySem.W.Frag)(C:Addr)(m:Str)(f:Addr):Prop where
 at_:PySem.W.findIn K (.ref C) m=some (some (.ref f))
 fn:PySem.W.isFn K (.ref f)=true
 kp:PySem.W.keepIn K (.ref f)=true
section
variable{σ:St}
def Q8(I:Inv X aa σ H s)(e:H a=some (.ins C dx fs))(c:cS X.K C)(n:kL X.K C f)(l:fs.lookup f=some v) (h:∀u s',Inv X aa σ H s'->RelV v u->Q u s'):wpAny (model X.prog X.w) A (getAttr (.ref a) f b) Q E s:=by
 obtain⟨mA,O,r,_,_,_⟩:=vU I.am e;obtain⟨u,hu,ru⟩:=d9.some_of (v:=v) (o:=mA f) (by show l▸?_;show r f);show QX I.cb O (c.get f) c.hd n hu (Q6 ru)<|h u _ (I.tok _) ru
def vV(I:Inv X aa σ H s)(e:H a=some (.ins C dx fs))(c:cS X.K C)(k:qa X.K C m g)(l:fs.lookup m=none) (h:Q (.ref g,[.ref a]) s):wpAny (model X.prog X.w) A (getMethod (.ref a) m pl) Q E s:=by
 obtain⟨mA,O,r,_,_,_⟩:=vU I.am e;have hn:mA m=none:=d9.none_of (by show l▸?_;show r m);show Q0 I.cb O (c.get m) k.at_ k.fn hn h
def Q9(I:Inv X aa σ H s)(e:H a=some (.ins C dx fs))(c:cS X.K C)(n:kL X.K C f)(hl:fs.length<1000)(ry:RelV y u) (h:∀s',Inv X aa σ (ad H a (.ins C dx (fD f y fs))) s'->Q () s'):wpAny (model X.prog X.w) A (setAttr (.ref a) f u) Q E s:=by
 obtain⟨mA,O,r,wi,_,ho⟩:=vU I.am e;have hz:(fs.map (·.1)).length<=sizeLine:=by rw[a2x,sizeLine_eq];omega
 show Q1 I.cb O c.sa c.po n.Q7 c.hd wi hz λh' O' sb=>h _ ?_;have hd:∃o,h'.get? dx=some o:=let ⟨o,_,_,e',_⟩:=O'.ns;⟨o,e'⟩
 show I.write (by rw[e];show True.intro) (.inr ho) (λb q hb z=>(sb.2 b hb).trans z) hd ⟨by rw[i_ O.ne];show ho,?_,O.ne,O'.obj,_,O'.ns,λg=>?_,λg hg=>?_⟩;.have:=GV f y fs;omega
 .rw[vT];by_cases q:g=f;.rw[if_pos q,if_pos q];show ry
  .simp_all
 .by_cases q:g=f;.rw[q];show(AC f y fs).1
  .show(AC f y fs).2 g<|wi g λz=>hg ?_;change(if g=f then some u else mA g)=none;rw[if_neg q];show z
def Inv.made(I:Inv X aa σ H s):Inv X aa σ (ad (ad H s.heap.objs.size (.own (s.heap.objs.size+1))) (s.heap.objs.size+1) (.ins C s.heap.objs.size [])) {s with heap:=(s.heap.push PySem.W.emptyDict).push (PySem.W.instObj C s.heap.objs.size)}:=by
 have e1:(s.heap.push _).get? _=some PySem.W.emptyDict:=a2F _ Z
 have e2:((s.heap.push PySem.W.emptyDict).push<|PySem.W.instObj C s.heap.objs.size).get? (s.heap.objs.size+1)=some (PySem.W.instObj C s.heap.objs.size):=by
  have:=a2F (s.heap.push PySem.W.emptyDict) (o:=PySem.W.instObj C s.heap.objs.size) Z;rwa [a3h] at this
 have e3:(s.heap.push _).Ns _ _:=⟨PySem.W.emptyDict,#[],_,e1,Z,(λe he=>absurd he<|by simp),λ_=>rfl⟩;have I1:=I.laid (o:=.own (s.heap.objs.size+1)) (t':=s.toks) (λb u q=>a2y _ q) (a2D _) ⟨_,e1⟩;show I1.laid (λb u q=>a2y _ q) (Nat.le_of_eq<|a3h _ _) ?_;have ne:s.heap.objs.size≠s.heap.objs.size+1:=a2V (a3K _);show⟨by rw[i_ ne,c_],a3q _,ne,e2,λ_=>none,(Heap.Ns1.of_empty e3).at λo q=>a2y _ q,λ_=>True.intro,λy hy=>absurd Z hy⟩
def Ra(hb:attributeBase e f env (eval e env)=eval e env) (h:wpAny (model prog w) A (eval e env) (λo bf=>wpAny (model prog w) A (getAttr o f true) Q E bf) E s):wpAny (model prog w) A (eval (.Attribute e f pos) env) Q E s := Attribute_any_ h (by rw[arm_eval_Attribute,hb])
end
inductive GW(K:PySem.W.Frag)(f:Str)(Q:VK)(x:V)(H1:Hp):Prop
 | mk:∀a C dx fs v,(x=.ref a)->(H1 a=some (.ins C dx fs))->(cS K C)->(kL K C f)->(fs.lookup f=some v)->(Q v H1)->GW K f Q x H1
def Rb(K:PySem.W.Frag)(ta:TE)(f:Str):TE:=fun σ H Q=>ta σ H (GW K f Q)
inductive GX(K:PySem.W.Frag)(f:Str)(D:Ends)(σ:St)(y:V)(x:V)(H2:Hp):Prop
 | mk:∀a C dx fs,(x=.ref a)->(H2 a=some (.ins C dx fs))->(cS K C)->(kL K C f)->(fs.length<1000)->(D.nx σ (ad H2 a (.ins C dx (fD f y fs))))->GX K f D σ y x H2
def Rc(K:PySem.W.Frag)(ta tv:TE)(f:Str):TS:=λD σ H=>tv σ H λy H1=>ta σ H1 (GX K f D σ y)
def qb(he:PE X e ta)(hb:attributeBase e f X.env (eval e X.env)=eval e X.env):PE X (.Attribute e f pos) (Rb X.K ta f):=by
 show λaa s σ H Q I h=>Ra hb<|ar (he aa s σ H _ I h) λu s1 ⟨x,H1,I1,rx,a,C,dx,fs,v,ex,ea,c,n,l,q⟩=>?_;subst ex;obtain rfl:u=Value.ref a:=rx;show Q8 I1 ea c n l λu' s2 I2 ru=>⟨v,H1,I2,ru,q⟩
def Re(ha:PE X o ta)(hv:PE X value tv)(hs:swapsWith value (some (.Attribute o f iB)) pos.line X.env=pure false):PS X (.Assign [.Attribute o f iB] value pos) (Rc X.K ta tv f):=by
 show λaa s σ H D I h=>plainObj_wpAny_Assign_Attribute (ar (hv aa s σ H _ I h) λu s1 ⟨y,H1,I1,ry,q⟩=>ar (ha aa s1 σ H1 _ I1 q) λov s2 ⟨x,H2,I2,rx,a,C,dx,fs,ex,ea,c,n,l,q2⟩=>?_) hs;subst ex;obtain rfl:ov=Value.ref a:=rx;show Q9 I2 ea c n l ry λs3 I3=>⟨σ,_,I3,q2⟩
def a2d{σ:St}(he:PE X e te)(I:Inv X aa σ H s)
  (h:te σ H λx H1=>∃a C dx fs g,x=.ref a/\H1 a=some (.ins C dx fs)/\cS X.K C/\qa X.K C m g/\fs.lookup m=none/\
   ∀s1,Inv X aa σ H1 s1->wpAny (model X.prog X.w) X.A (callWith pos (.ref g) [.ref a] (backTo pos (starEach args X.env)) (backToKw pos (keywordEach [] X.env))) Q X.xe s1)
  (ht:eval (.Call (.Attribute e m bo) args [] pos) X.env=(do
   let ov <-eval e X.env
   standAt bo.atName
   let (f,first) <-holding [ov] (getMethod ov m pl)
   callWith pos f first (backTo pos (starEach args X.env)) (backToKw pos (keywordEach [] X.env)))) :
  wpAny (model X.prog X.w) X.A (eval (.Call (.Attribute e m bo) args [] pos) X.env) Q X.xe s:=by
 show a4I (ar (he aa s σ H _ I h) λu s1 ⟨x,H1,I1,rx,a,C,dx,fs,g,ex,ea,c,k,l,q⟩=>?_) ht;subst ex;obtain rfl:u=Value.ref a:=rx;show vV I1 ea c k l<|q s1 I1
section
variable{σ:St}
inductive f9(K:PySem.W.Frag)(H:Hp):V->Value->Prop where
 | au:f9 K H .au (.type "NoneType")
 | bl (x:Bool):f9 K H (.bl x) (.type "bool")
 | int (i:Int):f9 K H (.int i) (.type "int")
 | str (x:Str):f9 K H (.str x) (.type "str")
 | nq (x:UInt64):f9 K H (.nq x) (.type "float")
 | lst {a:Addr} {xs:List V} (e:H a=some (.lst xs)):f9 K H (.ref a) (.type "list")
 | bV {a:Addr} {o:Obj} {xs:List V} (e:H a=some (.bV o (.lst xs))):f9 K H (.ref a) (.type "list")
 | tup {a:Addr} {xs:List V} (e:H a=some (.tup xs)):f9 K H (.ref a) (.type "tuple")
 | dK {a:Addr} {kvs:List (ax×V)} (e:H a=some (.dK kvs)):f9 K H (.ref a) (.type "dict")
 | dT {a:Addr} {kvs:List (List ax×V)} (e:H a=some (.dT kvs)):f9 K H (.ref a) (.type "dict")
 | ins {a C dx:Addr} {fs:List (Str×V)} (e:H a=some (.ins C dx fs)) (cl:cS K C) (ha:PySem.W.findIn K (.ref C) "__class__"=some (some (.builtin "object.__class__")))
   (hn:PySem.W.specialIn K (.builtin "object.__class__") "__get__"=some (some (.builtin "getset_descriptor.__get__"))) (GY:PySem.W.takesIn K (.builtin "object.__class__")=some true)
   (hm:PySem.W.mroIn K C (.type "object")=some true):f9 K H (.ref a) (.ref C)
def Rf{x:V}{u t:Value}(I:Inv X aa σ H s)(rx:RelV x u)(ty:f9 X.K H x t)(e:PySem.W.kitOne X.K t c=some b)(h:∀tk,Q (.bool b) {s with toks:=tk}) : wpAny (model X.prog X.w) A (call (.builtin "isinstance") [u,c]) Q E s:=by
 cases ty with
 | au=>cases (show u=Value.none from rx);show a3G PySem.W.kitx_none I.cb True.intro e (λz=>nomatch z) h
 | bl y=>cases (show u=Value.bool y from rx);show a3G PySem.W.kitx_bool I.cb True.intro e (λz=>nomatch z) h
 | int i=>obtain⟨t,q⟩:=(show ∃t,u=Value.int i t from rx);cases q;show a3G PySem.W.kitx_int I.cb True.intro e (λz=>nomatch z) h
 | str y=>obtain⟨t,q⟩:=(show ∃t,u=Value.str y t from rx);cases q;show a3G PySem.W.kitx_str I.cb True.intro e (λz=>nomatch z) h
 | nq y=>obtain⟨t,q⟩:=(show ∃t,u=Value.float y t from rx);cases q;show a3G PySem.W.kitx_float I.cb True.intro e (λz=>nomatch z) h
 | @lst a xs ea =>
  cases (show u=Value.ref a from rx);obtain⟨_,_,n,_,h1⟩:=(show cr _ X.w H _ a _ from I.am a _ ea);show a3G PySem.W.kitx_list I.cb ⟨_,h1,Z⟩ e (λz=>nomatch z) h
 | @bV a ob xs ea =>
  cases (show u=Value.ref a from rx);obtain⟨_,_,_,n,_,h1⟩:=(show cr X.prog X.w H s.heap a (.bV ob<|.lst xs) from I.am a _ ea);show a3G PySem.W.kitx_list I.cb ⟨_,h1,Z⟩ e (λz=>nomatch z) h
 | @tup a xs ea =>
  cases (show u=Value.ref a from rx);obtain⟨_,_,_,p⟩:=(show cr X.prog X.w H s.heap a (.tup xs) from I.am a _ ea);obtain⟨o,h1,h2,_⟩:=p;show a3G PySem.W.kitx_tuple I.cb ⟨o,h1,h2⟩ e (λz=>nomatch z) h
 | @dK a kvs ea =>
  cases (show u=Value.ref a from rx);obtain⟨_,_,vs,_,p⟩:=(show cr X.prog X.w H s.heap a (.dK kvs) from I.am a _ ea);obtain⟨o,es,ep,h1,h2,_⟩:=p;show a3G PySem.W.kitx_dict I.cb ⟨o,h1,h2.1⟩ e (λz=>nomatch z) h
 | @dT a kvs ea =>
  cases (show u=Value.ref a from rx);obtain⟨_,_,xs,_,o,es,ep,h1,h2,_⟩:=(show cr X.prog X.w H s.heap a (.dT kvs) from I.am a _ ea);show a3G PySem.W.kitx_dict I.cb ⟨o,h1,h2.1⟩ e (λz=>nomatch z) h
 | @ins a C dx fs ea cl ha hn GY hm =>
  cases (show u=Value.ref a from rx);obtain⟨mA,O,_⟩:=vU I.am ea;obtain⟨od,J,_⟩:=O.look;show a3G (PySem.W.kitx_own (cl.get _) cl.hd ha hn GY hm) I.cb J e (λz=>nomatch z) h
end
structure bD(k:Nat)(A:Around):Prop where
 hd:A.handled=none
 dp:A.depth+3*k+5<recursionLimit
 un:A.units+16*k+200<cLine
 gd:A.guards=some []
def bD.mono(r:bD k A)(h:j<=k):bD j A:=⟨r.hd,by have:=r.dp;omega,by have:=r.un;omega,r.gd⟩
def bD.mo(r:bD k A)(h:j<=k:=by decide):bD j A:=r.mono h
theorem bD.deeper(r:bD (k+1) A)(env:Env):bD k (A.deeper env) := ⟨r.hd,by have:=r.dp;change A.depth+1+3*k+5<_;omega,by have:=r.un;change A.units+3+16*k+200<_;omega,r.gd⟩
def Rg{A:Around}:(A.under (.builtin "type.__call__" ⟨.ref C::us,kw⟩)).depth=A.depth+1:=by first | rfl | grind
def Rh{A:Around}:(A.under (.builtin "type.__call__" ⟨.ref C::us,kw⟩)).units=A.units+1:=by first | rfl | grind
def bD.make(r:bD (k+1) A)(C:Addr)(us:List Value)(kw:List (Str×Value)):bD k (A.under (.builtin "type.__call__" ⟨.ref C::us,kw⟩)) := ⟨r.hd,by have:=r.dp;rw[Rg];omega,by have:=r.un;rw[Rh];omega,by have:=r.gd;first | show this | grind⟩
theorem bD.depth(r:bD k A):A.depth<recursionLimit:=by have:=r.dp;omega
theorem bD.units(r:bD k A):A.units+64<cLine:=by have:=r.un;omega
def ee:TA:=λ_ H Q=>Q [] H
def kM(ta:TE)(tr:TA):TA:=fun σ H Q=>ta σ H λx H1=>tr σ H1 λxs H2=>Q (x::xs) H2
def d_:PA X [] ee:=λ_ _ _ _ H Q I h=>Calls.spliced_nil ⟨[],H,I,.nil,h⟩
def a_(ha:PE X e te)(hr:PA X es t)(hs:starEach (e::es) X.env=(false,eval e X.env)::starEach es X.env:=by rfl):PA X (e::es) (kM te t):=by
 intro pos aa s σ H Q I h;rw[hs];show Calls.spliced_cons<|ar (ha aa s σ H _ I h) λu s1 ⟨x,H1,I1,r1,q1⟩=>(ar (hr pos aa s1 σ H1 _ I1 q1) λus s2 ⟨xs,H2,I2,r2,q2⟩=>⟨x::xs,H2,I2,.cons r1 r2,q2⟩)
def Ri(t:TA):TE:=fun σ H Q=>t σ H λxs H1=>xs.length<=sizeLine/\∀p,H1 p=none->Q (.ref p) (ad H1 p (.tup xs))
def GZ(t:TA):TE:=fun σ H Q=>t σ H λxs H1=>xs.length<=sizeLine/\∀p,H1 p=none->Q (.ref p) (ad H1 p (.lst xs))
def gX(h:PA X es t):PE X (.Tuple es x1 pos) (Ri t):=by
 show λaa s σ H Q I hq=>wpAny_Tuple_spliced<|ar (h pos aa s σ H _ I hq) λus s1 ⟨xs,H1,I1,r,z,q⟩=>⟨by show r.length▸?_;show z,?_⟩;have hf:=I1.am.fresh (a2D _);show⟨.ref _,ad H1 _<|.tup xs,I1.laid (λb u e=>a2y _ e) (a2D _) (⟨z,us,r,⟨_,a2F _ Z,Z,_,Z⟩⟩),Z,q _ hf⟩
def x_(h:PA X es t):PE X (.List es pos) (GZ t):=by
 show λaa s σ H Q I hq=>wpAny_List_spliced<|ar (h pos aa s σ H _ I hq) λus s1 ⟨xs,H1,I1,r,z,q⟩=>⟨by show r.length▸?_;show z,?_⟩;have hf:=I1.am.fresh (a2D _);show⟨.ref _,ad H1 _<|.lst xs,I1.laid (λb u e=>a2y _ e) (a2D _) ⟨z,us,0,r,a2F _ Z⟩,Z,q _ hf⟩
abbrev Sp:=List V->Hp->VK->XK->Prop
abbrev gC:=List Env->Hp->Shared->XK->Value->Shared->Prop
structure nU(P:Program)(w:World)(K:PySem.W.Frag)(mg:Str->Option Value)(base:Heap)(A:Around)(outer:List Env)(s:Shared)(H:Hp):Prop where
 frames:A.frames=some outer
 mod:Mod K mg base
 bs:∀b o,base.get? b=some o->s.heap.get? b=some o/\H b=none
 iq:base.objs.size<=s.heap.objs.size
 gu:s.heap.FunFrames base outer
 kB:∀b∈bv outer,H b=none
 am:bC P w H s.heap
 bare:AllBare s.gens
def CE(outer:List Env)(P:Program)(w:World)(H:Hp)(s:Shared)(Q:VK)(u:Value)(s':Shared):Prop := ∃v H',s'.os=s.os/\AllBare s'.gens/\Un (bv outer) [] H H' s.heap s'.heap/\bC P w H' s'.heap/\RelV v u/\Q v H'
def CR(CX:gC)(outer:List Env)(P:Program)(w:World)(H:Hp)(s:Shared)(Q:VK)(E:XK)(r:Result)(s':Shared):Prop :=
 match r with
 | .ok (.ret u)=>CE outer P w H s Q u s'
 | .ok _=>False
 | .error e=>CX outer H s E e s'
structure av(P:Program)(w:World)(K:PySem.W.Frag)(mg:Str->Option Value)(base:Heap)(CX:gC)(k:Nat)(f:Addr)(fd:FuncData)(ps:List Str)(sp:Sp):Prop where
 len:∀vs H Q E,sp vs H Q E->vs.length=ps.length
 run:∀(A:Around) (outer:List Env) (s:Shared) (H:Hp) (args:Args) (us:List Value) (vs:List V) (Q:VK) (E:XK),bD k A->nU P w K mg base A outer s H->BindsTo s fd args (ps.zip us)->az vs us->sp vs H Q E->
  codeAny (model P w) A (.call (.ref f) args) (CR CX outer P w H s Q E) s
def av.imp{K:PySem.W.Frag}(F:av P w K mg base CX k f fd ps sp) (h:∀vs H Q E,kO vs H Q E->sp vs H Q E):av P w K mg base CX k f fd ps kO := ⟨λvs H Q E q=>F.len vs H Q E<|h _ _ _ _ q,λA outer s H args us vs Q E hr he hb hv hs=>F.run A _ s H _ us vs Q E hr he hb hv<|h _ _ _ _ hs⟩
def nU.make{K:PySem.W.Frag}(e:nU P w K mg base A outer s H)(C:Addr)(us:List Value)(kw:List (Str×Value)) : nU P w K mg base (A.under (.builtin "type.__call__" ⟨.ref C::us,kw⟩)) outer s H:=⟨by first | show e.frames | grind,e.mod,e.bs,e.iq,e.gu,e.kB,e.am,e.bare⟩
section
variable{σ:St}
def Inv.AD(I:Inv X aa σ H s):nU X.prog X.w X.K X.mg X.base X.A X.stack s H := ⟨I.ok.frames,I.ok.mod,I.bs,a2U I.ok.iq I.sz,I.stack,I.kF,I.am,I.bare⟩
def Inv.after(I:Inv X aa σ H s)(h:CE X.stack X.prog X.w H s Q u s'):EP X aa σ Q u s':=by
 obtain⟨v,H',os,bare,un,am,r,q⟩:=h;obtain⟨hh,g,d,t,AE⟩:=s';obtain rfl:AE=s.os:=os;show⟨v,H',I.call un am bare<|λb z=>absurd z<|by simp,r,q⟩
end
def se(sp:Sp)(cX:List V)(E:XK)(t:TA):TE:=fun σ H Q=>t σ H λvs H1=>sp (vs++cX) H1 Q E
inductive G0(C:Addr)(m:Str)(sp:Sp)(cX:List V)(E:XK)(t:TA)(σ:St)(Q:VK)(x:V)(H1:Hp):Prop
 | mk:∀a dx fs,(x=.ref a)->(H1 a=some (.ins C dx fs))->(fs.lookup m=none)->(t σ H1 λvs H2=>sp (x::(vs++cX)) H2 Q E)->G0 C m sp cX E t σ Q x H1
def sf(C:Addr)(m:Str)(sp:Sp)(cX:List V)(E:XK)(ta:TE)(t:TA):TE:=fun σ H Q=>ta σ H (G0 C m sp cX E t σ Q)
def G6(C:Addr)(sp:Sp)(cX:List V)(E:XK)(t:TA):TE:=fun σ H Q=>t σ H λvs H1=>∀x dx,H1 x=none->H1 dx=none->dx≠x-> sp (.ref x::(vs++cX)) (ad (ad H1 dx (.own x)) x (.ins C dx [])) (λv H2=>v=.au/\Q (.ref x) H2) E
def Binds(K:PySem.W.Frag)(fd:FuncData)(ps:List Str)(ds:List Value):Prop := ∀(s:Shared) (us:List Value),K.In s.heap->(us++ds).length=ps.length->BindsTo s fd ⟨us,[]⟩ (ps.zip (us++ds))
def Binds.all{K:PySem.W.Frag}(h:∀us:List Value,us.length=ps.length->bindArgs fd ⟨us,[]⟩=pure (ps.zip us)):Binds K fd ps []:=λs us _ hl=>by
 rw[a3H] at hl⊢;show .of_eq<|h us hl
def jV(CX:gC)(X:Cx)(E:XK):Prop:=∀(aa:List (Addr×Obj)) (σ:St) (H:Hp) (s:Shared) (e:Value) (s':Shared),Inv X aa σ H s->CX X.stack H s E e s'->X.xe e s'
section
variable{p pos bo:Pos}
def vW{σ:St}(F:av X.prog X.w X.K X.mg X.base CX k f fd ps sp)(hr:bD k X.A)(hb:Binds X.K fd ps ds)(hd:az cX ds)(hx:jV CX X E) (I:Inv X aa σ H s) (r:az vs us) (h:sp (vs++cX) H Q E):wpAny (model X.prog X.w) X.A (call (.ref f) us) (EP X aa σ Q) X.xe s:=by
 have r2:=r.append hd;have hl:(us++ds).length=ps.length:=by show r2.length▸?_;show F.len _ _ _ _ h
 show wpAny_call<|codeAny_mono (F.run X.A _ s H ⟨us,[]⟩ _ _ Q E hr I.AD (hb s us I.cb hl) r2 h) λr s' hq=>?_
 cases r with
 | error e=>show hx aa σ H s e s' I hq
 | ok fl =>
  cases fl with
  | ret u=>show I.after hq
  | next=>show False.elim hq
  | brk=>show False.elim hq
  | cont=>show False.elim hq
def G7(F:av X.prog X.w X.K X.mg X.base CX k f fd ps sp)(hr:bD k X.A)(hg:Gl X x)(hm:X.mg x=some (.ref f))(hk:PySem.W.keepIn X.K (.ref f)=true)(hb:Binds X.K fd ps ds)(hd:az cX ds)(hx:jV CX X E) (ha:PA X (e::es) t) (fE:(x==("__debug__":Str))=false:=by decide) (he:starEach (e::es) X.env=(false,eval e X.env)::starEach es X.env:=by rfl) (cy:(backTo pos (starEach es X.env)).any (·.1)=false:=by rfl) : PE X (.Call (.Name x p) (e::es) [] pos) (se sp cX E t):=by
 show λaa s σ H Q I h=>wpAny_Call_Name_kw<|pW I hg hm ?_ fE;show a5L I.ok.mod.rQ hk (ar (ha pos aa s σ H _ I h) λus s1 ⟨vs,H1,I1,r,q⟩=>⟨I1.cb,(vW F hr hb hd hx I1 r q)⟩) he cy
def Rj(F:av X.prog X.w X.K X.mg X.base CX k f fd ps sp)(hr:bD k X.A)(hg:Gl X x)(hm:X.mg x=some (.ref f))(hk:PySem.W.keepIn X.K (.ref f)=true)(hb:Binds X.K fd ps ds)(hd:az cX ds)(hx:jV CX X E) (fE:(x==("__debug__":Str))=false:=by decide):PE X (.Call (.Name x p) [] [] pos) (se sp cX E ee):=by
 show λaa s σ H Q I h=>wpAny_Call_Name_kw<|pW I hg hm ?_ fE;show a5G I.cb hk<|vW F hr hb hd hx I .nil h
def G8{pl:Sem Bool}(he:PE X o ta)(c:cS X.K C)(hm:qa X.K C m f)(F:av X.prog X.w X.K X.mg X.base CX k f fd ps sp)(hr:bD k X.A)(hb:Binds X.K fd ps ds)(hd:az cX ds)(hx:jV CX X E)(ha:PA X (e::es) t)
  (eT:starEach (e::es) X.env=(false,eval e X.env)::starEach es X.env:=by rfl) (cy:(backTo pos (starEach es X.env)).any (·.1)=false:=by rfl)
  (ht:eval (.Call (.Attribute o m bo) (e::es) [] pos) X.env=(do
   let ov <-eval o X.env
   standAt bo.atName
   let (f,first) <-holding [ov] (getMethod ov m pl)
   callWith pos f first (backTo pos (starEach (e::es) X.env)) (backToKw pos (keywordEach [] X.env))):=by rfl) :
  PE X (.Call (.Attribute o m bo) (e::es) [] pos) (sf C m sp cX E ta t):=by
 show λaa s σ H Q I h=>a4I (ar (he aa s σ H _ I h) λu s1 ⟨x,H1,I1,rx,a,dx,fs,ex,ea,l,q⟩=>?_) ht;subst ex;obtain rfl:u=Value.ref a:=rx;show vV I1 ea c hm l ?_;show a5L I.ok.mod.rQ hm.kp (ar (ha pos aa s1 σ H1 _ I1 q) λus s2 ⟨vs,H2,I2,r,q2⟩=>⟨I2.cb,(vW (us:=.ref a::us) (vs:=.ref a::vs) F hr hb hd hx I2 (.cons Z r) q2)⟩) eT cy
def Rk(he:PE X o ta)(c:cS X.K C)(hm:qa X.K C m f)(F:av X.prog X.w X.K X.mg X.base CX k f fd ps sp)(hr:bD k X.A)(hb:Binds X.K fd ps ds)(hd:az cX ds)(hx:jV CX X E)
  (ht:eval (.Call (.Attribute o m bo) [] [] pos) X.env=(do
   let ov <-eval o X.env
   standAt bo.atName
   let (f,first) <-holding [ov] (getMethod ov m pl)
   callWith pos f first (backTo pos (starEach [] X.env)) (backToKw pos (keywordEach [] X.env))):=by rfl) :
  PE X (.Call (.Attribute o m bo) [] [] pos) (sf C m sp cX E ta ee):=by
 show λaa s σ H Q I h=>a4I (ar (he aa s σ H _ I h) λu s1 ⟨x,H1,I1,rx,a,dx,fs,ex,ea,l,q⟩=>?_) ht;subst ex;obtain rfl:u=Value.ref a:=rx;show vV I1 ea c hm l (a5G (first:=[.ref a]) I1.cb hm.kp (vW (us:=[.ref a]) (vs:=[.ref a]) F hr hb hd hx I1 (.cons Z .nil) q))
structure Mk(K:PySem.W.Frag)(C f:Addr):Prop where
 makes:PySem.W.makesIn K C=true
 init:PySem.W.findIn K (.ref C) "__init__"=some (some (.ref f))
 fn:PySem.W.isFn K (.ref f)=true
 kp:PySem.W.keepIn K (.ref C)=true
def Rl{σ:St}(M:Mk X.K C f)(F:av X.prog X.w X.K X.mg X.base CX k f fd ps sp)(hr:bD (k+1) X.A)(hb:Binds X.K fd ps ds)(hd:az cX ds) (hx:jV CX X E) (I:Inv X aa σ H s) (r:az vs us) (h:∀x dx,H x=none->H dx=none->dx≠x->sp (.ref x::(vs++cX)) (ad (ad H dx (.own x)) x (.ins C dx [])) (λv H2=>v=.au/\Q (.ref x) H2) E) : wpAny (model X.prog X.w) X.A (call (.ref C) us) (EP X aa σ Q) X.xe s:=by
 have hq:=h _ _ (I.am.fresh<|a5w _) (I.am.fresh<|a2D _) (a2V<|a3K _);have I2:=Inv.made (C:=C) I;have r2:az (V.ref (s.heap.objs.size+1)::(vs++cX)) _:=.cons Z (r.append hd)
 have hl:(Value.ref (s.heap.objs.size+1)::us++ds).length=ps.length:=by
  have e:=r2.length;rw[F.len _ _ _ _ hq] at e;show e.symm
 show wpAny_call<|Q5 I.cb M.makes M.init (beq_iff_eq.mp M.fn)<|codeAny_mono (F.run _ _ _ _ ⟨Value.ref _::us,[]⟩ _ _ _ E (hr.make C us []) (I2.AD.make C us []) (hb _ _ I2.cb hl) r2 hq) λr s' sg=>?_
 cases r with
 | error e=>show hx aa σ _ _ e s' I2 sg
 | ok fl =>
  cases fl with
  | ret u =>
   obtain⟨v,H',I3,rv,ev,q3⟩:=I2.after sg;subst ev;show⟨rv,⟨V.ref (s.heap.objs.size+1),H',I3,Z,q3⟩⟩
  | next=>show False.elim sg
  | brk=>show False.elim sg
  | cont=>show False.elim sg
def Rm(M:Mk X.K C f)(F:av X.prog X.w X.K X.mg X.base CX k f fd ps sp)(hr:bD (k+1) X.A)(hg:Gl X x)(hm:X.mg x=some (.ref C))(hb:Binds X.K fd ps ds)(hd:az cX ds)(hx:jV CX X E) (fE:(x==("__debug__":Str))=false:=by decide):PE X (.Call (.Name x p) [] [] pos) (G6 C sp cX E ee):=by
 show λaa s σ H Q I h=>wpAny_Call_Name_kw<|pW I hg hm ?_ fE;show a5G I.cb M.kp<|Rl M F hr hb hd hx I .nil h
end
structure aI(N P:List Str)(sc:Scope):Prop where
 kind:sc.kind=.function
 co:sc.isCoroutine=false
 gen:sc.isGenerator=false
 nd:N.Nodup
 pre:N.take P.length=P
 par:∀x∈P,sc.names.lookup x=some .local\/sc.names.lookup x=some .cell
 Rn:∀y∈sc.names,y.2≠.free
theorem G9{kindOf:Str->Option NameKind}{x:Str}:∀ {binds:List (Str×Value)} {m:Str->Option Value},(∀v,(x,v)∉binds)->bindL kindOf binds m x=m x
 | [],_,_=>rfl
 | (n,v)::r,m,h=>by
  unfold bindL;rw[G9 λw hw=>h w<|a2G _ hw];split
  .have:x≠n:=by rintro rfl;show h v a2Y
   simp[this]
  .rfl
theorem G'{kindOf:Str->Option NameKind}{x:Str}:∀ {binds:List (Str×Value)} {m:Str->Option Value},(∀v,(x,v)∉binds)->bindC kindOf binds m x=m x
 | [],_,_=>rfl
 | (n,v)::r,m,h=>by
  unfold bindC;rw[G' λw hw=>h w<|a2G _ hw];split;.rfl
  .have:x≠n:=by rintro rfl;show h v a2Y
   simp[this]
theorem Ha{kindOf:Str->Option NameKind}{x:Str}{v:Value}:∀ {P:List Str} {vs:List Value} {i:Nat} {m:Str->Option Value},P.Nodup->P[i]?=some x->vs[i]?=some v->kindOf x=some .local-> bindL kindOf (P.zip vs) m x=some v
 | [],_,_,_,_,h,_,_=>by simp at h
 | _::_,[],_,_,_,_,h,_=>by simp at h
 | p::P,w::vs,0,m,nd,h1,h2,hk=>by
  simp at h1 h2;subst h1;subst h2;change bindL _ ((p,w)::P.zip vs) m p=_;unfold bindL;rw[G9 λv hv=>(a3g.mp nd).1 (a5Z hv).1,if_pos hk];simp
 | p::P,w::vs,i+1,m,nd,h1,h2,hk=>by
  unfold bindL;show Ha (a3g.mp nd).2 (by simpa using h1) (by simpa using h2) hk
theorem Hb{kindOf:Str->Option NameKind}{x:Str}{v:Value}:∀ {P:List Str} {vs:List Value} {i:Nat} {m:Str->Option Value},P.Nodup->P[i]?=some x->vs[i]?=some v->kindOf x≠some .local-> bindC kindOf (P.zip vs) m x=some v
 | [],_,_,_,_,h,_,_=>by simp at h
 | _::_,[],_,_,_,_,h,_=>by simp at h
 | p::P,w::vs,0,m,nd,h1,h2,hk=>by
  simp at h1 h2;subst h1;subst h2;change bindC _ ((p,w)::P.zip vs) m p=_;unfold bindC;rw[G' λv hv=>(a3g.mp nd).1 (a5Z hv).1,if_neg hk];simp
 | p::P,w::vs,i+1,m,nd,h1,h2,hk=>by
  unfold bindC;show Hb (a3g.mp nd).2 (by simpa using h1) (by simpa using h2) hk
def start(N:List Str)(vs:List V):St:=vs.map some++List.replicate (N.length-vs.length) none
def bR(CX:gC)(P:Program)(w:World)(K:PySem.W.Frag)(mg:Str->Option Value)(base:Heap)(N:List Str)(qual:Str)(scope:Scope)(f:Addr)(cd:Value)(A:Around)(outer:List Env)(s:Shared)(H:Hp)(E:XK):Cx where
 prog:=P
 w:=w
 K:=K
 mg:=mg
 base:=base
 A:=A.deeper (envOfC qual scope s.heap.objs.size f cd)
 N:=N
 cJ:=s
 jL:=H
 env:=envOfC qual scope s.heap.objs.size f cd
 outer:=outer
 stack:=envOfC qual scope s.heap.objs.size f cd::outer
 ex:=[]
 calm:=true
 fn:=λ_=>true
 pn:=[]
 xe:=λe s'=>wpAny (model P w) (A.deeper (envOfC qual scope s.heap.objs.size f cd)) (leaving (envOfC qual scope s.heap.objs.size f cd) e) (λ_ sh=>CX outer H s E e sh) (λe' sh=>CX outer H s E e' sh) s'
def Hc{sc:Scope}(h:sc.names.lookup x=some .cell):∃c,(cellsFrom n sc.names []).lookup x=some c:=by
 have q:=PySem.W.cellsFrom_some _ n [] (.inl h);show Option.isSome_iff_exists.mp q
def Ro{K:PySem.W.Frag} (S:aI N ps scope) (hd:A.handled=none) (e0:nU P w K mg base A outer s H) (hl:vs.length=ps.length) (r:az vs us) (x:InCallC s s.heap.objs.size (bindL (envOfC qual scope s.heap.objs.size f cd).kindOf (ps.zip us) λ_=>none) (cellsFrom (s.heap.objs.size+1) scope.names []) (bindC (envOfC qual scope s.heap.objs.size f cd).kindOf (ps.zip us) λ_=>none) s1) : Inv (bR CX P w K mg base N qual scope f cd A outer s H E) [] (start N vs) H s1:=by
 have cy:ps.length<=N.length:=by have:=congrArg List.length S.pre;rw[a3a] at this;omega
 obtain⟨h1,tk,rfl,hk⟩:=x.done;have si:∀b:Addr,b∉(bR CX P w K mg base N qual scope f cd A outer s H E).ex:=λb z=>absurd (show b∈ []  from z) (by simp);show⟨⟨e0.mod,S.kind,Z,Z,a2D _,λy z c h1 h2=>?_,λy hy=>?_,λy c _ h=>?_,λ_=>hd,Around.frames_deeper e0.frames,.inr ⟨Z,Z⟩,λb z=>absurd z (si b),e0.bs,e0.iq,λb _ _=>si b,λb z=>absurd z (si b),e0.gu,e0.kB⟩, Z,e0.bare,Un.kept hk,⟨_,x.toInCall.ns,λi y v h1 h2 h3=>?_⟩,λy c h=>⟨_,x.cell y c h⟩,e0.am.fresh (a2D _),λy c h=>?_,λp hp=>absurd (show p∈ []  from hp) (by simp),e0.am.kept hk,?_⟩;.show name_of_addr x.apart (PySem.mem_of_lookup h1) (PySem.mem_of_lookup h2)
 .rcases hy with hy | hy;.show Hc hy
  .show absurd Z (S.Rn _ (PySem.mem_of_lookup hy))
 .show a4D (x.above y c (PySem.mem_of_lookup h))
 .have hi:i<vs.length:=by
   unfold start at h2;by_cases hi:i<vs.length;.show hi
   .rw[a3o (by simpa using hi)] at h2;rw[a5b] at h2;split at h2 <;> cases h2
  have ha:vs[i]?=some v:=by
   unfold start at h2;rw[a3k (by simpa using hi),a2E] at h2
   cases e:vs[i]? with
   | none=>rw[e] at h2;cases h2
   | some a=>rw[e] at h2;cases h2;rfl
  obtain⟨u,hu,rv⟩:=r.get ha;have hp:ps[i]?=some y:=by rw[<-S.pre,List.getElem?_take_of_lt (by omega)];show h1
  have Hd:ps.Nodup:=by rw[<-S.pre];show S.nd.sublist (List.take_sublist _ _)
  show⟨u,rv,?_⟩;rcases S.par y (a2A hp) with k | k;.show .inl ⟨k,Ha Hd hp hu k⟩
  .obtain⟨c,e⟩:=Hc k;show .inr ⟨.inl k,c,e,?_⟩;have q:=x.cell y c e;rw[Hb Hd hp hu (by change scope.names.lookup y≠_;rw[k];decide)] at q;show q
 .show e0.am.fresh (a4D (x.above y c (PySem.mem_of_lookup h)))
 .unfold start;change _=N.length;rw[a2O,a2x,a5o];omega
def He{K:PySem.W.Frag}{dV kV bz pm ak ct oc:Value} (lk:K.lookup f=some ⟨oc,od,.func (PySem.W.fnOf name qual params body scope dV kV bz pm an ak ct),df⟩) (gU:PySem.W.codeIn K ak qual=true) (S:aI N ps scope) (len:∀vs H Q E,sp vs H Q E->vs.length=ps.length) (sj:∀ A   outer   s   H   vs   Q   E ,bD k (A.deeper (envOfC qual scope s.heap.objs.size f ak))->sp vs H Q E-> ∃t,bQ (bR CX P w K mg base N qual scope f ak A outer s H E) body t/\t {nx:=λ_ H'=>Q .au H',rt:=Q} (start N vs) H) : av P w K mg base CX (k+1) f (PySem.W.fnOf name qual params body scope dV kV bz pm an ak ct) ps sp:=by
 show⟨len,λA outer s H args us vs Q E hr e0 hb r jW=>?_⟩;have hl:=len _ _ _ _ jW;have KX:=e0.mod.rQ.keeps λb o e=>(e0.bs b o e).1;have Rp:=e0.mod.nolimit.keeps λb o e=>(e0.bs b o e).1
 have Rq:∀y∈ps.zip us,scope.names.lookup y.1=some .local\/(scope.names.lookup y.1=some .cell/\((cellsFrom (s.heap.objs.size+1) _ []).lookup y.1).isSome=true):=λ⟨n,v⟩ hy=>by
  rcases S.par n (a5Z hy).1 with q | q;.show .inl q
  .show .inr ⟨q,PySem.W.cellsFrom_some _ _ _<|.inl q⟩
 show codeAny_call_function hr.depth (KX _ _ lk) Z S.co S.gen Z (PySem.W.codeRec_of KX gU)<|hb _ _ _ _ (wpAny_newFunctionEnv_cells S.kind Rq λenv he s1 x=>?_);subst he;show⟨Rp.keeps x.toInCall.keep,codeAny_func ?_⟩;obtain⟨t,ht,hq⟩:=sj A _ s H vs Q E (hr.deeper _) jW;have I:Inv (bR CX P w K mg _ N qual _ f ak A _ s H E) [] _ H s1:=Ro S hr.hd e0 hl r x;show wpAny_mono (ht [] s1 _ H _ I hq) (λfl s' hs=>?_) λe s' hs=>hs;have fin:∀ {aF:St} {H':Hp} {v:V} {u:Value},Inv (bR CX P w K mg base N qual scope f ak A _ s H E) [] aF H' s'->RelV v u->Q v H'->CE outer P w H s Q u s' := λ{aF H' v u} J rv q=>⟨v,H',J.os,J.bare,J.base,J.am,rv,q⟩
 cases fl with
 | ret u =>
  obtain⟨v,aF,H',J,rv,q⟩:=hs;show fin J rv q
 | next =>
  obtain⟨aF,H',J,q⟩:=hs;show fin (v:=V.au) J Z q
 | brk =>
  obtain⟨_,_,_,q⟩:=hs;show False.elim q
 | cont =>
  obtain⟨_,_,_,q⟩:=hs;show False.elim q
section
variable{p pos:Pos}{id T:String}
def vX(r:List V->Hp->VK->Prop)(t:TA):TE:=fun σ H Q=>t σ H λvs H1=>r vs H1 Q
def p_(hc:dw X (.builtin id) r)(hg:Gl X x)(hm:X.mg x=none)(hv:bootBuiltins x=some (.builtin id))(ha:PA X (e::es) t)(hn:x≠"__name__":=by decide)(fE:(x==("__debug__":Str))=false:=by decide) (he:starEach (e::es) X.env=(false,eval e X.env)::starEach es X.env:=by rfl) (cy:(backTo pos (starEach es X.env)).any (·.1)=false:=by rfl):PE X (.Call (.Name x p) (e::es) [] pos) (vX r t):=by
 show λaa s σ H Q I h=>wpAny_Call_Name_kw<|jd I hg hm hv ?_ hn fE;show PyProof.Rows.callWith_builtin1 (ar (ha pos aa s σ H _ I h) λus s1 ⟨vs,H1,I1,r1,q1⟩=>hc aa s1 σ H1 vs us Q I1 r1 q1) he cy
def G_(hc:dw X (.type T) r)(hg:Gl X x)(hm:X.mg x=none)(hv:bootBuiltins x=some (.type T))(ha:PA X (e::es) t)(hn:x≠"__name__":=by decide)(fE:(x==("__debug__":Str))=false:=by decide) (he:starEach (e::es) X.env=(false,eval e X.env)::starEach es X.env:=by rfl) (cy:(backTo pos (starEach es X.env)).any (·.1)=false:=by rfl):PE X (.Call (.Name x p) (e::es) [] pos) (vX r t):=by
 show λaa s σ H Q I h=>wpAny_Call_Name_kw<|jd I hg hm hv ?_ hn fE;show PyProof.Rows.callWith_type1 (ar (ha pos aa s σ H _ I h) λus s1 ⟨vs,H1,I1,r1,q1⟩=>hc aa s1 σ H1 vs us Q I1 r1 q1) he cy
end
end L2
namespace HT
open PySem PyProof.Rows
section
open PySem.SeqAt
open PySem.AutoSeq1 (wpAny_loadPart')
open PySem.MeetsSeq PySem.MeetsSeq2 PySem.MeetsSeq3
end
def eh(n d:Nat):Option Int->Nat
 | none=>d
 | some v=>if v<0 then (v+(n:Int)).toNat else min v.toNat n
def Hf(n d:Nat):eh n d none=d:=rfl
def vY(n d k:Nat):eh n d (some (k:Int))=min k n:=by
 change(if  k <0 then ( k +(n:Int)).toNat else min (k:Int).toNat n)=min k n;rw[if_neg (by omega),a5e]
end HT
namespace L2
open PySem PySem.Spec PyProof.Rows
abbrev TO:=St->Hp->(Option Int->Hp->Prop)->Prop
def PO(X:Cx)(e:Option Expr)(t:TO):Prop := ∀(aa:List (Addr×Obj)) (s:Shared) (σ:St) (H:Hp) (Q:Option Int->Hp->Prop),Inv X aa σ H s->t σ H Q-> wpAny (model X.prog X.w) X.A (evalPart e X.env) (λu s'=>∃o H',Inv X aa σ H' s'/\IsPart u o/\Q o H') X.xe s
def Rr:TO:=λ_ H Q=>Q none H
inductive Hg(Q:Option Int->Hp->Prop)(x:V)(H1:Hp):Prop
 | mk:∀i,(x=.int i)->(Q (some i) H1)->Hg Q x H1
def Rs(t:TE):TO:=fun σ H Q=>t σ H (Hg Q)
section
variable{lo hi:Option Expr}
def lX:PO X none Rr:=by
 intro aa s σ H Q I h;show wpAny_pure ⟨none,H,I,.none,h⟩
def iF(h:PE X e te):PO X (some e) (Rs te):=by
 intro aa s σ H Q I hw;show ar (h aa s σ H _ I hw) λu s1 ⟨x,H1,I1,r1,q1⟩=>?_;obtain⟨i,rfl,q⟩:=q1;obtain⟨t,rfl⟩:=r1;show⟨some i,H1,I1,.int i t,q⟩
def vZ(X:Cx)(r:V->Option Int->Option Int->Hp->VK->Prop):Prop := ∀(aa:List (Addr×Obj)) (s:Shared) (σ:St) (H:Hp) (x:V) (v vl vu:Value) (lo hi:Option Int) (sl:Addr) (Q:VK),Inv X aa σ H s->RelV x v->s.heap.IsSliceOf sl vl vu .none->IsPart vl lo->IsPart vu hi->r x lo hi H Q-> ∃T id,typeLookup (.type T) "__getitem__"=pure (some (.builtin id))/\s.TypeIs v T/\wpAny (model X.prog X.w) X.A (getItem v (.ref sl)) (EP X aa σ Q) X.xe s
def Rt(r:V->Option Int->Option Int->Hp->VK->Prop)(te:TE)(tl th:TO):TE:=fun σ H Q=>te σ H λx H1=>tl σ H1 λl H2=>th σ H2 λu H3=>r x l u H3 Q
def jX(hr:vZ X r)(he:PE X e te)(hl:PO X lo tl)(hu:PO X hi th):PE X (.Subscript e (.Slice lo hi none p2) pos) (Rt r te tl th):=by
 show λaa s σ H Q I h=>Subscript_<|ar (he aa s σ H _ I h) λv s1 ⟨x,H1,I1,r1,q1⟩=>?_;show wpAny_Slice<|ar (hl aa s1 σ H1 _ I1 q1) λvl s2 ⟨l,H2,I2,pl,q2⟩=>ar (hu aa s2 σ H2 _ I2 q2) λvu s3 ⟨u,H3,I3,pu,q3⟩=>?_;show wpAny_pure ?_;have I4:Inv X aa σ H3 {s3 with heap:=s3.heap.push {cls:=.type "slice",data:=.fields #[vl,vu,.none]}}:=I3.kept λb ob q=>a2y _ q;obtain⟨T,id,hT,ht,hg⟩:=hr aa {s3 with heap:=s3.heap.push {cls:=.type "slice",data:=.fields #[vl,vu,.none]}} σ H3 x v vl vu l u _ Q I4 r1 (Heap.IsSliceOf.new ..) pl pu q3;show tail_any ht hT hg<|by with_unfolding_all rfl
def fO(xs:List V)(lo hi:Option Int):List V:=(xs.drop (HT.eh xs.length 0 lo)).take (HT.eh xs.length xs.length hi-HT.eh xs.length 0 lo)
def Ru(xs:List V)(lo hi:Option Int):(fO xs lo hi).length<=xs.length:=by
 unfold fO;rw[a3a,a3c];omega
end
def fP(n:Nat)(i:Int):Option Nat:=if 0<=i then (if i<n then some i.toNat else none) else if -(n:Int)<=i then some (i+n).toNat else none
def cv{α:Type}(xs:List α)(i:Int):Option α:=(fP xs.length i).bind λj=>xs[j]?
def Hh(h:fP n i=some j):seqIndex? i n=some j/\j<n/\-(n:Int)<=i/\i<n:=by
 unfold fP at h;by_cases h0:0<=i
 .rw[if_pos h0] at h;by_cases h1:i<n
  .rw[if_pos h1] at h;have e:=a2J h;show⟨by rw[seqIndex_of h0 h1,e],by omega,by omega,h1⟩
  .rw[if_neg h1] at h;cases h
 .rw[if_neg h0] at h;by_cases h1 : - n <=i
  .rw[if_pos h1] at h;have e:=a2J h;show⟨by rw[seqIndex_neg (by omega) h1,e],by omega,h1,by omega⟩
  .rw[if_neg h1] at h;cases h
def AG{v:α}(h:cv xs i=some v):∃j,seqIndex? i xs.length=some j/\xs[j]?=some v/\j<xs.length/\-(xs.length:Int)<=i/\i<xs.length:=by
 unfold cv at h
 cases e:fP _ i with
 | none=>rw[e] at h;cases h
 | some j =>
  rw[e] at h;obtain⟨h1,h2,h3,h4⟩:=Hh e;show⟨j,h1,h,h2,h3,h4⟩
def J_{j:Nat}{v:α}(h:xs[j]?=some v):cv xs (j:Int)=some v:=by
 have hj:=(a2z.mp h).1
 have e:fP xs.length  j =some j:=by
  unfold fP;rw[if_pos (by omega),if_pos (by omega)];simp
 unfold cv;show e▸?_;show h
def AH(xs:List α)(v:α):cv (xs++[v]) (-1)=some v:=by
 have hl:(xs++[v]).length=xs.length+1:=by simp
 have e:fP (xs++[v]).length (-1)=some xs.length:=by
  unfold fP;rw[hl,if_neg (by decide),if_pos (by omega)];congr 1;omega
 unfold cv;rw[e];simp
def sk(b:Expr):Prop:=∀o i,subscripted b false o i=operate [o,i] (getItem o i)
def wb(X:Cx)(r:R2):Prop := ∀(value slice:Expr) (aa:List (Addr×Obj)) (s:Shared) (σ:St) (H:Hp) (x y:V) (v u:Value) (Q:VK),Inv X aa σ H s->RelV x v->RelV y u->r x y H Q-> subscripted slice false v u=operate [v,u] (getItem v u)->wpAny (model X.prog X.w) X.A (subscriptTail value slice v u) (EP X aa σ Q) X.xe s
def so(X:Cx)(id:String)(r:V->List V->Hp->VK->Prop):Prop := ∀(aa:List (Addr×Obj)) (s:Shared) (σ:St) (H:Hp) (x:V) (xs:List V) (v:Value) (us:List Value) (Q:VK),Inv X aa σ H s->RelV x v->az xs us->r x xs H Q-> wpAny (model X.prog X.w) X.A (call (.builtin id) (v::us)) (EP X aa σ Q) X.xe s
section
def sr(hr:wb X r)(ha:PE X a ta)(hb:PE X b tb)(hs:sk b):PE X (.Subscript a b pos) (iD r ta tb):=by show λaa s σ H Q I h=>Subscript_<|Ay ha hb I h λv u s2 x y H2 I2 rx ry q=>hr a b aa s2 σ H2 x y v u Q I2 rx ry q<|hs _ _
inductive qc(K:PySem.W.Frag)(x:V)(y:V)(H:Hp)(Q:VK):Prop
 | mk:∀p xs i v,(x=.ref p)->(y=.int i)->(ag K H p xs)->(cv xs i=some v)->(Q v H)->qc K x y H Q
inductive ss(K:PySem.W.Frag)(x:V)(y:V)(H:Hp)(Q:VK):Prop
 | mk:∀p xs i v,(x=.ref p)->(y=.int i)->(aP K H p xs)->(cv xs i=some v)->(Q v H)->ss K x y H Q
inductive Hi(x:V)(y:V)(H:Hp)(Q:VK):Prop
 | mk:∀z i c,(x=.str z)->(y=.int i)->(z.length<=sizeLine)->(cv z.cps.toList i=some c)->(Q (.str ⟨#[c]⟩) H)->Hi x y H Q
def Rv:wb X (qc X.K):=by
 intro value slice aa s σ H x y v u Q I rx ry h hs;obtain⟨p,xs,i,z,rfl,rfl,hq,he,q⟩:=h;cases rx;obtain⟨t,rfl⟩:=ry;obtain⟨af,r,pl,hz⟩:=I.list hq;obtain⟨j,h1,h2,h3,h4,h5⟩:=AG he;obtain⟨w,ew,cR⟩:=r.get h2;have hl:=r.length;have hn:=p9;have fin:EP X aa σ Q w s:=⟨z,H,I,cR,q⟩;by_cases h0:0<=i
 .have hj:i.toNat=j:=by
   rw[seqIndex_of h0 h5] at h1;show a2J h1
  show item_listR pl.isList h0 (by omega) (by rw[hj];simpa using ew) fin hs
 .have hj:(i+(af.toArray.size)).toNat=j:=by
   rw[seqIndex_neg (by omega) h4] at h1;rw[a2S,<-hl];show a2J h1
  show subscriptTail_builtinR pl.isList.typeIs slot_list_getitem.lookup (wpAny_getItem_list_neg pl.isList (by omega) (by rw[a2S] <;> omega) (by omega) (by rw[hj];simpa using ew) ⟨Z,fin⟩) hs
def Rw:wb X (ss X.K):=by
 intro value slice aa s σ H x y v u Q I rx ry h hs;obtain⟨p,xs,i,z,rfl,rfl,hq,he,q⟩:=h;cases rx;obtain⟨t,rfl⟩:=ry;obtain⟨af,r,pl,hz⟩:=I.tuple hq;obtain⟨j,h1,h2,h3,h4,h5⟩:=AG he;obtain⟨w,ew,cR⟩:=r.get h2;have hl:=r.length;have hn:=p9;have fin:EP X aa σ Q w s:=⟨z,H,I,cR,q⟩;show subscriptTail_builtinR pl.typeIs slot_tuple_getitem.lookup (getItem_tuple pl (by omega) (by omega) (by rw[a2S,<-hl];show h1) (by simpa using ew) ⟨Z,fin⟩) hs
def AI:wb X Hi:=by
 intro value slice aa s σ H x y v u Q I rx ry h hs;obtain⟨z,i,c,rfl,rfl,hz,he,q⟩:=h;obtain⟨t,rfl⟩:=rx;obtain⟨t',rfl⟩:=ry;obtain⟨j,h1,h2,h3,h4,h5⟩:=AG he;have hl:z.cps.toList.length=z.length:=by simp[Str.length]
 rw[hl] at h1 h4 h5;have hn:=p9;show tail_any (typeIs_str s z t) slot_str_getitem.lookup (getItem_str (by grind) (by rw[h1];simpa using h2) ⟨.str ⟨#[c]⟩,H,I.tok _,⟨_,Z⟩,q⟩) hs
def Rx(af:List Value)(n j:Nat)(u:Value):Obj.mapSeq (·.setIfInBounds j u) {cls:=.type "list",data:=.seq af.toArray n}={cls:=.type "list",data:=.seq (af.set j u).toArray n}:=by simp[Obj.mapSeq]
theorem Inv.lst{σ:St}(I:Inv X aa σ H s)(h:H p=some (.lst xs)) : ∃af n,az xs af/\s.heap.get? p=some {cls:=.type "list",data:=.seq af.toArray n}/\xs.length<=sizeLine:=by
 obtain⟨z,af,n,r,e⟩:=I.am p _ h;show⟨af,n,r,e,z⟩
def Inv.Ry{σ:St}{af its':List Value}(I:Inv X aa σ H s)(h:H p=some (.lst xs)) (ho:s.heap.get? p=some {cls:=.type "list",data:=.seq af.toArray n}) (hf:f {cls:=.type "list",data:=.seq af.toArray n}={cls:=.type "list",data:=.seq its'.toArray n'}) (r:az ys its') (hz:ys.length<=sizeLine) (t:Nat) : Inv X aa σ (ad H p (.lst ys)) {s with heap:=s.heap.update p f,toks:=t}:=by
 have e:(s.heap.update p f).get? p=some {cls:=.type "list",data:=.seq its'.toArray n'}:=by rw[a3Y f ho (by rw[hf] <;> rfl),hf]
 show I.write (by rw[h];trivial) (.inl Z) (λb u hb q=>(a3r _ _<|Ne.symm hb).trans q) ⟨_,e⟩ ⟨hz,its',n',r,e⟩
inductive Hj(o:V)(i:V)(v:V)(H:Hp)(Q:Hp->Prop):Prop
 | mk:∀p xs k j,(o=.ref p)->(i=.int k)->(H p=some (.lst xs))->(fP xs.length k=some j)->(Q (ad H p (.lst (xs.set j v))))->Hj o i v H Q
def nV:Gw X Hj:=by
 intro aa s σ H o i v ov iv u Q I ro ri rv h;obtain⟨p,xs,k,j,rfl,rfl,hp,hj,q⟩:=h;cases ro;obtain⟨t,rfl⟩:=ri;obtain⟨af,n,r,ho,hz⟩:=I.lst hp;obtain⟨h1,h2,h3,h4⟩:=Hh hj;have hl:=r.length;have hn:=p9;have I':Inv X aa σ _ {s with heap:=s.heap.update p _} := I.Ry hp ho (Rx af n j u) (r.set rv j) (by rw[a4V];show hz) _;by_cases h0:0<=k
 .have hk:k.toNat=j:=by
   rw[seqIndex_of h0 h4] at h1;show a2J h1
  show PySem.W.ki_setAt ho h0 (by omega) (by rw[a2S,<-hl];show h4)<|by rw[hk];show⟨_,I',q⟩
 .have hk:(k+(af.toArray.size)).toNat=j:=by
   rw[seqIndex_neg (by omega) h3] at h1;rw[a2S,<-hl];show a2J h1
  show PySem.W.ki_setBack ho (by omega) (by rw[a2S,<-hl];show h3) (by omega)<|by rw[hk];show⟨_,I',q⟩
def Rz(lo hi:Option Int)(n:Nat):(sliceBounds lo hi none n).1=((HT.eh n 0 lo:Nat):Int)/\(sliceBounds lo hi none n).2.1=((HT.eh n n hi:Nat):Int)/\(sliceBounds lo hi none n).2.2=1:=by
 show⟨?_,?_,Z⟩
 .cases lo with
  | none=>simp[sliceBounds,HT.eh]
  | some i =>
   simp only[sliceBounds,HT.eh,Option.getD_none,show(1:Int)>0 by decide,if_true];by_cases h:i<0;.simp only[h,if_true] <;> omega
   .simp only[h,if_false] <;> omega
 .cases hi with
  | none=>simp[sliceBounds,HT.eh]
  | some i =>
   simp only[sliceBounds,HT.eh,Option.getD_none,show(1:Int)>0 by decide,if_true];by_cases h:i<0;.simp only[h,if_true] <;> omega
   .simp only[h,if_false] <;> omega
def RA(af:List Value)(lo hi:Option Int):slicePick af.toArray lo hi none=((af.drop (HT.eh af.length 0 lo)).take (HT.eh af.length af.length hi-HT.eh af.length 0 lo)).toArray:=by
 obtain⟨h1,h2,h3⟩:=Rz lo hi _;unfold slicePick;rw[h1,h2,h3];simp only[sliceRange_one,pick_run,a2S] <;> rfl
inductive AJ(K:PySem.W.Frag)(x:V)(lo:Option Int)(hi:Option Int)(H:Hp)(Q:VK):Prop
 | mk:∀a xs,(x=.ref a)->(ag K H a xs)->(∀p,H p=none->Q (.ref p) (ad H p (.lst (fO xs lo hi))))->AJ K x lo hi H Q
def wc:vZ X (AJ X.K):=by
 intro aa s σ H x v vl vu lo hi sl Q I rx hs pl pu h;obtain⟨a,xs,rfl,hx,q⟩:=h;cases rx;obtain⟨af,r,ht,hz⟩:=I.list hx;have bE:=r.length;show⟨"list",_,slot_list_getitem.lookup,ht.isList.typeIs,(wpAny_getItem_list_slice ht.isList hs pl pu .none (by simp) ?_ (by rw[a2S] <;> omega))⟩;rw[RA,<-bE];show⟨.ref _,_,I.laid (o:=.lst _) (λb ob q=>a2y _ q) (a2D _) ⟨a2U (Ru xs lo hi) hz,_,0,(r.drop (HT.eh xs.length 0 lo)).take (HT.eh xs.length xs.length hi-HT.eh xs.length 0 lo),a2F _ Z⟩,Z,q _<|I.am.fresh<|a2D _⟩
def kQ:V->Bool
 | .au=>true
 | .bl _=>true
 | .int _=>true
 | .str _=>true
 | _=>false
def lY:V->V->Bool
 | .au,.au=>true
 | .bl a,.bl b=>a==b
 | .bl a,.int b=>(if a then 1 else 0)==b
 | .int a,.bl b=>a==(if b then 1 else 0)
 | .int a,.int b=>a==b
 | .str a,.str b=>a==b
 | _,_=>false
def RB(ry:RelV y u)(rx:RelV x v)(fy:kQ y=true)(fx:kQ x=true):SeqAt.EqAt A s u v (lY y x):=by
 cases y with
 | au =>
  cases ry
  cases x with
  | au=>cases rx;show SeqAt.EqAt.same _
  | bl b=>cases rx;show SeqAt.EqAt.none_bool b
  | int b=>obtain⟨t,rfl⟩:=rx;show SeqAt.EqAt.none_int b t
  | str b=>obtain⟨t,rfl⟩:=rx;show SeqAt.EqAt.none_str b t
  | _=>show absurd (show false=true from fx) a2R
 | bl a =>
  cases ry
  cases x with
  | au=>cases rx;show SeqAt.EqAt.bool_none a
  | bl b=>cases rx;show SeqAt.EqAt.bool_bool a b
  | int b=>obtain⟨t,rfl⟩:=rx;show SeqAt.EqAt.bool_int a b t
  | str b=>obtain⟨t,rfl⟩:=rx;show SeqAt.EqAt.bool_str a b t
  | _=>show absurd (show false=true from fx) a2R
 | int a =>
  obtain⟨t',rfl⟩:=ry
  cases x with
  | au=>cases rx;show SeqAt.EqAt.int_none a t'
  | bl b=>cases rx;show SeqAt.EqAt.int_bool a t' b
  | int b=>obtain⟨t,rfl⟩:=rx;show SeqAt.EqAt.int_int a t' b t
  | str b=>obtain⟨t,rfl⟩:=rx;show SeqAt.EqAt.int_str a t' b t
  | _=>show absurd (show false=true from fx) a2R
 | str a =>
  obtain⟨t',rfl⟩:=ry
  cases x with
  | au=>cases rx;show SeqAt.EqAt.str_none a t'
  | bl b=>cases rx;show SeqAt.EqAt.str_bool a t' b
  | int b=>obtain⟨t,rfl⟩:=rx;show SeqAt.EqAt.str_int a t' b t
  | str b=>obtain⟨t,rfl⟩:=rx;show SeqAt.EqAt.str_str a t' b t
  | _=>show absurd (show false=true from fx) a2R
 | _=>show absurd (show false=true from fy) a2R
def kR(x:V)(u:Value):Bool:=match u with
 | .none=>lY .au x
 | .bool b=>lY (.bl b) x
 | .int i _=>lY (.int i) x
 | .str z _=>lY (.str z) x
 | _=>false
def Hk(r:RelV y u)(f:kQ y=true):kR x u=lY y x:=by
 cases y with
 | au=>cases r;rfl
 | bl b=>cases r;rfl
 | int i=>obtain⟨t,rfl⟩:=r;rfl
 | str z=>obtain⟨t,rfl⟩:=r;rfl
 | _=>show absurd (show false=true from f) a2R
theorem AK{x:V}:∀ {xs:List V} {us:List Value},az xs us->xs.all kQ=true->us.any (kR x)=xs.any λy=>lY y x
 | _,_,.nil,_=>rfl
 | y::xs,u::us,.cons r t,f=>by
  rw[a3x,a2H] at f;rw[a4H,a4H,Hk r f.1,AK t f.2]
theorem AL{A:Around}{s:Shared}{x:V}{v:Value}(rx:RelV x v)(fx:kQ x=true):∀ {xs:List V} {us:List Value},az xs us->xs.all kQ=true->∀u∈us,SeqAt.EqAt A s u v (kR x u)
 | _,_,.nil,_=>λu hu=>by cases hu
 | y::xs,u::us,.cons r t,f=>λu' hu=>by
  rw[a3x,a2H] at f;rcases a2B.mp hu with rfl | hu;.rw[Hk r f.1];show RB r rx f.1 fx
  .show AL rx fx t f.2 u' hu
def wd(x:V)(xs:List V):Bool:=xs.any λy=>lY y x
inductive Hl(K:PySem.W.Frag)(neg:Bool)(x:V)(y:V)(H:Hp)(Q:VK):Prop
 | mk:∀p xs,(y=.ref p)->((ag K H p xs\/aP K H p xs))->(kQ x=true)->(xs.all kQ=true)->(Q (.bl (if neg then !wd x xs else wd x xs)) H)->Hl K neg x y H Q
def RC:cu X (compareOp .In) (Hl X.K false):=by
 intro aa s σ H x y v u Q I rx ry h;obtain⟨p,xs,rfl,hq,fx,fs,q⟩:=h;cases ry;rcases hq with hq | hq
 .obtain⟨af,r,pl,hz⟩:=I.list hq;show SeqAt.in_listAt _ pl.isList (λw hw=>AL rx fx r fs w<|by simpa using hw) ⟨.bl _,H,I,Z,?_⟩;rw[show af.toArray.any _=af.any (kR x) by simp,AK r fs];show q
 .obtain⟨af,r,pl,hz⟩:=I.tuple hq;show SeqAt.in_tupleAt _ pl (λw hw=>AL rx fx r fs w<|by simpa using hw) ⟨.bl _,H,I,Z,?_⟩;rw[show af.toArray.any _=af.any (kR x) by simp,AK r fs];show q
def AM:dw X (.builtin "len") (λxs H Q=>∃p ys,xs=[.ref p]/\(ag X.K H p ys\/aP X.K H p ys)/\Q (.int ys.length) H):=by
 intro aa s σ H xs us Q I r h;obtain⟨p,ys,rfl,hq,q⟩:=h;obtain⟨u,rfl,rx⟩:=vals1 r;cases rx;have hn:=p9;rcases hq with hq | hq
 .obtain⟨af,r',pl,hz⟩:=I.list hq;have bE:=r'.length;show Calls.call_len_list pl.isList (by simp only[a2S] <;> omega) ⟨.int _,H,I.tok _,⟨s.toks+1,by rw[a2S,bE]⟩,q⟩
 .obtain⟨af,r',pl,hz⟩:=I.tuple hq;have bE:=r'.length;show len_tuple pl (by simp only[a2S] <;> omega) ⟨.int _,H,I.tok _,⟨s.toks+1,by rw[a2S,bE]⟩,q⟩
def RE:dw X (.builtin "len") (λxs H Q=>∃z,xs=[.str z]/\z.length<=sizeLine/\Q (.int z.length) H):=by
 intro aa s σ H xs us Q I r h;obtain⟨z,rfl,hz,q⟩:=h;obtain⟨u,rfl,t,rfl⟩:=vals1 r;have hn:=p9;show len_str (by omega) ⟨.int _,H,I.tok _,⟨_,Z⟩,q⟩
def Hm:dw X (.type "list") (λxs H Q=>∃p ys,xs=[.ref p]/\(ag X.K H p ys\/aP X.K H p ys)/\∀l,H l=none->Q (.ref l) (ad H l (.lst ys))):=by
 intro aa s σ H xs us Q I r h;obtain⟨p,ys,rfl,hq,q⟩:=h;obtain⟨u,rfl,rx⟩:=vals1 r;cases rx;have fin:∀ af ,az ys af->ys.length<=sizeLine->∀ h'   c' ,(∀b o',s.heap.get? b=some o'->h'.get? b=some o')-> h'.get? s.heap.objs.size=some {cls:=.type "list",dict:=none,data:=.seq af.toArray c',slots:=#[]}->EP X aa σ Q _ {s with heap:=h'}:=λaf r' hz h' c' kp e => ⟨.ref _,_,I.laid kp (a2D _) (show cr _ X.w _ h' _ (.lst ys) from⟨hz,af,c',r',e⟩),Z,q _<|I.am.fresh<|a2D _⟩;rcases hq with hq | hq
 .obtain⟨af,r',pl,hz⟩:=I.list hq;have bE:=r'.length;obtain⟨o,ho,hc,n,hd⟩:=pl.isList;show call_list_seq p (.inl Z) ho hc hd (λh' c' kp e=>fin af r' hz h' c' kp e)<|by simp only[a2S] <;> omega
 .obtain⟨af,r',pl,hz⟩:=I.tuple hq;have bE:=r'.length;obtain⟨o,ho,hc,n,hd⟩:=pl;show call_list_seq p (.inr Z) ho hc hd (λh' c' kp e=>fin af r' hz h' c' kp e)<|by simp only[a2S] <;> omega
def Hn(K:PySem.W.Frag)(T:String)(x:V)(H:Hp):Prop:=match x with
 | .str _=>T="str"
 | .int _=>T="int"
 | .ref p=>(T="list"/\∃xs,ag K H p xs)\/(T="tuple"/\∃o,K.lookup p=some o/\o.cls=.type "tuple"/\o.dict=none)\/
   (T="dict"/\((∃kvs,H p=some (.dK kvs))\/∃kvs,H p=some (.dT kvs)))\/(T="set"/\∃S n,H p=some (.set S n))
 | _=>False
def RF{σ:St}(I:Inv X aa σ H s)(r:RelV x v)(ty:Hn X.K T x H) : s.TypeIs v T/\∀a,v=.ref a->∃ob,s.heap.get? a=some ob/\ob.dict=none:=by
 cases x with
 | str z =>
  obtain⟨t,rfl⟩:=r;cases (show T="str" from ty);show⟨typeIs_str s z t,λ_ e=>nomatch e⟩
 | int i =>
  obtain⟨t,rfl⟩:=r;cases (show T="int" from ty);show⟨typeIs_int s i t,λ_ e=>nomatch e⟩
 | ref p =>
  cases r;rcases ty with⟨rfl,xs,hq⟩ | ⟨rfl,o,hk,hc,hd⟩ | ⟨rfl,hk⟩ | ⟨rfl,S,n,hk⟩
  .obtain⟨af,_,pl,_⟩:=I.list hq;show⟨pl.isList.typeIs,λa e=>?_⟩;cases e;obtain⟨o,n,e,c,hd,_⟩:=pl;show⟨o,e,hd⟩
  .show⟨⟨o,I.cb p o hk,hc⟩,λa e=>?_⟩;cases e;show⟨o,I.cb _ o hk,hd⟩
  .have z:∃o,s.heap.get? p=some o/\o.ExactDict:=by
    rcases hk with⟨kvs,hk⟩ | ⟨kvs,hk⟩
    .obtain⟨_,_,_,_,o,_,_,e,ex,_⟩:=I.am p _ hk;show⟨o,e,ex⟩
    .obtain⟨_,_,_,_,o,_,_,e,ex,_⟩:=I.am p _ hk;show⟨o,e,ex⟩
   obtain⟨o,e,ex⟩:=z;show⟨⟨o,e,ex.1⟩,λa e2=>?_⟩;cases e2;show⟨o,e,ex.2.1⟩
  .obtain⟨o,_,_,_,e,ex,_⟩:=I.am p _ hk;show⟨⟨o,e,ex.1⟩,λa e2=>?_⟩;cases e2;show⟨o,e,ex.2.1⟩
 | _=>show False.elim ty
def qd(K:PySem.W.Frag)(T:String)(r:V->List V->Hp->VK->Prop)(to:TE)(t:TA):TE:=fun σ H Q=>to σ H λx H1=>Hn K T x H1/\t σ H1 λxs H2=>r x xs H2 Q
variable{bo cK:Pos}{T id:String}
def dh(pa:PlainAttrs T)(slot:Slot T name id)(RG:typeOf (.builtin id)=pure (.type "method_descriptor"))(hm:so X id r)(ho:PE X o to)(ha:PA X (e::es) t) (su:attributeBase o name X.env (eval o X.env)=eval o X.env:=by rfl) (RH:((backTo cK (starEach (e::es) X.env)).all (λx=>!x.1)&&(backToKw cK (keywordEach [] X.env)).all (λx=>x.1.isSome) && decide ((e::es).length+([]:List Keyword).length+(if ([]:List Keyword).isEmpty then 0 else 1)<30))=true:=by rfl) (hline:(bo.endLine==cK.line)=true:=by rfl) (hs:starEach (e::es) X.env=(false,eval e X.env)::starEach es X.env:=by rfl) (RI:(backTo cK (starEach es X.env)).any (·.1)=false:=by rfl) : PE X (.Call (.Attribute o name bo) (e::es) [] cK) (qd X.K T r to t):=by
 show λaa s σ H Q I h=>wpAny_Call_method_late su RH hline Z<|ar (ho aa s σ H _ I h) λv s1 ⟨x,H1,I1,r1,ty,q1⟩=>?_;obtain⟨h1,h2⟩:=RF I1 r1 ty;show⟨T,id,pa,slot,RG,h1,h2,?_⟩;have hA:=ha cK aa s1 σ H1 _ I1 q1;rw[hs] at hA⊢;show Calls.callWith_builtin (by change(false || (backTo cK<|starEach es _).any _)=false;rw[RI] <;> rfl)<|Calls.evalArgs_plain (ar hA λus s2 ⟨vs,H2,I2,r2,q2⟩=>hm aa s2 σ H2 x vs v us Q I2 r1 r2 q2)
end
def we(X:Cx)(id:String)(r:V->List V->Hp->VK->Prop):Prop := ∀(aa:List (Addr×Obj)) (s:Shared) (σ:St) (H:Hp) (x:V) (xs:List V) (v:Value) (us:List Value) (Q:VK),Inv X aa σ H s->RelV x v->az xs us->r x xs H Q-> wpAny (model X.prog X.w) X.A (call (.builtin id) (v::us)) (EP X aa σ Q) X.xe s
def az.one:∀ {x:V} {us:List Value},az [x] us->∃u,us=[u]/\RelV x u
 | _,_,.cons r .nil=>⟨_,Z,r⟩
def az.two:∀ {x y:V} {us:List Value},az [x,y] us->∃u v,us=[u,v]/\RelV x u/\RelV y v
 | _,_,_,.cons r (.cons q .nil)=>⟨_,_,Z,r,q⟩
theorem az.reverse(h:az xs us):az xs.reverse us.reverse:=by
 induction h with
 | nil=>show .nil
 | cons r t ih=>rw[List.reverse_cons,List.reverse_cons];show az.append ih<|.cons r .nil
theorem az.rep{xs:List V}{us:List Value}(h:az xs us):∀k:Nat,az (List.replicate k xs).flatten (List.replicate k us).flatten
 | 0=>.nil
 | k+1=>by
  show az.append h<|az.rep h k
theorem Ho(af:List Value):∀(k:Nat) (acc:List Value), List.foldl (λx1 x2=>x1++x2) acc.toArray (List.replicate k af.toArray)=(acc++(List.replicate k af).flatten).toArray
 | 0,acc=>by simp
 | k+1,acc=>by
  have e:acc.toArray++af.toArray=(acc++af).toArray:=by simp
  have e2:(acc++af)++(List.replicate k af).flatten=acc++(List.replicate (k+1) af).flatten:=by rw[a4y,a5f,a3l]
  rw[<-e2,<-Ho af k _,<-e,a4y,a2W]
section
variable{σ:St}
def Inv.Hq{af its':List Value}(I:Inv X aa σ H s)(hH:H l=some (.lst xs)) (e:s.heap.get? l=some {cls:=.type "list",data:=.seq af.toArray n}) (hf:f af.toArray=its'.toArray) (hv:az ys its') (hz:ys.length<=sizeLine) : Inv X aa σ (ad H l (.lst ys)) {s with heap:=s.heap.update l (Obj.mapSeq f),toks:=t'}:=by
 have q:=PySem.IsL.update e f;rw[hf] at q;show I.write (by rw[hH];show trivial) (.inl Z) (λb' u hb hu=>(a3r _ _<|Ne.symm hb).trans hu) ⟨_,q⟩ ⟨hz,its',_,hv,q⟩
def Inv.Hr(I:Inv X aa σ H s)(hv:az ys af)(hz:ys.length<=sizeLine) : Inv X aa σ (ad H s.heap.objs.size (.lst ys)) {s with heap:=s.heap.push {cls:=.type "list",data:=.seq af.toArray},toks:=t'} := I.laid (λ_ _ q=>a2y _ q) (a2D _) ⟨hz,af,0,hv,a2F _ Z⟩
theorem Inv.fresh(I:Inv X aa σ H s):H s.heap.objs.size=none:=I.am.fresh (a2D _)
def Inv.lZ(I:Inv X aa σ H s)(hH:H l=some (.lst xs)):xs.length<=sizeLine/\∃af n,az xs af/\xs.length=af.length/\s.heap.get? l=some {cls:=.type "list",data:=.seq af.toArray n}:=by
 obtain⟨z,af,n,r,e⟩:=I.am l _ hH;show⟨z,af,n,r,r.length,e⟩
def Ht(h:n<=sizeLine):Builtin.List.listTooLong n=false:=by show decide_eq_false<|by omega
end
inductive sv(x:V)(vs:List V)(H:Hp)(Q:VK):Prop
 | mk:∀l xs y,(x=.ref l)->(vs=[y])->(H l=some (.lst xs))->(xs.length<sizeLine)->(Q .au (ad H l (.lst (xs++[y]))))->sv x vs H Q
def kS:we X "list.append" sv:=by
 intro aa s σ H x vs v us Q I rx rv h;obtain⟨l,xs,y,rfl,rfl,hH,hz,q⟩:=h;cases rx;obtain⟨u,rfl,ru⟩:=rv.one;obtain⟨z,af,n,r,hl,e⟩:=I.lZ hH;show call_meets F.slot_list_append ⟨_,e,Z⟩ F.entry_list_append (F.args_list_append_2 _ _) (PySem.list_append l _ n u<|by rw[a2S];omega) ⟨e,⟨.au,_,I.Hq (its':=af++[u]) hH e (by simp) (r.append (.cons ru .nil)) ?_,Z,q⟩⟩;rw[a2O,a4J];omega
inductive Hu(x:V)(vs:List V)(H:Hp)(Q:VK):Prop
 | mk:∀l b xs zs,(x=.ref l)->(vs=[.ref b])->(H l=some (.lst xs))->(H b=some (.lst zs))->(xs.length+zs.length<=sizeLine)->(Q .au (ad H l (.lst (xs++zs))))->Hu x vs H Q
def a2f:we X "list.extend" Hu:=by
 intro aa s σ H x vs v us Q I rx rv h;obtain⟨l,b,xs,zs,rfl,rfl,hH,hB,hz,q⟩:=h;cases rx;obtain⟨u,rfl,ru⟩:=rv.one;cases ru;obtain⟨z,af,n,r,hl,e⟩:=I.lZ hH;obtain⟨z2,mf,n2,r2,aS,e2⟩:=I.lZ hB;have hsz:af.toArray.size+mf.toArray.size<=sizeLine:=by rw[a2S,a2S];omega
 have AN:¬ (!af.toArray.isEmpty&&Builtin.List.listTooLong (af.toArray.size+mf.toArray.size))=true:=by
  rw[Ht hsz,Bool.and_false];show a2R
 show call_meets F.slot_list_extend ⟨_,e,Z⟩ F.entry_list_extend (F.args_list_extend_2 _ _) (AutoSeq1.list_extend_list_list_0 l _ n b _ n2 AN (by rw[a2S];omega)<|by omega) ⟨e,e2,⟨.au,_,I.Hq (its':=af++mf) hH e (by simp) (r.append r2) ?_,Z,q⟩⟩;rw[a2O];omega
inductive Hw(x:V)(y:V)(H:Hp)(Q:VK):Prop
 | mk:∀l b xs zs,(x=.ref l)->(y=.ref b)->(H l=some (.lst xs))->(H b=some (.lst zs))->(xs.length+zs.length<=sizeLine)->(∀p,H p=none->Q (.ref p) (ad H p (.lst (xs++zs))))->Hw x y H Q
def gY:cu X (binaryOp .Add) Hw:=by
 intro aa s σ H x y v u Q I rx ry h;obtain⟨l,b,xs,zs,rfl,rfl,hH,hB,hz,q⟩:=h;cases rx;cases ry;obtain⟨z,af,n,r,hl,e⟩:=I.lZ hH;obtain⟨z2,mf,n2,r2,aS,e2⟩:=I.lZ hB;show PySem.P.add_list e e2 ?_<|by rw[a2S,a2S];omega
 have ea:af.toArray++mf.toArray=(af++mf).toArray:=by simp
 show ea▸?_;show⟨.ref _,_,I.Hr (r.append r2)<|by rw[a2O];omega,Z,q _ I.fresh⟩
inductive AO(x:V)(y:V)(H:Hp)(Q:VK):Prop
 | mk:∀l k xs,(x=.ref l)->(y=.int k)->(H l=some (.lst xs))->(-(2 ^ 63)<=k)->(k<2 ^ 63)->(xs.length*k.toNat<=sizeLine)->(∀p,H p=none->Q (.ref p) (ad H p (.lst (List.replicate k.toNat xs).flatten)))->AO x y H Q
def RJ{α:Type}(xs:List α)(k:Nat):(List.replicate k xs).flatten.length=k*xs.length:=by simp
def RK:cu X (binaryOp .Mult) AO:=by
 intro aa s σ H x y v u Q I rx ry h;obtain⟨l,k,xs,rfl,rfl,hH,h1,h2,hz,q⟩:=h;cases rx;obtain⟨t,rfl⟩:=ry;obtain⟨z,af,n,r,hl,e⟩:=I.lZ hH;have bE:af.toArray.size*k.toNat<=sizeLine:=by rw[a2S,<-hl];show hz
 have RL:¬ af.toArray.size*k.toNat>(2 ^ 63-1) / 8:=by
  have: sizeLine <=(2 ^ 63-1) / 8:=by decide
  omega
 have RM:¬ (!Builtin.List.listFitsIndex k)=true:=by
  rw[fitsIndex_both h1 h2];show a2R
 have AN:¬ Builtin.List.listTooLong (af.toArray.size*k.toNat)=true:=by
  rw[Ht bE];show a2R
 have mh:List.foldl (λx1 x2=>x1++x2) #[] (List.replicate (if af.toArray.isEmpty=true then 0 else k.toNat) af.toArray)=(List.replicate k.toNat af).flatten.toArray:=by
  have f0:=λm=>by
   have:=Ho af m [];rw[a5B] at this;show this
  rw[f0]
  cases af with
  | nil=>simp
  | cons a r'=>rw[if_neg (by simp)]
 show wpAny_binaryOp_repeat_ref (by decide) ⟨_,e,Z⟩ (λs'=>typeIs_int s' k t) noFill_list_mul F.fills_int_mul F.slot_int_rmul repeat_list F.slot_int_index.lookup <|call_meets F.slot_int_rmul (typeIs_int s k t) F.entry_int_rmul (F.args_int_rmul_2 _ _) (int___rmul___int_list k t l _ n) ⟨e,Z,⟨_,e,Z⟩,call_meets F.slot_list_mul ⟨_,e,Z⟩ F.entry_list_mul (F.args_list_mul_2 _ _) (AutoListH.list___mul___list_int_3 l _ n k t RM RL AN) ⟨e,?_⟩⟩;rw[mh];show⟨.ref _,_,I.Hr (r.rep _)<|by rw[RJ,a3N];show hz,Z,q _ I.fresh⟩
end L2
namespace Att
open PySem PySem.W PySem.Calls PyProof.Rows
def RN:∀ ns   vs ,WellAll P h vs (ns.map WData.int)->IntsAre vs ns:=by
 intro ns
 induction ns with
 | nil =>
  intro vs w;cases w;show .nil
 | cons n ns ih =>
  intro vs w
  cases w with
  | cons a b =>
   cases a;show .cons _ _<|ih _ b
def RO{l:OpenLaw}(hn:l.most=some n) (wf:l.row.toRowW.claim.pre args=true) (iG:WellAll P h AQ args) : ∃a vs ns,AQ=[Value.ref a]/\args=[WData.list (ns.map WData.int)]/\h.get? a=some {cls:=.type "list",data:=.seq vs.toArray}/\IntsAre vs ns/\ns.length<=n:=by
 have nW:=(pre_splitW wf).1;have hc:=(pre_splitW wf).2;obtain⟨d,r,rfl,h1,h2⟩:=hasAllW_cons nW;obtain rfl:=hasAllW_nil h2;obtain⟨xs,rfl,h3⟩:=hasW_list h1;obtain⟨ns,rfl⟩:=items_int h3
 have bE:ns.length<=n:=by
  have h4:(WTm.not<|.lt (.lit<|.int  n )<|.len<|.arg 0).holds [] {args:=[.list (ns.map .int)]}=true:=by
   have h4:=(holds_andW hc).1;rw[hn] at h4;show h4
  have h5:=condW_of h4 (w_not<|w_lt w_lit<|w_len_list<|w_arg Z);rw[a2x] at h5;show Nat.le_of_not_lt λq=>?_;first | grind | (omega)
 cases iG with
 | cons w1 w2 =>
  cases w2
  cases w1 with
  | list ho dX=>show⟨_,_,ns,Z,Z,ho,RN ns _ dX,bE⟩
def RP(l:OpenLaw)(args:List WData):l.row.toRowW.claim.post args (.bool true) args=true := postW_of (show WShape.has [] _ .bool=true by first | rfl | decide | grind) (show(WTm.eq .res<|.lit<|.bool _).value [] {args:=args,res:=some _,after:=args}=some _ from w_eq_bool (w_res Z) w_lit) Z
def RQ{l:OpenLaw} (hn:l.most=some n) (sw:d.params.defaults=[]) (call:∀ w   cJ bf   mg mb   fa   o   pm cd bz   a   vs   ns , Ground q qe [] XP w cJ mg mb bf.heap->YP w bf.heap-> bf.heap.get? fa=some o->o.data=.func (docDef d.name d.params d.body d.scope pm cd bz)->bf.heap.CodeRec cd d.name->mg d.name=some (.ref fa)-> bf.heap.get? a=some {cls:=.type "list",data:=.seq vs.toArray}->IntsAre vs ns->ns.length<=n->bf.gens=#[]-> codeAny (model l.prog w) callerA (.call (.ref fa) ⟨[.ref a],[]⟩) (λr s'=>r=.ok (.ret (.bool true))/\OldK bf.heap s'.heap/\s'.os=bf.os/\AllBare s'.gens) bf) : WalkO q qe XP YP l.row.toRowW d [] (λf vs=>PySem.call f vs):=by
 intro w cJ bf mg mb G Y fa o pm cd bz dV kV ho hd gU hD sA hg args AQ as wf a2g hrd iG qf;obtain rfl:dV=.none:=Dflts.none hD sw;obtain rfl:kV=.none:=Dflts.noKw hD;obtain⟨a,vs,ns,rfl,rfl,AR,AS,bE⟩:=RO hn wf iG;show enter_call<|codeAny_mono (call w cJ bf mg mb fa o pm cd bz a vs ns G Y ho (fd_plain hd) gU sA AR AS bE hg) λr s' hq=>?_;obtain⟨rfl,h2,h3,h4⟩:=hq;show⟨.inl ⟨.bool _,.bool _,[],Z,λ_=>rfl,.bool _,RP l _,λ_=>⟨List.Pairwise.nil,λ_ hm=>(nomatch hm)⟩⟩,h2,h3,h4⟩
def a2h(h:Heap)(L d:Addr):List (Addr×Obj):=(List.range h.objs.size).filterMap λa=>if a=L\/a=d then none else (h.get? a).map λo=>(a,o)
end Att
namespace L2
open PySem PySem.Spec PyProof.Rows
def Hx(h:IntsAre vs ns):az (ns.map V.int) vs:=by
 induction h with
 | nil=>show .nil
 | cons n t _ ih=>show .cons ⟨t,Z⟩ ih
def AT(H:Hp):Prop:=∀b,H b=none\/∃o xs,H b=some (.bV o (.lst xs))
def RS{K:PySem.W.Frag} (KX:K.In bf.heap) (kU:bf.heap.Ns mainGlobals mg) (hb:bf.heap.Ns builtinsNs mb) (wj:∀x:Str,x≠"__name__"->mb x=bootBuiltins x) (RT:bf.heap.NoLimit) (hg:bf.gens=#[]) (ha:bf.heap.get? a=some {cls:=.type "list",data:=.seq vs.toArray}) (hi:IntsAre vs ns) (hl:ns.length<=sizeLine) (hr:bD k callerA) (F:∀base:Heap,K.In base->base.Ns mainGlobals mg->av P w K mg base CX k fa fd [x] sp) (RU:∀ s   u ,BindsTo s fd ⟨[u],[]⟩ [(x,u)]) (jW:∀H:Hp,AT H->ag K H a (ns.map V.int)->sp [.ref a] H (λv _=>v=.bl true) λ_ _ _=>False) (AU:∀H e s',CX [] H bf (λ_ _ _=>False) e s'->False) : codeAny (model P w) callerA (.call (.ref fa) ⟨[.ref a],[]⟩) (λr s'=>r=.ok (.ret (.bool true))/\OldK bf.heap s'.heap/\s'.os=bf.os/\AllBare s'.gens) bf:=by
 have rv:=Hx hi;have RV:=hi.length
 have core:∀H:Hp,AT H->ag K H a (ns.map V.int)->bC P w H bf.heap->(∀b,H b≠none->b=a)->(H a≠none->K.lookup a=none)->
   codeAny (model P w) callerA (.call (.ref fa) ⟨[.ref a],[]⟩) (λr s'=>r=.ok (.ret (.bool true))/\OldK bf.heap s'.heap/\s'.os=bf.os/\AllBare s'.gens) bf:=by
  intro H hO hS am hA hK;have Hy:∀ {b:Addr} {o:Obj},bf.heap.get? b=some o->H b=none->(kA bf.heap H).get? b=some o:=λe n=>Qa e n;have si:∀ {b:Addr} {o:Obj} {es:Array DictEntry} {ep:Nat},bf.heap.get? b=some o->o.data=.dict es ep->H b=none:=λ{b o es ep} e d=>by grind
  have wk:∀ {b:Addr} {m:Str->Option Value},bf.heap.Ns b m->(kA bf.heap H).Ns b m:=λ{b m} ⟨o,es,ep,e,d,r⟩=>⟨o,es,ep,Hy e (si e d),d,r⟩;have Hz:=λb o e=>Hy (KX b o e) (by grind);have hM:Mod K mg (kA bf.heap H):=⟨Hz,wk kU,⟨mb,wk hb,wj⟩,let ⟨mc,h1,h2⟩:=RT;⟨mc,wk h1,h2⟩⟩;have e0:nU P w K mg (kA bf.heap H) callerA [] bf H:=⟨Z,hM,λb o e=>Qb e,Nat.le_of_eq (P9 _ _),trivial,λb hb=>absurd (show b∈ []  from hb) (by simp),am,.of_eq hg⟩;show codeAny_mono ((F _ Hz (wk kU)).run callerA [] bf H ⟨[.ref a],[]⟩ [.ref a] [.ref a] _ _ hr e0 (RU bf (.ref a)) (.cons Z .nil) (jW H hO hS)) λr s' h=>?_
  cases r with
  | error e=>show(AU H e s' h).elim
  | ok fl =>
   cases fl with
   | next=>show False.elim h
   | brk=>show False.elim h
   | cont=>show False.elim h
   | ret u =>
    obtain⟨v,H',os,bare,un,RW,r',q⟩:=h;have q':=q;subst q';obtain rfl:u=Value.bool true:=r';show⟨Z,OldK.of_keep λb o e=>?_,os,bare⟩
    cases q:H b with
    | none=>show un.keep b o e q (by show λz=>absurd (show b∈ []  from z) (by simp)) (by simp)
    | some u =>
     rcases hO b with z | ⟨ob,xs,z⟩;.rw[q] at z;cases z
     .have z2:=un.fm b ob _ z;obtain⟨e1,_⟩:=am b _ z;obtain⟨e2,_⟩:=RW b _ z2;rw[e] at e1;cases e1;show e2
 cases hk:K.lookup a with
 | some o =>
  have e:=KX a o hk;rw[ha] at e;cases e;show core (λ_=>none) (λ_=>.inl Z) (.inr ⟨_,vs.toArray,_,hk,Z,Z,Z,by rw[a2S,RV];show hl,by simpa using rv⟩) (λb u z=>by have z':=z;cases z') (λb z=>absurd Z z) λz=>absurd Z z
 | none =>
  show core (λb=>if b=a then some (.bV {cls:=.type "list",data:=.seq vs.toArray} (.lst (ns.map V.int))) else none) (λb=>?_) (.inl (.inr ⟨{cls:=.type "list",data:=.seq vs.toArray},if_pos Z⟩)) (λb u z=>?_) (λb z=>?_) λ_=>hk
  .by_cases hb:b=a;.show .inr ⟨_,_,if_pos hb⟩
   .show .inl (if_neg hb)
  .by_cases hb:b=a
   .have z':=(if_pos hb).symm.trans z;cases z';subst hb;show⟨ha,by rw[a2x];show hl,vs,_,rv,ha⟩
   .have z':=(if_neg hb).symm.trans z;cases z'
  .by_cases hb:b=a;.show hb
   .show absurd (if_neg hb) z
abbrev KOf{K:PySem.W.Frag}{h:Heap}(_:K.In h):PySem.W.Frag:=K
def RX{l:PySem.W.OpenLaw}{K:Params->PySem.W.Frag}{CX:World->gC}{sp:World->Sp} (hn:l.most=some n) (f8:n<=sizeLine) (sw:d.params.defaults=[]) (hr:bD k callerA) (hY:∀ w   h ,YP w h->(K w.params).In h) (F:∀ w   mg   fa   h ,(K w.params).In h->h.Ns mainGlobals mg->mg d.name=some (.ref fa)-> ∃fd:FuncData,(∀ s   u ,BindsTo s fd ⟨[u],[]⟩ [(x,u)])/\ ∀base:Heap,(K w.params).In base->base.Ns mainGlobals mg->av l.prog w (K w.params) mg base (CX w) k fa fd [x] (sp w)) (jW:∀ w   H   a  (ns:List Int),ns.length<=n->AT H->ag (K w.params) H a (ns.map V.int)->sp w [.ref a] H (λv _=>v=.bl true) λ_ _ _=>False) (AU:∀ w   H   s   e   s' ,CX w [] H s (λ_ _ _=>False) e s'->False) : PySem.W.WalkO q qe XP YP l.row.toRowW d [] (λf vs=>PySem.call f vs):=by
 show Att.RQ hn sw λw cJ bf mg mb fa o pm cd bz a vs ns G Y ho hd gU sA AR AS bE hg=>?_;have KX:=hY w _ Y;obtain⟨fd,hb,hF⟩:=F w mg fa _ KX G.T.g sA;show RS KX G.T.g G.T.b G.T.builtins G.T.nolimit hg AR AS (a2U bE f8) hr hF hb (λH hO hS=>jW w H a ns bE hO hS) λH e s'=>AU w H bf e s'
def AV(s:Stmt)(j:Nat):Stmt:=match s with
 | .ClassDef _ _ _ body _ _ _ _ _ _ _=>body.getD j (.Pass ⟨0,0,0,0⟩)
 | _=>.Pass ⟨0,0,0,0⟩
def gD(s:Stmt):Arguments:=match s with
 | .FunctionDef _ a _ _ _ _ _ _ _ _=>a
 | _=>{posonlyargs:=[],args:=[],vararg:=none,kwonlyargs:=[],kw_defaults:=[],kwarg:=none,defaults:=[]}
def I_(s:Stmt):List Stmt:=match s with
 | .FunctionDef _ _ b _ _ _ _ _ _ _=>b
 | _=>[]
def f_(s:Stmt):Scope:=match s with
 | .FunctionDef _ _ _ _ _ _ sc _ _ _=>sc
 | _=>{kind:=.function,names:=[],isGenerator:=false,isCoroutine:=false}
abbrev aE:gC:=λ_ _ _ _ _ _=>False
abbrev E0:XK:=λ_ _ _=>False
def sB:jV aE X E0:=λ_ _ _ _ _ _ _ h=>h.elim
structure ay(K:PySem.W.Frag)(x qual:Str)(st:Stmt)(f:Addr)(fd:FuncData):Prop where
 ex:∃(oc:Value) (od:Option Addr) (kV bz pm:Value) (an:Option Addr) (ak ct:Value) (df:Array (Option Value)),
  fd=PySem.W.fnOf x qual (gD st) (I_ st) (f_ st) .none kV bz pm an ak ct/\K.lookup f=some ⟨oc,od,.func fd,df⟩/\PySem.W.codeIn K ak qual=true
 kp:PySem.W.keepIn K (.ref f)=true
section
variable{K:PySem.W.Frag}
def ay.ok{st:Stmt}(F:ay K x qual st f fd)(S:aI N ps (f_ st)) (sj:∀ ak   A   outer   s   H   vs   Q   E ,bD k (A.deeper (envOfC qual (f_ st) s.heap.objs.size f ak))->sp vs H Q E-> ∃t,bQ (bR aE P w K mg base N qual (f_ st) f ak A outer s H E).iy (I_ st) t/\t {nx:=λ_ H'=>Q .au H',rt:=Q} (start N vs) H)(len:∀vs H Q E,sp vs H Q E->vs.length=ps.length:=by intro _ _ _ _ h;first|(cases h;subst_vars;rfl)|((repeat obtain⟨_,h⟩:=h);subst_vars;rfl)):av P w K mg base aE (k+1) f fd ps sp:=by
 obtain⟨oc,od,kV,bz,pm,an,ak,ct,df,rfl,lk,gU⟩:=F.ex;show He lk gU S len λA outer s H vs Q E hr jW=>?_;obtain⟨t,h,q⟩:=sj ak A _ s H vs Q E hr jW;show⟨t,h.iy,q⟩
def ay.binds{st:Stmt}(F:ay K x qual st f fd) (h:∀ kV bz pm   an   ak ct   us ,us.length=ps.length->bindArgs (PySem.W.fnOf x qual (gD st) (I_ st) (f_ st) .none kV bz pm an ak ct) ⟨us,[]⟩=pure (ps.zip us)):Binds K fd ps []:=by
 obtain⟨oc,od,kV,bz,pm,an,ak,ct,df,rfl,lk,gU⟩:=F.ex;show .all<|h kV bz pm an ak ct
def qg{st:Stmt}{kV bz pm ak ct:Value}(l:K.lookup f=some ⟨oc,od,.func (PySem.W.fnOf x qual (gD st) (I_ st) (f_ st) .none kV bz pm an ak ct),df⟩) (c:PySem.W.codeIn K ak qual=true) (k:PySem.W.keepIn K (.ref f)=true):ay K x qual st f (PySem.W.fnOf x qual (gD st) (I_ st) (f_ st) .none kV bz pm an ak ct):=⟨⟨oc,od,kV,bz,pm,an,ak,ct,df,Z,l,c⟩,k⟩
end
def nX(hr:bD k A):A.units+1<cLine:=a5a (Nat.add_le_add_left (by decide) _) hr.units
section
variable{X:Cx}
def pv(i:Nat){pos:Pos}(hN:X.N[i]?=some x:=by rfl)(hv:pU X.env.scope x:=by first | show Or.inl Z | show Or.inr (Or.inl Z) | show Or.inr (Or.inr Z))(hd:(x==("__debug__":Str))=false:=by decide) (gU:(x==("__classdict__":Str))=false:=by decide):PE X (.Name x pos) (jN i):=Qh hN hv hd gU
end
def aK{A B:Prop}(h:B):if false=true then A else B:=by simp_all
def bj{A B:Prop}(h:A):if true=true then A else B:=by simp_all
def kX{c A B:Prop}[Decidable c](h1:c->A)(h2:¬ c->B):if c then A else B:=by simp_all
def RY{c A B:Prop}[Decidable c](hc:c)(h:B):if (!decide c)=true then A else B:=by simp_all
def ae(H H':Hp):Prop:=∀b o,H b=some o->H' b=some o
def ae.refl(H:Hp):ae H H:=λ_ _ h=>h
def ae.trans(a:ae H H1)(b:ae H1 H2):ae H H2:=λc o h=>b c o<|a c o h
def ae.free(e:ae H H')(h:H' l=Option.none):H l=Option.none:=by
 cases q:H l with
 | none=>rfl
 | some o =>
  rw[e l o q] at h;cases h
end L2
set_option maxHeartbeats 4000000
namespace L2
open PySem PySem.Spec PyProof.Rows
theorem HA{al be:Type}{l:List al}{f:al->be->Sem (ForInStep be)}(R:List al->be->Prop):∀(pre aY:List al) (c:be),l=pre++aY->R pre c-> (∀pre x post c,l=pre++x::post->R pre c->∃d,f x c=pure (.yield d)/\R (pre++[x]) d)->∃d,forIn aY c f=pure d/\R l d
 | pre,[],c,e,h0,_=>⟨c,Z,by rw[e,a3H];show h0⟩
 | pre,x::aY,c,e,h0,h=>by
  obtain⟨d,e1,r1⟩:=h pre x aY c e h0;obtain⟨d',e2,r2⟩:=HA R _ aY d (by rw[e];simp) r1 h;show⟨d',by rw[a4W,e1,pure_bind];show e2,r2⟩
def HB(h:∀y,(y,NameKind.free)∈scope.names->∃c,env.cells.lookup y=some c) : ∃cl,closureFor scope env=pure cl/\(∀y c,cl.lookup y=some c->env.cells.lookup y=some c)/\∀y,(y,NameKind.free)∈scope.names->∃c,cl.lookup y=some c:=by
 have aL:=HA (l:=scope.names) (f:=λx r=>if (x.2==NameKind.free)=true then do let a <-cellOf env x.1;pure (ForInStep.yield ((x.1,a)::r)) else pure (ForInStep.yield r))
  (λpre cs=>(∀y c,cs.lookup y=some c->env.cells.lookup y=some c)/\∀y,(y,NameKind.free)∈pre->∃c,cs.lookup y=some c) [] scope.names [] (by simp)
  ⟨λy c e=>by simp at e,λy hy=>by simp at hy⟩ (by
   rintro pre ⟨n,k⟩ post cs e ⟨r1,r2⟩;by_cases hk:k=NameKind.free
   .subst hk;obtain⟨c,hc⟩:=h n (by rw[e];simp);show⟨(n,c)::cs,?_,λy d q=>?_,λy hy=>?_⟩
    .have RZ:cellOf env n=pure c:=by unfold cellOf;rw[hc]
     simp only[beq_self_eq_true,if_true,RZ,pure_bind]
    .by_cases hy:y=n;.simp_all
     .have hb:(y==n)=false:=by simpa using hy
      rw[a4a,hb] at q;show r1 y d q
    .by_cases hn:y=n;.simp_all
     .have hb:(y==n)=false:=by simpa using hn
      rw[a4a,hb];show r2 y ?_;rcases a3j.mp hy with z | z;.show z
      .simp at z;show absurd z hn
   .show⟨cs,?_,r1,λy hy=>r2 y ?_⟩;.simp_all
    .rcases a3j.mp hy with z | z;.show z
     .simp at z;show absurd z.2.symm hk);obtain⟨cl,e,r⟩:=aL;show⟨cl,?_,r⟩
 have e':closureFor scope env=forIn scope.names  []  (λx r=>if (x.2==NameKind.free)=true then do let a <-cellOf env x.1;pure (ForInStep.yield ((x.1,a)::r)) else pure (ForInStep.yield r)):=by
  simp only[closureFor,bind_pure]
 rw[e',e]
def Cx.cmp(X:Cx)(N:List Str)(scope:Scope)(cl:List (Str×Addr))(C:Addr)(s:Shared)(H:Hp)(fp:List Addr):Cx where
 prog:=X.prog
 w:=X.w
 K:=X.K
 mg:=X.mg
 base:=X.base
 A:=X.A
 N:=N
 cJ:=s
 jL:=H
 env:=compEnvC scope cl C X.env
 outer:=X.stack
 stack:=X.stack
 ex:=fp
 fn:=λ_=>false
 calm:=X.calm
 pn:=[]
 xe:=λ_ _=>False
def HC{names:List (Str×NameKind)}{q:Str->NameKind->Bool}:(names.map λ(n,k)=>if q n k=true then (n,NameKind.cell) else (n,k)).lookup y=(names.lookup y).map λk=>if q y k=true then NameKind.cell else k:=by
 induction names with
 | nil=>rfl
 | cons p r ih =>
  obtain⟨n,k⟩:=p;rw[a2X];by_cases hy:y=n
  .subst hy;by_cases hq:q y k=true;.simp[a4a,hq]
   .simp[a4a,hq]
  .have hb:(y==n)=false:=by simpa using hy
   by_cases hq:q n k=true;.simp only[hq,if_true,a4a,hb];show ih
   .simp only[hq,a3B,if_false,a4a,hb];show ih
section
variable{σ:St}{C:Addr}
structure qh(X:Cx)(N:List Str)(scope:Scope):Prop where
 kind:scope.kind=.function
 HD:∀y∈scope.names,y.2≠.cell
 loc:∀y∈scope.names,y.2=.local->scope.names.lookup y.1=some .local
 R0:∀y,scope.names.lookup y=some .free->X.env.kindOf y=some .cell
 HE:∀y,(y,NameKind.free)∈scope.names->X.env.kindOf y=some .cell
 nd:N.Nodup
 wn:∀y,scope.names.lookup y=some .free->(y,NameKind.free)∈scope.names
def R3(S:qh X N scope)(I:Inv X aa σ H s)(hf:∀b∈fp,gW X aa H b)(ho:∀b∈fp,∃o,s.heap.get? b=some o)(gb:∀y c,cl.lookup y=some c->X.env.cells.lookup y=some c) (jY:∀y,(y,NameKind.free)∈scope.names->∃c,cl.lookup y=some c) (hC:s.heap.objs.size<=C):(X.cmp N scope cl C s H fp).Ok where
 mod:=I.ok.mod
 kind:=S.kind
 glob:=I.ok.glob
 blt:=I.ok.blt
 above:=hC
 inj:=λx y c h1 h2=>I.ok.inj x y c (gb x c h1)<|gb y c h2
 has:=λy hy=>by
  have di:(relabel _ _).names.lookup y=some .cell\/(relabel _ _).names.lookup y=some .free:=hy;have e:(relabel scope X.env).names.lookup y=(scope.names.lookup y).map λk=>if (k==.free&&X.env.scope.kind==.function&&X.env.kindOf y==some .cell)=true then NameKind.cell else k := HC (q:=λn k=>k==.free&&X.env.scope.kind==.function&&X.env.kindOf n==some .cell);rw[e] at di
  cases q:scope.names.lookup y with
  | none=>rw[q] at di;simp at di
  | some k =>
   by_cases hk:k=NameKind.free
   .subst hk;show jY y<|S.wn y q
   .exfalso;have hb:(k==NameKind.free)=false:=by simpa using hk
    rw[q] at di;simp only[Option.map_some,hb,a6d,a3B,if_false,Option.some.injEq] at di;rcases di with z | z;.show S.HD _ (PySem.mem_of_lookup q) z
    .show hk z
 nt:=λy c h _=>nomatch h
 hd:=I.ok.hd
 frames:=I.ok.frames
 pV:=.inl Z
 rR:=λb hb=>by
  obtain⟨o,e⟩:=ho b hb;obtain⟨_,_,_,_,f4,_⟩:=hf b hb;show⟨a2V<|a2L (a2C e) hC,λx c q=>f4 x c<|gb x c q⟩
 bs:=I.bs
 iq:=a2U I.ok.iq I.sz
 nu:=λb o e hb=>by
  obtain⟨_,_,_,f3,_,_⟩:=hf b hb;rcases f3 with z | z;.show I.ok.nu b o e z
  .show absurd (a2L (a2C e)<|a2U I.ok.iq z)<|a3w _
 nv:=λb hb z=>by
  obtain⟨_,f1,f2,_⟩:=hf b hb;rcases a2B.mp (I.Ap b z) with e | e;.show f1 e
  .show f2 e
 gu:=I.stack
 kB:=I.kF
def gE(k:Nat)(fr:List Nat)(σ:St):St:=List.replicate k none++fr.map λi=>(σ[i]?).join
structure sC(X:Cx)(N:List Str)(scope:Scope)(k:Nat)(fr:List Nat):Prop where
 len:N.length=k+fr.length
 iH:∀(j i:Nat) (y:Str),fr[j]?=some i->N[k+j]?=some y->X.N[i]?=some y/\scope.names.lookup y=some .free
def R4(S:qh X N scope)(F:sC X N scope k fr)(I:Inv X aa σ H s)(hf:∀b∈fp,gW X aa H b)(ho:∀b∈fp,∃o,s.heap.get? b=some o) (gb:∀y c,cl.lookup y=some c->X.env.cells.lookup y=some c) (jY:∀y,(y,NameKind.free)∈scope.names->∃c,cl.lookup y=some c) (hC:s.heap.objs.size<=C) {D:Addr}  (R5:s1.os=s.os) (hg:s1.gens=s.gens) (kp:∀b o,s.heap.get? b=some o->s1.heap.get? b=some o) (hn:s1.heap.Ns C m) (hD:s1.heap.get? D=some oD) (wo:s.heap.objs.size<=D) (ji:D≠C) (R7:∀v,oD.data≠.cell v) : Inv (X.cmp N scope cl C s H fp) [(D,oD)] (gE k fr σ) H s1:=by
 have sD:D∉bv X.stack:=λz=>by
  obtain⟨_,o,q,_⟩:=I.stack.mem z;show absurd (a2L (a2C q) wo) (a3w _)
 show⟨R3 S I hf ho gb jY hC,R5,by rw[hg];show I.bare,Un.kept kp,⟨m,hn,λi x v e1 e2 e3=>?_⟩,λy c e=>?_,I.am.fresh hC,λy c e=>I.fu y c (gb y c e),λp hp=>?_,I.am.kept kp,?_⟩
 .
  unfold gE at e2;by_cases hi:i<k
  .rw[a3k (by simpa using hi),a5b] at e2;split at e2 <;> cases e2
  .obtain⟨j,rfl⟩:∃j,i=k+j:=⟨i-k,by lia⟩;rw[a3o (by simp),a5o,a4A,a2E] at e2
   cases q:fr[j]? with
   | none=>rw[q] at e2;cases e2
   | some i' =>
    rw[q] at e2;have wu:(σ[i']?).join=some v:=a2J e2;obtain⟨a1,a2⟩:=F.iH j i' x q e1;have hk:=S.R0 x a2;obtain⟨m0,wv,nY⟩:=I.loc
    have hv:σ[i']?=some (some v):=by
     cases z:σ[i']? with
     | none=>rw[z] at wu;cases wu
     | some w=>rw[z] at wu;rw[show w=some v from wu]
    obtain⟨u,r,l⟩:=nY i' x v a1 hv (.inr (.inl hk));show⟨u,r,.inr ⟨.inl ?_,?_⟩⟩
    .change(relabel scope X.env).names.lookup x=some .cell;have e:(relabel scope X.env).names.lookup x=(scope.names.lookup x).map λk=>if (k==.free&&X.env.scope.kind==.function&&X.env.kindOf x==some .cell)=true then NameKind.cell else k := HC (q:=λn k=>k==.free&&X.env.scope.kind==.function&&X.env.kindOf n==some .cell);rw[e,a2,hk,I.ok.kind];rfl
    .obtain⟨c,hc⟩:=jY x (S.wn x a2);show⟨c,hc,?_⟩;rcases l with⟨z,_⟩ | ⟨_,c',gw,z⟩;.rw[hk] at z;cases z
     .have ec:=gb x c hc;rw[gw] at ec;cases ec;obtain⟨o,ho,hd⟩:=z;show⟨o,kp _ _ ho,hd⟩
 .obtain⟨v,o,q,d⟩:=I.cell y c (gb y c e);show⟨v,o,kp _ _ q,d⟩
 .have gZ:p=(D,oD):=by simpa [Cx.cmp] using hp
  subst gZ;show⟨hD,I.am.fresh wo,ji,sD,R7⟩
 .unfold gE;change _=N.length;rw[a2O,a5o,a2x,F.len]
abbrev gc(af:List Value)(n:Nat):Obj:={cls:=.type "list",data:=.seq af.toArray n}
def HF{aF:St}(I:Inv X aa σ H s)(hf:∀b∈fp,gW X aa H b)(J:Inv (X.cmp N scope cl C s H fp) [(D,gc af n)] aF H' s')(r:az ys af) (hz:ys.length<=sizeLine) (wo:s.heap.objs.size<=D):H' D=none/\Inv X aa σ (ad H' D (.lst ys)) s':=by
 obtain⟨e1,hn,_,_,_⟩:=J.pin (D,gc af n) (by simp[Cx.cmp]);have u:=J.base;have R8:∀b o,s.heap.get? b=some o->b≠D:=λb o q=>a2V<|a2L (a2C q) wo
 have u':Un _ fp H (ad H' D<|.lst ys) _ _ :=
  ⟨u.keep,u.slot,λb o q z hx=>by rw[i_ (R8 b o q)];show u.free b o q z hx,u.there,λb xs q=>by rw[i_ (l_ (u.fM b xs q) hn)];show u.fM b xs q,
   λb o x q=>by rw[i_ (l_ (u.fm b o x q) hn)];show u.fm b o x q,λb ps q=>by
    obtain⟨more,z⟩:=u.f6 b ps q;show⟨more,by rw[i_ (l_ z hn)];show z⟩⟩
 have am:bC X.prog X.w (ad H' D<|.lst ys) _:=λb o q=>by
  by_cases hb:b=D
  .subst hb;rw[c_] at q;cases q;show⟨hz,af,n,r,e1⟩
  .rw[i_ hb] at q;show(J.am b o q).gt (λc v _ z=>z) (λc z=>by rw[i_ (l_ z hn)];show z) λc xs z=>by rw[i_ (l_ z hn)];show z
 show⟨hn,?_⟩;have os:=J.os;have bare:=J.bare;obtain⟨hh,g,d,t,AE⟩:=s';obtain rfl:AE=s.os:=os
 show I.call u' am bare λb hb=>by
  obtain⟨_,f1,_,f3,f4,f5⟩:=hf b hb;show⟨f3,f1,f4,f5⟩
end
def PF(X:Cx)(dj:List Expr)(t:TT):Prop :=
 ∀(aa:List (Addr×Obj)) (s:Shared) (σ:St) (H:Hp) (Q:Bool->Hp->Prop),Inv X aa σ H s->t σ H Q->
  wpAny (model X.prog X.w) X.A (forIn dj true λc r=>if r=true then do let ok <-isTrue c X.env (eval c X.env);pure (ForInStep.yield ok) else pure (ForInStep.yield r)) (TP X aa σ Q) X.xe s
def R9:TT:=λ_ H Q=>Q true H
def O_:PF X [] R9:=λ_ _ _ H _ I h=>wpAny_tests_nil ⟨H,I,h⟩
def R'(hc:PT X c tc):PF X [c] tc:=λaa s σ H Q I h=>wpAny_tests_one<|hc aa s σ H Q I h
def qi{Q:al->Shared->Prop}(h:wpAny (model prog w) A t Q (λ_ _=>False) s):wpAny (model prog w) A t Q E s := wpAny_mono h (λ_ _ x=>x) λ_ _ f=>f.elim
def Sa(I:Nat->Shared->Prop)
  (jg:∀n s,I n s->wpAny (model prog w) A (pyNext it) (λr s1=>(r=none/\R (.ok .next) s1)\/∃v,r=some v/\
   wpAny (model prog w) A (letOwnedTupleGo tg it v) (λ_ s2=>wpAny (model prog w) A (assign tg env v) (λ_ s3 =>
    wpAny (model prog w) A (forIn dj true λc r=>if r=true then do let ok <-isTrue c env (eval c env);pure (ForInStep.yield ok) else pure (ForInStep.yield r)) (λok s4 =>
     if ok=true then wpAny (model prog w) A (eval dG env) (λx s5 =>
      wpAny (model prog w) A (call (.builtin "list.append") [acc,x]) (λ_ s6=>∃m,m<n/\I m s6) (λ_ _=>False) s5) (λ_ _=>False) s4
     else ∃m,m<n/\I m s4) (λ_ _=>False) s3) (λ_ _=>False) s2) (λ_ _=>False) s1) (λ_ _=>False) s)
  (n:Nat) (h:I n s):codeAny (model prog w) A (.compLoop (.ListComp dG [⟨tg,iter,dj,0⟩] scope pos) 0 it acc env) R s:=by
 show codeAny_loop Z I (λn s hI=>?_) n h;show wpAny_noted ?_;rw[compTurn_list];show wpAny_bind<|wpAny_standAt<|wpAny_bind<|qi<|ar (jg n s hI) λr s1 h1=>?_;rcases h1 with⟨rfl,h1⟩ | ⟨v,rfl,h1⟩;.show wpAny_pure h1
 .show wpAny_bind<|qi<|ar h1 λ_ s2 h2=>wpAny_bind<|qi<|ar h2 λ_ s3 h3=>wpAny_bind<|qi<|ar h3 λok s4 h4=>?_
  cases ok with
  | false=>show wpAny_pure ⟨Z,h4⟩
  | true=>show wpAny_bind<|wpAny_bind<|qi<|ar h4 λx s5 h5=>wpAny_bind<|qi<|ar h5 λ_ s6 h6=>wpAny_pure<|wpAny_pure ⟨Z,h6⟩
def nZ(k:Nat)(g:TG):Prop:=∀v σ H Q,g v σ H Q->g v σ H λbI H2=>(bI.length=σ.length/\∀i,k<=i->bI[i]?=σ[i]?)/\Q bI H2
def ww(k:Nat)(g:jP):Prop:=∀v σ H Q,g v σ H Q->g v σ H λbI H2=>(bI.length=σ.length/\∀i,k<=i->bI[i]?=σ[i]?)/\Q bI H2
def wx(h:i<k):nZ k (jf i):=λv σ H Q q=>⟨⟨a4V,λj hj=>a4d<|by lia⟩,q⟩
def Sb:ww k vK:=λv σ H Q q=>⟨q.1,⟨Z,λ_ _=>rfl⟩,q.2⟩
def HG(h1:nZ k g)(h2:ww k u)(mono:∀v σ H Q Q',(∀ bI H2,Q bI H2->Q' bI H2)->g v σ H Q->g v σ H Q')(Sc:∀v σ H Q Q',(∀ bI H2,Q bI H2->Q' bI H2)->u v σ H Q->u v σ H Q'):ww k (nG g u):=λvs σ H Q q=>by
 obtain⟨v,r,e,q⟩:=q;show⟨v,r,e,mono _ _ _ _ _ ?_<|h1 _ _ _ _ q⟩;rintro bI H2 ⟨⟨l1,l2⟩,q2⟩;show Sc _ _ _ _ _ ?_<|h2 _ _ _ _ q2;rintro iC H3 ⟨⟨m1,m2⟩,q3⟩;show⟨⟨m1.trans l1,λi hi=>(m2 i hi).trans<|l2 i hi⟩,q3⟩
def Sd{K:PySem.W.Frag}(h:ww k u):nZ k (p8 K n u):=λv σ H Q q=>by
 obtain⟨a,xs,e,h1,h2,q⟩:=q;show⟨a,xs,e,h1,h2,h _ _ _ _ q⟩
def sE(k:Nat)(fr:List Nat)(wi:TI)(g:TG)(tc:TT)(te:TE):TE:=fun σ H Q=>wi σ H λJ H1=>∃W:Nat->Nat->List V->Hp->Prop,(∃m,W 0 m [] H1)/\∀i m ys H,W i m ys H-> (J.stop i H/\∀D,H D=none->Q (.ref D) (ad H D (.lst ys)))\/ (J.go i H/\ys.length<sizeLine/\∃Nx:List V->Hp->Prop,(∀cD H',Nx cD H'->∃m',m'<m/\W (i+1) m' cD H')/\ ∀x H',J.gy i H x H'->g x (gE k fr σ) H' λbI H2=>tc bI H2 λb H3=>if b=true then te bI H3 λy H4=>Nx (ys++[y]) H4 else Nx ys H3)
section
variable{σ:St}
def HH(S:qh X N scope)(F:sC X N scope k fr)(hc:X.calm=true) (hg:∀cl C s H fp,PG (X.cmp N scope cl C s H fp) tg g) (hk:nZ k g) (hi:∀cl C s H fp,PF (X.cmp N scope cl C s H fp) dj tc) (he:∀cl C s H fp,PE (X.cmp N scope cl C s H fp) dG te) (I:Inv X aa σ H2 s2) (T:jQ X.prog X.w X.K tg J fp it tn) (st:tn 0 s2.heap) (f2:∀b∈fp,gW X aa H2 b) {W:Nat->Nat->List V->Hp->Prop}  (w0:W 0 m0 [] H2) {Fin:List V->Hp->Prop} (jg:∀i m ys H,W i m ys H->(J.stop i H/\Fin ys H)\/ (J.go i H/\ys.length<sizeLine/\∃Nx:List V->Hp->Prop,(∀cD H',Nx cD H'->∃m',m'<m/\W (i+1) m' cD H')/\ ∀x H',J.gy i H x H'->g x (gE k fr σ) H' λbI H2=>tc bI H2 λb H3=>if b=true then te bI H3 λy H4=>Nx (ys++[y]) H4 else Nx ys H3)) (gb:∀y c,cl.lookup y=some c->X.env.cells.lookup y=some c) (jY:∀y,(y,NameKind.free)∈scope.names->∃c,cl.lookup y=some c) {RR:Value->Addr->Result->Shared->Prop} (Se:∀D C s' af n ys H' aF,s2.heap.objs.size<=D->s2.heap.objs.size<=C->D≠C->Inv (X.cmp N scope cl C s2 H2 fp) [(D,gc af n)] aF H' s'->az ys af->ys.length<=sizeLine->Fin ys H'->RR (.ref D) C (.ok .next) s') : wpAny (model X.prog X.w) X.A (newList []) (λacc s3=>wpAny (model X.prog X.w) X.A (newFunctionEnv scope X.env.globals cl [] X.env.qual none .none (some X.env)) (λHI s4 => codeAny (model X.prog X.w) X.A (.compStart (.ListComp dG [⟨tg,iter,dj,0⟩] scope pos) 0 (.ref it) acc {HI with scope:=relabel scope X.env}) (RR acc HI.locals) s4) E s3) E s2:=by
 show wpAny_newObj_type (wpAny_newFunctionEnv S.HD (by intro y hy;simp at hy) (λh1 kU sb=>?_) S.kind);dsimp only at kU sb⊢;generalize hG:s2.heap.push {cls:=.type "list",dict:=none,data:=.seq ([]:List Value).toArray}=G at kU sb⊢;have hC:G.objs.size=s2.heap.objs.size+1:=by rw[<-hG,a3h]
 have ji:s2.heap.objs.size≠G.objs.size:=by rw[hC];show a2V (a3K _)
 have fQ:∀b o,s2.heap.get? b=some o->h1.get? b=some o:=λb o e => sb.extBut b o (by rw[hC];show a2V (a3S (a2C e))) (a2y _ (hG▸a2y _ e));have dI:h1.get? s2.heap.objs.size=some (gc [] 0):=sb.extBut _ _ ji (a2y _ (hG▸a2F _ Z));have HJ:∀b∈fp,∃o,s2.heap.get? b=some o:=λb hb=>let ⟨o,e,_⟩:=T.obj 0 _ st b hb;⟨o,e⟩
 have AW:∀b∈fp,b≠s2.heap.objs.size:=λb hb=>let ⟨o,e⟩:=HJ b hb;a2V (a2C e)
 generalize hX:X.cmp N scope cl G.objs.size s2 H2 fp=X'
 have I0:Inv X' [(s2.heap.objs.size,gc [] 0)] (gE k fr σ) H2 {s2 with heap:=h1,toks:=s2.toks+([]:List (Str×Value)).length}:=by
  rw[<-hX];show R4 S F I f2 HJ gb jY (by rw[hC];show a5w _) Z Z fQ kU dI (a2D _) ji λv z=>by cases z
 have eP:X'.prog=X.prog:=by rw[<-hX];rfl
 have eW:X'.w=X.w:=by rw[<-hX];rfl
 have eK:X'.K=X.K:=by rw[<-hX];rfl
 have eA:X'.A=X.A:=by rw[<-hX];rfl
 have eC:X'.calm=true:=by rw[<-hX];show hc
 have eE:X'.env=compEnvC scope cl G.objs.size X.env:=by rw[<-hX];rfl
 have eX:X'.xe=λ_ _=>False:=by rw[<-hX];rfl
 have eF:X'.ex=fp:=by rw[<-hX];rfl
 have eS:X'.cJ=s2:=by rw[<-hX];rfl
 have HK:X'.pn=[]:=by rw[<-hX];rfl
 have T':jQ X'.prog X'.w X'.K tg J fp it tn:=by rw[eP,eW,eK];show T
 have qj:PG X' tg g:=by rw[<-hX];show hg _ _ _ _ _
 have cY:PF X' dj tc:=by rw[<-hX];show hi _ _ _ _ _
 have Sf:PE X' dG te:=by rw[<-hX];show he _ _ _ _ _
 have nK:∀ {o:Obj} {H':Hp},(∀b∈fp,H' b=none)->∀b∈fp,gW X' [(s2.heap.objs.size,o)] H' b:=λ{o H'} hn b hb=>by
  have ok:=I0.ok;obtain⟨z1,z2⟩:=ok.rR b (by rw[eF];show hb);show⟨hn b hb,z1,ok.nv b (by rw[eF];show hb),.inl (by rw[eF];show hb),z2,λp hp=>?_⟩;rw[HK] at hp;have gZ:p=(s2.heap.objs.size,o):=by simpa using hp
  rw[gZ];show λz=>AW b hb z.symm
 have HL:∀ {pl:List (Addr×Obj)} {jS:St} {H6:Hp} {s6:Shared},Inv X' pl jS H6 s6->(jS.length=(gE k fr σ).length/\∀i,k<=i->jS[i]?=(gE k fr σ)[i]?)->Inv X' pl (gE k fr σ) H6 s6:=λ{pl jS H6 s6} I6 ⟨l1,l2⟩ =>
  I6.weak l1.symm λi v e=>by
   by_cases Sg:i<k
   .unfold gE at e;rw[a3k (by simpa using Sg),a5b] at e;split at e <;> cases e
   .rw[l2 i (by lia)];show e
 have loop:codeAny (model X.prog X.w) X.A (.compLoop (.ListComp dG [⟨tg,iter,dj,0⟩] scope pos) 0 (.ref it) (.ref s2.heap.objs.size) (compEnvC scope cl G.objs.size X.env))
   (RR (.ref s2.heap.objs.size) G.objs.size) {s2 with heap:=h1,toks:=s2.toks+([]:List (Str×Value)).length}:=by
  show eP▸eW▸eA▸eE▸?_;show Sa (λn s'=>∃i ys af nn H',Inv X' [(s2.heap.objs.size,gc af nn)] (gE k fr σ) H' s'/\az ys af/\ys.length<=sizeLine/\tn i s'.heap/\(∀b∈fp,H' b=none)/\W i n ys H') ?_ m0 ⟨0,[],[],0,H2,I0,.nil,a3q _,T.keep _ _ _ st λb _ o e=>fQ b o e,λb hb=>(f2 b hb).1,w0⟩;rintro n s' ⟨i,ys,af,nn,H',I',rv,hz,ao,HM,w'⟩;rcases jg i n ys H' w' with⟨stop,fin⟩ | ⟨go,aJ,Nx,hN,step⟩
  .show ar (T'.done X' Z Z Z eC i _ s' _ H' _ I' (nK HM) ao stop) λr s1 ⟨hr,I1⟩=>.inl ⟨hr,?_⟩;rw[<-hX] at I1;show Se _ _ s1 af nn ys H' _ (a2D _) (by rw[hC];show a5w _) ji I1 rv hz fin
  .show ar (T'.item X' Z Z Z eC i _ s' _ H' _ I' (nK HM) ao go) λr s1 ⟨u,hr,h4⟩=>.inr ⟨u,hr,ar h4 λ_ s5 ⟨x,H5,I5,r5,y5,nN,Av⟩=>?_⟩;have Aw:=I5.pinned (nK Av) (T.obj _ _ nN);have HN:=qj _ s5 _ H5 x u _ Aw r5 (hk _ _ _ _ (step x H5 y5));rw[eX] at HN;show ar HN λ_ s6 ⟨jS,H6,I6,l6,q6⟩=>?_;have HP:=cY _ s6 jS H6 _ I6 q6;rw[eX] at HP
   have Si:∀ {eU:St} {H7:Hp} {s7:Shared},Inv X' ([(s2.heap.objs.size,gc af nn)]++lW fp s5.heap) eU H7 s7->s7.heap.get? s2.heap.objs.size=some (gc af nn)/\H7 s2.heap.objs.size=none/\s2.heap.objs.size≠X'.env.locals:=λI7=>by
    obtain⟨z1,z2,z3,_⟩:=I7.pin (s2.heap.objs.size,gc af nn) (a3b _ (a3Q _ (by simp)));show⟨z1,z2,z3⟩
   have HQ:∀ {eU:St} {H7:Hp} {s7:Shared},Inv X' ([(s2.heap.objs.size,gc af nn)]++lW fp s5.heap) eU H7 s7->tn (i+1) s7.heap/\∀b∈fp,H7 b=none:=λ{eU H7 s7} I7 =>
    ⟨T.keep _ _ _ nN λb hb o e=>(I7.pin (b,o) (a3b _ (a3b _ (vP hb e)))).1,λb hb=>by
     obtain⟨o,e,d⟩:=T.obj _ _ nN b hb;show(I7.pin (b,o) (a3b _ (a3b _ (vP hb e)))).2.1⟩;show ar HP λok s7 ⟨H7,I7,q7⟩=>?_
   cases ok with
   | false =>
    obtain⟨m',hm,w7⟩:=hN _ _ (show Nx ys H7 from q7);obtain⟨a1,a2⟩:=HQ I7;show⟨m',hm,i+1,ys,af,nn,H7,HL I7.vQ l6,rv,hz,a1,a2,w7⟩
   | true =>
    have wA:=Sf _ s7 jS H7 _ I7 (show te jS H7 _ from q7);rw[eX] at wA;show ar wA λv s8 ⟨y,H8,I8,r8,q8⟩=>?_;obtain⟨z1,z2,z3⟩:=Si I8;obtain⟨a1,a2⟩:=HQ I8;obtain⟨m',hm,w8⟩:=hN _ _ q8;have hl:=rv.length;show append_at (hsz:=by change af.toArray.size<=sizeLine;rw[a2S];lia) z1 λh9 HR Sj=>?_;have Sk:Inv X' (lW fp s5.heap) (gE k fr σ) H8 s8:=(HL I8 l6).vD λp hp=>I8.pin p (a3b _ (a3b _ hp))
    have I9:Inv X' (lW fp s5.heap) (gE k fr σ) H8 {s8 with heap:=h9}:=Sk.turned (t':=s8.toks) (it:=s2.heap.objs.size) (λb o hb e=>(HR.2 b hb).trans e) z2 z3 (.inr (by rw[eS];show a2D _))
     (λy c e z=>by
      obtain⟨v',q⟩:=I0.cell y c e;have Sl:cl.lookup y=some c:=by rw[eE] at e;show e
      obtain⟨v2,q2⟩:=I.cell y c (gb y c Sl);rw[z] at q2;show absurd q2.lt (a3w _))
     (λp hp z=>by
      rw[HK] at hp;show AW p.1 (GG hp).1 z)
    have Sm:Inv X' [(s2.heap.objs.size,gc (af++[v]) (nn+1))] (gE k fr σ) H8 {s8 with heap:=h9}:=I9.vD λp hp=>by
     have gZ:p=(s2.heap.objs.size,gc (af++[v]) (nn+1)):=by simpa using hp
     rw[gZ];show⟨?_,z2,z3,?_,λv z=>by cases z⟩
     .change h9.get? _=_;rw[Sj];simp[gc]
     .show(I8.pin (s2.heap.objs.size,gc af nn) (a3b _ (a3Q _ (by simp)))).2.2.2.1
    show⟨m',hm,i+1,ys++[y],af++[v],nn+1,H8,Sm,rv.append (.cons r8 .nil),by rw[a2O];simp;lia,(T.keep _ _ _ a1 λb hb o e=>(HR.2 b (AW b hb)).trans e),a2,w8⟩
 show codeAny_compStart_list loop (T.self _ 0 _ _ _ (T.keep _ _ _ st λb _ o e=>fQ b o e) loop)
def HS{aF:St}{D C:Addr}{HU:St}(I:Inv X aa σ H2 s2)(hC:s2.heap.objs.size<=C)(ji:D≠C) (J:Inv (X.cmp N scope cl C s2 H2 fp) [(D,o)] aF H' s')  (I':Inv X aa HU (ad H' D u) s9) (sb:Heap.SameBut C s9.heap h'):Inv X aa HU (ad H' D u) {s9 with heap:=h'}:=by
 show I'.turned (λb o hb e=>(sb.2 b hb).trans e) (by rw[i_ (Ne.symm ji)];show J.free) (a3u<|a2L I.lt hC) (.inr<|a2U I.sz hC) (λy c e z=>?_) λp hp z=>?_
 .obtain⟨v,q⟩:=I.cell y c e;show absurd (a2L q.lt<|by rw[z];show hC)<|a3w _
 .show absurd (a2L (a2C (I.pin p hp).1)<|by rw[z];show hC)<|a3w _
def wB(S:qh X N scope)(F:sC X N scope k fr)(hc:X.calm=true)(bS:PI X tg iter wi) (hg:∀cl C s H fp,PG (X.cmp N scope cl C s H fp) tg g) (hk:nZ k g) (hi:∀cl C s H fp,PF (X.cmp N scope cl C s H fp) dj tc) (he:∀cl C s H fp,PE (X.cmp N scope cl C s H fp) dG te) (hs:∀x,foldedSetIterable iter X.env x=pure x:=by intro _;rfl):PE X (.ListComp dG [⟨tg,iter,dj,0⟩] scope pos) (sE k fr wi g tc te):=by
 intro aa s σ H Q I h;obtain⟨cl,AX,gb,jY⟩:=HB λy hy=>I.ok.has y<|.inl<|S.HE y hy;show wpAny_comprehension_free Z hs AX S.kind S.loc<|ar (bS aa s σ H _ I h) λv s1 h1=>ar h1 λvN s2 h2=>?_;obtain⟨it,fp,tn,J,H2,e,I2,T,bh,f2,W,⟨m0,w0⟩,jg⟩:=h2;subst e;show HH S F hc hg hk hi he I2 T bh f2 w0 jg gb jY ?_;intro D C s' af n ys H' aF hD hC ji J' rv hz fin;obtain⟨hn,I'⟩:=HF I2 f2 J' rv hz hD;obtain⟨m,hm,_⟩:=J'.loc;show⟨m,hm,λh' sb=>⟨.ref D,_,HS I2 hC ji J' I' sb,Z,fin D hn⟩⟩
def HV{py kY:Pos}(hN:X.N.Nodup)(cY:X.N[i]?=some y)(hx:Loc X.env.scope y)(S:qh X N scope)(F:sC X N scope k fr)(hc:X.calm=true)(bS:PI X tg iter wi) (hg:∀cl C s H fp,PG (X.cmp N scope cl C s H fp) tg g) (hk:nZ k g) (hi:∀cl C s H fp,PF (X.cmp N scope cl C s H fp) dj tc) (he:∀cl C s H fp,PE (X.cmp N scope cl C s H fp) dG te) (AY:swapsWith (.ListComp dG [⟨tg,iter,dj,0⟩] scope pos) (some (.Name y py)) kY.line X.env=pure true) (hs:∀x,foldedSetIterable iter X.env x=pure x:=by intro _;rfl) (hf:X.fn y=true\/X.env.scope.names.lookup y=some .local:=by first | show .inl Z | show .inr Z | assumption) : PS X (.Assign [.Name y py] (.ListComp dG [⟨tg,iter,dj,0⟩] scope pos) kY) (vL (sE k fr wi g tc te) (jf i)):=by
 intro aa s σ H D0 I h;obtain⟨cl,AX,gb,jY⟩:=HB λy hy=>I.ok.has y<|.inl<|S.HE y hy;rw[exec_Assign_Name_used _ _ _ _ AY];show wpAny_bind<|wpAny_standAt<|wpAny_bind ?_;show wpAny_bind<|wpAny_mono (wpAny_comprehension_free Z hs AX S.kind S.loc <|ar (bS aa s σ H _ I h) λv s1 h1=>ar h1 λvN s2 h2=>?_) (λ_ s' hq=>wpAny_pure<|wpAny_pure hq) λ_ _ e=>e;obtain⟨it,fp,tn,J,H2,e,I2,T,bh,f2,W,⟨m0,w0⟩,jg⟩:=h2;subst e;show HH S F hc hg hk hi he I2 T bh f2 w0 jg gb jY ?_;intro D C s' af n ys H' aF hD hC ji J' rv hz fin;obtain⟨hn,I'⟩:=HF I2 f2 J' rv hz hD;obtain⟨m,hm,_⟩:=J'.loc;show wpAny_assign_Name<|Gj I' hN cY hx (v:=.ref D) Z (λs9 I9 ⟨a,Sn,ha⟩=>?_) hf
 have So:C≠a:=by
  rcases ha with z | z;.rw[z];show a3u<|a2L I2.lt hC
  .obtain⟨v,q⟩:=I2.cell y a z;show λz=>absurd (a2L q.lt<|by rw[<-z];show hC)<|a3w _
 show⟨m,hm.sameBut Sn So,λh' sb=>⟨_,_,HS I2 hC ji J' I9 sb,fin D hn⟩⟩
end
def kZ(sc scope:Scope)(NX N:List Str)(k:Nat)(fr:List Nat):Bool := scope.names.all (λp=>p.2 != .cell)&&(scope.names.all (λp=>p.2 != .local || scope.names.lookup p.1==some .local)&&(scope.names.all (λp=>p.2 != .free || sc.names.lookup p.1==some .cell) && (decide N.Nodup&&(N.length==k+fr.length&&(fr.zip (N.drop k)).all λq=>NX[q.1]?==some q.2&&scope.names.lookup q.2==some .free))))
def qk(hX:X.env.scope=sc)(hk:scope.kind=.function)(h:kZ sc scope NX N k fr=true):qh X N scope:=by
 unfold kZ at h;simp only[a2H,a2K,decide_eq_true_eq] at h;obtain⟨h1,h2,h3,h4,h5,h6⟩:=h
 have f2:∀y,(y,NameKind.free)∈scope.names->X.env.kindOf y=some .cell:=λy hy=>by
  have:=h3 _ hy;change X.env.scope.names.lookup y=some .cell;rw[hX];simpa using this
 show⟨hk,λy hy=>by simpa using h1 y hy,λy hy e=>?_,λy e=>f2 y<|PySem.mem_of_lookup e,f2,h4,λy e=>PySem.mem_of_lookup e⟩;have:=h2 y hy;rw[e] at this;simpa using this
def ql(hN:X.N=NX)(h:kZ sc scope NX N k fr=true):sC X N scope k fr:=by
 unfold kZ at h;simp only[a2H,a2K,decide_eq_true_eq] at h;obtain⟨h1,h2,h3,h4,h5,h6⟩:=h;show⟨by simpa using h5,λj i y e1 e2=>?_⟩
 have hm:(i,y)∈fr.zip (N.drop k):=by
  show a2A (i:=j) ?_;rw[List.getElem?_zip_eq_some];show⟨e1,by simp_all⟩
 have:=h6 _ hm;rw[hN];simpa using this
section
variable{pos px:Pos}
def wC(h:kZ sc scope NX N k fr=true):N.Nodup:=by
 unfold kZ at h;simp only[a2H,decide_eq_true_eq] at h;show h.2.2.2.1
def P_(sc:Scope)(NX:List Str)(fs:List Str)(fr:List Nat)(hc:X.calm=true)(bS:PI X (.Name x px) iter wi)(hi:∀cl C s H fp,PF (X.cmp (x::fs) scope cl C s H fp) dj tc)(he:∀cl C s H fp,PE (X.cmp (x::fs) scope cl C s H fp) dG te) (ok:kZ sc scope NX (x::fs) 1 fr=true) (hX:X.env.scope=sc:=by rfl) (hN:X.N=NX:=by rfl) (hk:scope.kind=.function:=by rfl) (hx:scope.names.lookup x=some .local:=by rfl) (hs:∀x,foldedSetIterable iter X.env x=pure x:=by intro _;rfl):PE X (.ListComp dG [⟨.Name x px,iter,dj,0⟩] scope pos) (sE 1 fr wi (jf 0) tc te) := wB (qk hX hk ok) (ql hN ok) hc bS (λcl C s H fp=>u_ 0 (.inr<|lookup_relabel_local hx) (hN:=wC ok) (hx:=Or.inl (lookup_relabel_local hx))) (wx<|by decide) hi he hs
def wD(sc:Scope)(NX:List Str)(fs:List Str)(fr:List Nat){py kY:Pos}(Sq:X.N.Nodup)(cY:X.N[i]?=some y)(hy:Loc X.env.scope y)(hc:X.calm=true)(bS:PI X (.Name x px) iter wi) (hi:∀cl C s H fp,PF (X.cmp (x::fs) scope cl C s H fp) dj tc) (he:∀cl C s H fp,PE (X.cmp (x::fs) scope cl C s H fp) dG te) (ok:kZ sc scope NX (x::fs) 1 fr=true) (AY:swapsWith (.ListComp dG [⟨.Name x px,iter,dj,0⟩] scope pos) (some (.Name y py)) kY.line X.env=pure true) (hX:X.env.scope=sc:=by rfl) (hN:X.N=NX:=by rfl) (hk:scope.kind=.function:=by rfl) (hx:scope.names.lookup x=some .local:=by rfl) (hs:∀x,foldedSetIterable iter X.env x=pure x:=by intro _;rfl) (hf:X.fn y=true\/X.env.scope.names.lookup y=some .local:=by first | show .inl Z | show .inr Z | assumption) : PS X (.Assign [.Name y py] (.ListComp dG [⟨.Name x px,iter,dj,0⟩] scope pos) kY) (vL (sE 1 fr wi (jf 0) tc te) (jf i)) := HV Sq cY hy (qk hX hk ok) (ql hN ok) hc bS (λcl C s H fp=>u_ 0 (.inr<|lookup_relabel_local hx) (hN:=wC ok) (hx:=Or.inl (lookup_relabel_local hx))) (wx<|by decide) hi he AY hs hf
end
def AZ{lo:Int}{G:V->Hp->(List V->Hp->Prop)->List V->Prop}{Fin:List V->Hp->Prop}(Pv:Nat->List V->Hp->Prop)(h0:Pv 0 [] H) (hs:∀i ys H,i<n->Pv i ys H->ys.length<sizeLine/\G (.int (lo+i)) H (Pv (i+1)) ys) (hd:∀ys H,Pv n ys H->Fin ys H) : ∃W:Nat->Nat->List V->Hp->Prop,(∃m,W 0 m [] H)/\∀i m ys H,W i m ys H-> ((jR lo n).stop i H/\Fin ys H)\/((jR lo n).go i H/\ys.length<sizeLine/\∃Nx:List V->Hp->Prop,(∀cD H',Nx cD H'->∃m',m'<m/\W (i+1) m' cD H')/\∀x H',(jR lo n).gy i H x H'->G x H' Nx ys):=by
 show⟨λi m ys H=>m=n-i/\i<=n/\Pv i ys H,⟨n,by simp,a3q _,h0⟩,?_⟩;rintro i m ys H ⟨rfl,hi,p⟩;by_cases aJ:i<n
 .obtain⟨a1,a2⟩:=hs i ys H aJ p;show .inr ⟨aJ,a1,Pv _,λcD H' p'=>⟨n-(i+1),by lia,Z,aJ,p'⟩,λx H' y=>?_⟩;obtain⟨e,y⟩:=y;subst e y;show a2
 .have e:i=n:=by lia
  subst e;show .inl ⟨a2D _,hd ys H p⟩
def z_{K:PySem.W.Frag}{G:V->Hp->(List V->Hp->Prop)->List V->Prop}{Fin:List V->Hp->Prop}(Pv:Nat->List V->Hp->Prop)(h0:Pv 0 [] H)(hl:∀i ys H,i<=xs.length->Pv i ys H->ag K H a xs) (hs:∀i x ys H,xs[i]?=some x->Pv i ys H->ys.length<sizeLine/\G x H (Pv (i+1)) ys) (hd:∀ys H,Pv xs.length ys H->Fin ys H) : ∃W:Nat->Nat->List V->Hp->Prop,(∃m,W 0 m [] H)/\∀i m ys H,W i m ys H-> ((lV K a).stop i H/\Fin ys H)\/((lV K a).go i H/\ys.length<sizeLine/\∃Nx:List V->Hp->Prop,(∀cD H',Nx cD H'->∃m',m'<m/\W (i+1) m' cD H')/\∀x H',(lV K a).gy i H x H'->G x H' Nx ys):=by
 show⟨λi m ys H=>m=xs.length-i/\i<=xs.length/\Pv i ys H,⟨xs.length,by simp,a3q _,h0⟩,?_⟩;rintro i m ys H ⟨rfl,hi,p⟩;have q:=hl i ys H hi p;by_cases aJ:i<xs.length
 .obtain⟨a1,a2⟩:=hs i xs[i] ys H (by simp[aJ]) p;show .inr ⟨⟨xs,xs[i],q,by simp[aJ]⟩,a1,Pv _,λcD H' p'=>⟨xs.length-(i+1),by lia,Z,aJ,p'⟩,λx H' y=>?_⟩;obtain⟨e,y⟩:=y;subst e;have hx:=y xs q;rw[show xs[i]?=some xs[i] by simp[aJ]] at hx;cases hx;show a2
 .have e:i=xs.length:=by lia
  subst e;show .inl ⟨⟨xs,q,a2D _⟩,hd ys H p⟩
def mi:dw X (.builtin "isinstance") (λxs H Q=>∃x t c b,xs=[x,.ty c]/\f9 X.K H x t/\PySem.W.kitOne X.K t (.type c)=some b/\Q (.bl b) H):=by
 intro aa s σ H xs us Q I r h;obtain⟨x,t,c,b,rfl,ty,e,q⟩:=h;obtain⟨u,v,rfl,rx,ry⟩:=vals2 r;cases ry;show Rf I rx ty e λtk=>⟨.bl b,H,I.tok tk,Z,q⟩
def seen{σ:St}(I:Inv X aa σ H s)(hk:∀b o,b∉[s.heap.objs.size]->(s.heap.push {cls:=.type "list_iterator",data:=.fields #[.ref l,.int 0 0]}).get? b=some o->h'.get? b=some o) : Inv X aa σ H {s with heap:=h',toks:=tk}:=I.kept (old_kept hk)
def Sr{bs:List Bool}:((List.range bs.length).all λi=>(bs[i]?).getD true)=bs.all id:=by
 induction bs with
 | nil=>rfl
 | cons b r ih =>
  rw[a2P,List.range_succ_eq_map,a3x,a4k,a3x];congr 1
def qm(hc:X.calm=true):dw X (.builtin "all") (λxs H Q=>∃(p:Addr) (bs:List Bool),xs=[.ref p]/\ag X.K H p (bs.map V.bl)/\Q (.bl (bs.all id)) H):=by
 intro aa s σ H xs us Q I r h;obtain⟨p,bs,rfl,hq,q⟩:=h;obtain⟨u,rfl,rx⟩:=vals1 r;cases rx;obtain⟨af,rv,pl,hz⟩:=I.list hq;have hl:=pl.isList;have aJ:p<s.heap.objs.size:=by obtain⟨_,e,_⟩:=hl;show a2C e
 have hn:af.toArray.size=bs.length:=by rw[a2S,<-rv.length,a2x]
 show call_all_walk<|wpAny_pyIter_list hl (⟨_,_,_,_,_,_,λi=>(bs[i]?).getD true,Z,Walks.list (A:=X.A.in1) (I.ok.hd hc) s.heap.objs.size p (a2V aJ) af.toArray,⟨⟨_,a2F _ Z,Z,Z⟩,hl.push _⟩,?_,λh' tk hk=>?_⟩)
 .intro i v s' Q' E' hP hQ;have hv:af[i]?=some v:=by simpa using hP
  cases eb:bs[i]? with
  | none =>
   simp_all
  | some b =>
   obtain⟨u,hu,ru⟩:=rv.get (by rw[a2E,eb];rfl);rw[hu] at hv;cases hv;cases ru;show wpAny_truthy_bool ?_;have e:(bs[i]?).getD true=b:=by rw[eb];rfl
   rw[<-e];show hQ
 .rw[hn,Sr];show⟨.bl _,H,(show Inv X aa σ H {s with heap:=h',toks:=tk} from seen I hk),Z,q⟩
theorem sF(ns:List Int):∀k,k<=ns.length->preSum (λi=>(ns[i]?).getD 0) k=(ns.take k).sum
 | 0,_=>by simp[preSum]
 | k+1,h=>by
  have e:ns[k]?=some (ns[k]'(by lia)):=by simp
  rw[preSum,sF ns k (by lia),a2I,e,a3I];simp
theorem HW{B:Int}:∀(ns:List Int),(∀n∈ns,-B<=n/\n<=B)->-(ns.length*B)<=ns.sum/\ns.sum<=ns.length*B
 | [],_=>by simp
 | n::r,h=>by
  have h1:=h n (by simp);have h2:=HW r λm hm=>h m<|a2G _ hm;rw[a3d,a2P];lia
def Ss(hc:X.calm=true):dw X (.builtin "sum") (λxs H Q=>∃(p:Addr) (ns:List Int),xs=[.ref p]/\ag X.K H p (ns.map V.int)/\(ns.length<=1000/\∀n∈ns,-1000000000<=n/\n<=1000000000)/\Q (.int ns.sum) H):=by
 intro aa s σ H xs us Q I r h;obtain⟨p,ns,rfl,hq,⟨qo,hb⟩,q⟩:=h;obtain⟨u,rfl,rx⟩:=vals1 r;cases rx;obtain⟨af,rv,pl,hz⟩:=I.list hq;have hl:=pl.isList;have aJ:p<s.heap.objs.size:=by obtain⟨_,e,_⟩:=hl;show a2C e
 have hn:af.toArray.size=ns.length:=by rw[a2S,<-rv.length,a2x]
 show call_sum_walk<|wpAny_pyIter_list hl (⟨_,_,_,_,_,_,λi=>(ns[i]?).getD 0,Z,Walks.list (A:=X.A.in1) (I.ok.hd hc) s.heap.objs.size p (a2V aJ) af.toArray,⟨⟨_,a2F _ Z,Z,Z⟩,hl.push _⟩,λb bO=>?_,λi v hP=>?_,λj hj=>?_,λh' tk t' hk=>?_⟩)
 .rw[a3h];rcases a2B.mp bO with rfl | bO;.show a3K _
  .have e:b=p:=by simpa using bO
   rw[e];show a3S aJ
 .have hv:af[i]?=some v:=by simpa using hP
  cases eb:ns[i]? with
  | none =>
   simp_all
  | some b =>
   obtain⟨u,hu,ru⟩:=rv.get (by rw[a2E,eb];rfl);rw[hu] at hv;cases hv;obtain⟨t,rfl⟩:=ru;show⟨t,by simp[eb]⟩
 .rw[hn] at hj;have e:ns[j]?=some ns[j]:=by simp[hj]
  have b1:=hb ns[j] (a3R hj);have b2:=HW (ns.take (j+1)) λm hm=>hb m<|a4e hm;rw[sF ns _ (by lia)];have e3:(ns.take (j+1)).length=j+1:=by rw[a3a];lia
  show⟨⟨?_,?_⟩,?_,?_⟩
  .change _<=(ns[j]?).getD 0;rw[e];change _<=ns[j];lia
  .change(ns[j]?).getD 0<_;rw[e];change ns[j]<_;lia
  .lia
  .lia
 .rw[hn,sF ns ns.length (a2D _),a2M];show⟨.int _,H,(show Inv X aa σ H {s with heap:=h',toks:=tk} from seen I hk),⟨_,Z⟩,q⟩
def jj(P:Program)(w:World)(H:Hp)(x:V)(d:PyData):Prop:=∀(h:Heap) (v:Value),bC P w H h->RelV x v->∃as,Reads h v d as
def HX(b:Bool):jj P w H (.bl b) (.bool b):=λh v _ r=>by cases r;show⟨_,.bool b⟩
def A1(x:Str):jj P w H (.str x) (.str x):=λh v _ r=>by obtain⟨t,rfl⟩:=r;show⟨_,.str x t⟩
def Su(ok:bC P w H h)(a:az xs af)(b:Paired (jj P w H) xs ds):∃as,ReadsAll h af ds as:=by
 induction a generalizing ds with
 | nil=>cases b;show⟨_,.nil⟩
 | cons r t ih =>
  cases b with
  | cons q u =>
   obtain⟨as,h1⟩:=q _ _ ok r;obtain⟨bs,h2⟩:=ih u;show⟨_,.cons h1 h2⟩
def hJ(e:H a=some (.lst xs))(r:Paired (jj P w H) xs ds):jj P w H (.ref a) (.list ds):=λh v ok rv=>by
 cases rv;obtain⟨_,af,n,rs,e1⟩:=ok a _ e;obtain⟨as,h1⟩:=Su ok rs r;show⟨_,.list e1 Z Z<|by simpa using h1⟩
inductive qp(P:Program)(w:World)(neg:Bool)(x:V)(y:V)(H:Hp)(Q:VK):Prop
 | mk:∀dx dy,(jj P w H x dx)->(jj P w H y dy)->((dx.canLay0=true/\dy.canLay0=true/\dx.depth<=60))->(Q (.bl (if neg=true then !PyData.eqv dx dy else PyData.eqv dx dy)) H)->qp P w neg x y H Q
def Sv(hu:X.A.units+64<cLine):cu X (compareOp .Eq) (qp X.prog X.w false):=by
 intro aa s σ H x y v u Q I rx ry h;obtain⟨dx,dy,h1,h2,⟨c1,c2,c3⟩,q⟩:=h;obtain⟨as,r1⟩:=h1 _ _ I.am rx;obtain⟨bs,r2⟩:=h2 _ _ I.am ry;show SeqAt.compareEq_reads r1 r2 c1 c2 ?_ ⟨.bl _,H,I,Z,q⟩;have:min _ dy.depth<=dx.depth:=Nat.min_le_left _ _;lia
def Sw(hu:X.A.units+64<cLine):cu X (compareOp .NotEq) (qp X.prog X.w true):=by
 intro aa s σ H x y v u Q I rx ry h;obtain⟨dx,dy,h1,h2,⟨c1,c2,c3⟩,q⟩:=h;obtain⟨as,r1⟩:=h1 _ _ I.am rx;obtain⟨bs,r2⟩:=h2 _ _ I.am ry;show SeqAt.compareNe_reads r1 r2 c1 c2 ?_ ⟨.bl _,H,I,Z,q⟩;have:min _ dy.depth<=dx.depth:=Nat.min_le_left _ _;lia
def sG(h1:jj P w H x d)(h2:jj P w H y d)(c1:d.canLay0=true)(c2:d.depth<=60)(q:Q (.bl (!neg)) H):qp P w neg x y H Q:=by
 show⟨d,d,h1,h2,⟨c1,c1,c2⟩,?_⟩;rw[SeqAt.eqv_refl d c1];cases neg <;> show q
def Sx:typeLookup (.type "list_reverseiterator") "__len__"=pure none:=by kernel_rfl
def Sy:typeLookup (.type "list_reverseiterator") "__length_hint__"=pure (some (.builtin "list_reverseiterator.__length_hint__")):=by kernel_rfl
def Sz:isSubtype (.type "list_reverseiterator") (.type "list_reverseiterator")=pure true:=by kernel_rfl
def SA(bS:s.heap.IsRevIter J l i)(h:Q false s):wpAny (model prog w) A (Builtin.List.listLengthHint (.ref J)) Q E s:=by
 unfold Builtin.List.listLengthHint;show wpAny_bind (wpAny_specialOf bS.typeIs Sx ?_);change wpAny _ A (specialOf (Value.ref J) (Str.ofString "__length_hint__")>>=_) _ _ _;show wpAny_bind (wpAny_specialOf bS.typeIs Sy ?_);generalize HY:("list_reverseiterator.__length_hint__":String)=SD;wp_delta;rw[show splitId SD=some ("list_reverseiterator","__length_hint__") from by subst HY;decide];subst HY;show wpAny_bind (wpAny_isInstance (T:="list_reverseiterator") (b:=true) bS.typeIs Sz ?_);show wpAny_ite_split (λhU=>absurd hU (by decide)) (λ_=>?_);show wpAny_ite_split (λ_=>?_) (λhU=>absurd (by decide) hU);show wpAny_ite_split (λhU=>absurd hU (by decide)) (λ_=>?_);show wpAny_pure h
def SE(hh:A.handled=none)(aZ:l≠J)(bS:s.heap.IsRevIter J l ((items.size:Int)-1))(hl:s.heap.IsList l items)(hz:items.size<=sizeLine)(S:Addr)(res:Value)(c0:Nat)
  (hS:s.heap.get? S=some {cls:=.type "list",data:=.seq #[] c0}) (sH:S≠J) (wE:S≠l)
  (hR:∀h' tk acc c',(∀b o,b≠S->b≠J->s.heap.get? b=some o->h'.get? b=some o)->h'.get? S=some {cls:=.type "list",dict:=none,data:=.seq acc c',slots:=#[]}->
   ItemsOf (λi v=>items[items.size-1-i]?=some v) acc items.size->R (.ok (.ret res)) {s with heap:=h',toks:=tk}) :
  wpAny (model prog w) A.in1 (Builtin.List.listExtendWith (.ref S) (.ref J) res)
   (λfin s'=>match fin with | .done f=>R (.ok f) s' | .again c'=>c'.quiet=true/\codeAny (model prog w) A c' R s') (λe s'=>R (.error e) s') s:=by
 have W:=(Walks.listRev (prog:=prog) (w:=w) (A:=A.in1) hh J l aZ items).toS;have qq:S∉[J,l]:=λhm=>by simp_all
 show wpAny_bind<|wpAny_typeOf bS.typeIs ?_;have h1:Builtin.List.listSameRef (.ref S) (.ref J)=false:=by simp[Builtin.List.listSameRef,sH]
 have h2:(Value.type "list_reverseiterator"==Value.type "list")=false:=by decide
 have h3:(Value.type "list_reverseiterator"==Value.type "tuple")=false:=by decide
 simp only[h1,h2,h3,Bool.or_false,a3B,if_false];show wpAny_bind<|wpAny_pyIter_revIter bS (wpAny_bind (wpAny_holding (SA bS ?_)));show wpAny_ite_split (λhU=>absurd hU<|by decide)<|λ_=>(wpAny_pure ⟨plainId_quiet F.plain_extend_loop _,?_⟩);show codeAny_extend_loopS W hz S qq res _ 0 s #[] c0 Z (a3q _) ⟨a3q _,by simpa using bS,hl⟩ hS (ItemsOf.nil _) λs' sI c' hm oa dI=>?_;rw[Moved.eq_with hm];show hR _ _ sI c' (λb o hb ld e=>hm.heap b o (λz=>?_) e) oa dI;rcases a2B.mp z with z | z;.show hb z
 .show ld<|by simpa using z
def SF(hh:A.handled=none)(aZ:l≠J)(bS:s.heap.IsRevIter J l ((items.size:Int)-1))(hl:s.heap.IsList l items)(hz:items.size<=sizeLine)(S:Addr)
  (hS:s.heap.get? S=some {cls:=.type "list",data:=.seq #[]}) (sH:S≠J) (wE:S≠l)
  (hR:∀h' tk acc c',(∀b o,b≠S->b≠J->s.heap.get? b=some o->h'.get? b=some o)->h'.get? S=some {cls:=.type "list",dict:=none,data:=.seq acc c',slots:=#[]}->
   ItemsOf (λi v=>items[items.size-1-i]?=some v) acc items.size->R (.ok (.ret .none)) {s with heap:=h',toks:=tk}) :
  wpAny (model prog w) A.in1 (Builtin.«list.__init__» ⟨[.ref S,.ref J],[]⟩)
   (λfin s'=>match fin with | .done f=>R (.ok f) s' | .again c'=>c'.quiet=true/\codeAny (model prog w) A c' R s') (λe s'=>R (.error e) s') s:=by
 show wpAny_bind ?_;show wpAny_bind<|wpAny_seqItems hS Z<|wpAny_pure ?_;show wpAny_bind<|wpAny_updateSeq hS Z ?_;have g2:=a3Y (Obj.mapSeq<|λ_=> #[] ) hS Z;have ge:∀b o,b≠S->s.heap.get? b=some o->(s.heap.update S<|Obj.mapSeq<|λ_=> #[] ).get? b=some o := λb o hb e=>(a3r _ _<|Ne.symm hb).trans e;show wpAny_bind<|wpAny_letGo (SE hh aZ (bS.at λo e=>ge J o (Ne.symm sH) e) (hl.at λo e=>ge l o (Ne.symm wE) e) hz S .none _ g2 sH wE λh' tk sI c' hk oa dI=>?_);show hR h' tk sI c' (λb o hb ld e=>hk b o hb ld<|ge b o hb e) oa dI
def SH(hh:A.handled=none)(aZ:l≠J)(bS:s.heap.IsRevIter J l ((items.size:Int)-1))(hl:s.heap.IsList l items)(hz:items.size<=sizeLine) (hQ:∀h' tk acc c',(∀b o,b≠J->s.heap.get? b=some o->h'.get? b=some o)->h'.get? s.heap.objs.size=some {cls:=.type "list",dict:=none,data:=.seq acc c',slots:=#[]}-> ItemsOf (λi v=>items[items.size-1-i]?=some v) acc items.size->Q (.ref s.heap.objs.size) {s with heap:=h',toks:=tk}) : wpAny (model prog w) A (call (.type "list") [.ref J]) Q E s:=by
 have SI:J<s.heap.objs.size:=by obtain⟨o,e,_⟩:=bS;show a2C e
 have A2:l<s.heap.objs.size:=by obtain⟨o,e,_⟩:=hl;show a2C e
 show callType_codes (Q₁:=λobj s1=>obj=.ref _/\s1={s with heap:=s.heap.push {cls:=.type "list",data:=.seq #[]}}) F.called_list (F.typeCall_list_1 _) F.entry_list_init (code_list_new _ ⟨Z,Z⟩) λobj s1 h1=>?_;obtain⟨rfl,rfl⟩:=h1;have hS:(s.heap.push {cls:=.type "list",data:=.seq #[]}).get? _=some {cls:=.type "list",data:=.seq #[]}:=a2F _ Z;show⟨⟨_,hS,Z⟩,F.args_list_init_2 _ _,SF (A:=A.in1) hh aZ (bS.at λo e=>a2y _ e) (hl.at λo e=>a2y _ e) hz _ hS (a3u SI) (a3u A2) λh' tk sI c' hk oa dI=>⟨Z,hQ h' tk sI c' (λb o hb e=>hk b o (a2V (a2C e)) hb (a2y _ e)) oa dI⟩⟩
inductive HZ(K:PySem.W.Frag)(Q:VK)(x:V)(H1:Hp):Prop
 | mk:∀a xs,(x=.ref a)->(ag K H1 a xs)->(∀p,H1 p=none->Q (.ref p) (ad H1 p (.lst xs.reverse)))->HZ K Q x H1
def SJ(K:PySem.W.Frag)(te:TE):TE:=fun σ H Q=>te σ H (HZ K Q)
def SK{af:List Value}(h:ItemsOf (λi v=>af.toArray[af.toArray.size-1-i]?=some v) acc af.toArray.size):acc.toList=af.reverse:=by
 obtain⟨h0,h2⟩:=h;have h1:acc.size=af.length:=by rw[h0];simp
 apply a5h;intro i;by_cases hi:i<acc.size
 .have e:=h2 i acc[i] (by simp[hi]);have e':af[af.length-1-i]?=some acc[i]:=by simpa using e
  rw[List.getElem?_reverse (by lia),e'];simp[hi]
 .simp_all
def SL(hc:X.calm=true)(mj:X.mg "list"=none)(gf:X.mg "reversed"=none)(A3:Gl X "list")(SM:Gl X "reversed")(he:PE X e te)(h1:starEach [e] X.env=[(false,eval e X.env)]:=by rfl) : PE X (.Call (.Name "list" p1) [.Call (.Name "reversed" p2) [e] [] q2] [] q1) (SJ X.K te):=by
 show λaa s σ H Q I h=>wpAny_Call_Name_kw<|jd I A3 mj boot_list ?_;show PyProof.Rows.callWith_type1 ?_ Z Z;show Calls.spliced_cons (wpAny_Call_Name_kw (jd I SM gf boot_reversed ?_));show PyProof.Rows.callWith_type1 ?_ h1 Z;show h1▸?_;show Calls.spliced_cons<|ar (he aa s σ H _ I h) λu s1 ⟨x,H1,I1,r1,q1⟩=>?_;obtain⟨a,xs,rfl,hq,q⟩:=q1;cases r1;obtain⟨af,rv,pl,hz⟩:=I1.list hq;have hl:=pl.isList;have bE:=rv.length;have A2:a<s1.heap.objs.size:=by obtain⟨o,e,_⟩:=hl;show a2C e
 show Calls.spliced_nil (call_reversed_list hl ?_);show Calls.spliced_nil (SH (items:=af.toArray) (I1.ok.hd hc) (a2V A2) ⟨_,a2F _ Z,Z,Z⟩ (hl.at λo e=>a2y _ e) (by rw[a2S];lia) λh' tk acc c' hk hS dI=>?_);have eS:(s1.heap.push<|revObj a ((af.toArray.size)-1)).objs.size=s1.heap.objs.size+1:=a3h ..;have mh:s1.heap.objs.size<=(s1.heap.push<|revObj a ((af.toArray.size)-1)).objs.size:=by rw[eS];show a5w _
 have ea:=SK dI;show⟨.ref _,_,I1.laid (o:=.lst _) (λb o e=>hk b o (a2V<|a2C e)<|a2y _ e) mh ⟨by simp_all,af.reverse,c',rv.reverse,?_⟩,Z,q _<|I1.am.fresh mh⟩;rw[hS,<-ea]
section
variable{σ:St}
def Inv.A4{ch:List Addr}{T:Addr}(I:Inv X aa σ H s)(k:∀b u,b∉ch->s.heap.get? b=some u->h'.get? b=some u)(hf:∀b∈ch,gW X aa H b)(hT:s.heap.objs.size<=T) (new:cr X.prog X.w (ad H T o) h' T o):Inv X aa σ (ad H T o) {s with heap:=h',toks:=t'}:=by
 have hn:=I.am.fresh hT;have lt:∀b u,s.heap.get? b=some u->b≠T:=λb u e=>a2V<|a2L (a2C e) hT
 have tr:∀b u,H b=some u->b∉ch:=λb u e hb=>by
  obtain⟨f0,_⟩:=hf b hb;rw[e] at f0;cases f0
 show I.step (λb hb=>?_) (λb u _ _ hc e _=>k b u hc e) (λb u _ _ hc e _=>⟨u.slots,k b u hc e⟩) (λb u _ e n=>by rw[i_ (lt b u e)];show n) (λb u hc e=>⟨u,k b u hc e⟩) (λb xs e=>by rw[i_ (l_ e hn)];show e) (λb u x e=>by rw[i_ (l_ e hn)];show e) (λb ps e=>⟨#[],by show (i_ (l_ e hn))▸e▸?_;simp⟩) (λm hm=>?_) (λb u e=>?_) I.bare
 .obtain⟨_,f1,_,f3,f4,f5⟩:=hf b hb;show⟨f3,f1,f4,f5⟩
 .obtain⟨u,es,ep,hu,r⟩:=hm;show⟨u,es,ep,k _ u (λz=>(hf _ z).2.1 Z) hu,r⟩
 .by_cases hb:b=T
  .subst hb;rw[c_] at e;cases e;show new
  .rw[i_ hb] at e;show(I.am b u e).gt (λc v hc q=>k c v ?_ q) (λc q=>by rw[i_ (l_ q hn)];show q) λc xs q=>by rw[i_ (l_ q hn)];show q
   rcases hc with rfl | hc;.show tr _ _ e
   .show tr _ _ hc
def Inv.A5{ch:List Addr}(I:Inv X aa σ H s)(k:∀b u,b∉ch->s.heap.get? b=some u->h'.get? b=some u)(hf:∀b∈ch,gW X aa H b):Inv X aa σ H {s with heap:=h',toks:=t'}:=by
 have tr:∀b u,H b=some u->b∉ch:=λb u e hb=>by
  obtain⟨f0,_⟩:=hf b hb;rw[e] at f0;cases f0
 show I.step (λb hb=>?_) (λb u _ _ hc e _=>k b u hc e) (λb u _ _ hc e _=>⟨u.slots,k b u hc e⟩) (λ_ _ _ _ n=>n) (λb u hc e=>⟨u,k b u hc e⟩) (λ_ _ e=>e) (λ_ _ _ e=>e) (λb ps e=>⟨#[],by show e▸?_;simp⟩) (λm hm=>?_) (λb u e=>?_) I.bare
 .obtain⟨_,f1,_,f3,f4,f5⟩:=hf b hb;show⟨f3,f1,f4,f5⟩
 .obtain⟨u,es,ep,hu,r⟩:=hm;show⟨u,es,ep,k _ u (λz=>(hf _ z).2.1 Z) hu,r⟩
 .show(I.am b u e).gt (λc v hc q=>k c v ?_ q) (λ_ q=>q) λ_ _ q=>q;rcases hc with rfl | hc;.show tr _ _ e
  .show tr _ _ hc
end
def ml(K:PySem.W.Frag)(a b:Addr):It := ⟨λi H=>∃xs ys x y,ag K H a xs/\ag K H b ys/\xs[i]?=some x/\ys[i]?=some y, λi H v H'=>∃t x y,v=.ref t/\H t=none/\(∀xs,ag K H a xs->xs[i]?=some x)/\(∀ys,ag K H b ys->ys[i]?=some y)/\H'=ad H t (.tup [x,y]), λi H=>∃xs ys,ag K H a xs/\ag K H b ys/\(xs.length<=i\/ys.length<=i)⟩
def SN{K:PySem.W.Frag}(a b z TI TO i1 i2:Addr)(D:ZipApart z TI TO i1 i2 a b):jQ P w K (.Tuple elts x1 pos) (ml K a b) [z,TI,TO,i1,i2] z (λi h=>IsZip h z TI TO .none/\IsPair h TI (.ref i1) (.ref i2)/\(∃u v,IsPair h TO u v)/\h.IsListIter i1 a i/\h.IsListIter i2 b i) where
 mem:=by simp
 obj:=λi h st c hb=>by
  obtain⟨h1,h2,⟨u,v,h3⟩,⟨o4,h4,_,d4⟩,⟨o5,h5,_,d5⟩⟩:=st;simp only[a2B,a2Q,or_false] at hb;rcases hb with rfl | rfl | rfl | rfl | rfl;.simp_all
  .simp_all
  .simp_all
  .simp_all
  .simp_all
 keep:=λi h h' st k=>by
  obtain⟨h1,h2,⟨u,v,h3⟩,h4,h5⟩:=st;show⟨k z (by simp) _ h1,k TI (by simp) _ h2,⟨u,v,k TO (by simp) _ h3⟩,h4.at λo q=>k i1 (by simp) o q,h5.at λo q=>k i2 (by simp) o q⟩
 item:=by
  intro X hP hw hK hc i aa s σ H E I hf st hg;subst hP hw hK;obtain⟨h1,h2,⟨u0,v0,h3⟩,h4,h5⟩:=st;obtain⟨xs,ys,x,y,ek,fR,hx,hy⟩:=hg;obtain⟨af,rv,p,hz⟩:=I.list ek;obtain⟨qr,cR,p',mn⟩:=I.list fR;obtain⟨u,hu,ru⟩:=rv.get hx;obtain⟨v,hv,mq⟩:=cR.get hy;have e1:=a2C h1
  have sJ:∀c∈[z,TI,TO,i1,i2],∃o,s.heap.get? c=some o:=λc hb=>by
   obtain⟨o4,q4,_⟩:=h4;obtain⟨o5,q5,_⟩:=h5;simp only[a2B,a2Q,or_false] at hb;rcases hb with rfl | rfl | rfl | rfl | rfl;.show⟨_,h1⟩
   .show⟨_,h2⟩
   .show⟨_,h3⟩
   .show⟨_,q4⟩
   .show⟨_,q5⟩
  show wpAny_pyNext_zip_item D h1 h2 h3 h4 h5 p.isList p'.isList (by simpa using hu) (by simpa using hv) λh' g1 g2 g3 g4 g5 g6 g7=>⟨_,Z,(wpAny_letOwnedTupleGo_zip g1 λgF g8 g9=>?_)⟩;have kk:∀c o,c∉[z,TI,TO,i1,i2]->s.heap.get? c=some o->gF.get? c=some o:=λc o hb q => g9.extBut c o (λq=>hb (by simp[q])) (g7 c o (λq=>hb (by simp[q])) (λq=>hb (by simp[q])) (λq=>hb (by simp[q])) (λq=>hb (by simp[q])) q);have tT:=g9.extBut _ _ (a3u e1) g5;have I1:=I.A4 (t':=s.toks) (o:=.tup [x,y]) kk hf (a2D _) ⟨by change 2<=sizeLine;decide,[u,v],.cons ru (.cons mq .nil),⟨_,tT,Z,_,Z⟩⟩;have hn:=I.am.fresh (a2D _);show⟨.ref s.heap.objs.size,_,I1,Z,⟨_,x,y,Z,hn,λzs di=>by rw[I.nD di ek];show hx,λzs di=>by rw[I.nD di fR];show hy,Z⟩,⟨g8,?_,⟨u,v,?_⟩,?_,?_⟩,λc hb=>?_⟩;.show g9.extBut _ _ D.TIz (g7 _ _ D.TIz D.TITO D.TIi1 D.TIi2 h2)
  .show g9.extBut _ _ D.TOz g2
  .show g3.extBut g9.extBut D.i1z
  .show g4.extBut g9.extBut D.i2z
  .obtain⟨f0,_⟩:=hf c hb;obtain⟨o,q⟩:=sJ c hb;rw[i_ (a2V (a2C q))];show f0
 done:=by
  intro X hP hw hK hc i aa s σ H E I hf st hg;subst hP hw hK;obtain⟨h1,h2,⟨u0,v0,h3⟩,h4,h5⟩:=st;obtain⟨xs,ys,ek,fR,hx⟩:=hg;obtain⟨af,rv,p,hz⟩:=I.list ek;obtain⟨qr,cR,p',mn⟩:=I.list fR;have hl:=rv.length;have cW:=cR.length;show wpAny_pyNext_zip_end (I.ok.hd hc) D h1 h2 h3 h4 h5 p.isList p'.isList ?_ λh' eb=>⟨Z,I.A5 (λc o hb q=>eb c o (λq=>hb (by simp[q])) (λq=>hb (by simp[q])) (λq=>hb (by simp[q])) (λq=>hb (by simp[q])) q) hf⟩;rcases hx with hx | hx;.show .inl (by simp;lia)
  .show .inr (by simp;lia)
 self:=λ_ _ _ _ _ st h=>wpAny_pyIter_zip st.1 h
section
variable{elts:List Expr}{p pos jU:Pos}
inductive Ia(K:PySem.W.Frag)(R:It->Hp->Prop)(x:V)(y:V)(H2:Hp):Prop
 | mk:∀a b,(x=.ref a)->(y=.ref b)->((∃xs,ag K H2 a xs))->((∃ys,ag K H2 b ys))->(R (ml K a b) H2)->Ia K R x y H2
def SQ(K:PySem.W.Frag)(tl gG:TE):TI:=fun σ H R=>tl σ H λx H1=>gG σ H1 (Ia K R x)
def Ib{x1}(hg:Gl X "zip")(hm:X.mg "zip"=none)(hl:PE X l tl)(aS:PE X l2 gG)(hs:starEach [l,l2] X.env=[(false,eval l X.env),(false,eval l2 X.env)]:=by rfl)(gz:starEach [l2] X.env=[(false,eval l2 X.env)]:=by rfl) : PI X (.Tuple elts x1 jU) (.Call (.Name "zip" p) [l,l2] [] pos) (SQ X.K tl gG):=by
 show λaa s σ H R I h=>Call_<|jd I hg hm boot_zip<|PyProof.Rows.callWith_type1 ?_ (by rw[hs,gz])<|by rw[gz];rfl
 show hs▸?_;show Calls.spliced_cons<|ar (hl aa s σ H _ I h) λu s1 ⟨x,H1,I1,r1,q1⟩=>Calls.spliced_cons<|ar (aS aa s1 σ H1 _ I1 q1) λu2 s2 ⟨y,H2,I2,r2,q2⟩=>Calls.spliced_nil ?_;obtain⟨a,b,rfl,rfl,⟨xs,ek⟩,⟨ys,fR⟩,q⟩:=q2;cases r1;cases r2;obtain⟨af,rv,pl,hz⟩:=I2.list ek;obtain⟨qr,mq,mr,mn⟩:=I2.list fR;have la:a<s2.heap.objs.size:=by obtain⟨_,e,_⟩:=pl.isList;show a2C e
 have lb:b<s2.heap.objs.size:=by obtain⟨_,e,_⟩:=mr.isList;show a2C e
 show call_zip_2 pl.isList mr.isList λh' g1 g2 g3 g4 g5 g6 g7=>?_;have D:=zipApart_new la lb;have T:=SN (P:=X.prog) (w:=X.w) (K:=X.K) (elts:=elts) (x1:=x1) (pos:=jU) a b _ _ _ _ _ D;show T.self _ 0 _ _ _ ⟨g1,g2,⟨_,_,g3⟩,g4,g5⟩ (⟨s2.heap.objs.size+4,_,_,_,H2,Z,I2.kept (t':=s2.toks) g7,T,⟨g1,g2,⟨_,_,g3⟩,g4,g5⟩,λc hb=>?_,q⟩)
 have bO:s2.heap.objs.size<=c:=by
  simp only[a2B,a2Q,or_false] at hb;rcases hb with rfl | rfl | rfl | rfl | rfl;.show a3t _ _
  .show a3t _ _
  .show a3t _ _
  .show a2D _
  .show a3t _ _
 show I2.nJ bO<|I2.am.fresh bO
end
def SR{K:PySem.W.Frag}{G:V->Hp->(List V->Hp->Prop)->List V->Prop}{Fin:List V->Hp->Prop}(Pv:Nat->List V->Hp->Prop)(bE:xs.length=ys.length)(h0:Pv 0 [] H) (hl:∀i zs H,i<=xs.length->Pv i zs H->ag K H a xs/\ag K H b ys) (hz:∀i zs H,i<xs.length->Pv i zs H->zs.length<sizeLine) (hs:∀i x y zs H t,xs[i]?=some x->ys[i]?=some y->Pv i zs H->H t=none->G (.ref t) (ad H t (.tup [x,y])) (Pv (i+1)) zs) (hd:∀zs H,Pv xs.length zs H->Fin zs H) : ∃W:Nat->Nat->List V->Hp->Prop,(∃m,W 0 m [] H)/\∀i m zs H,W i m zs H-> ((ml K a b).stop i H/\Fin zs H)\/((ml K a b).go i H/\zs.length<sizeLine/\∃Nx:List V->Hp->Prop,(∀cD H',Nx cD H'->∃m',m'<m/\W (i+1) m' cD H')/\∀x H',(ml K a b).gy i H x H'->G x H' Nx zs):=by
 show⟨λi m zs H=>m=xs.length-i/\i<=xs.length/\Pv i zs H,⟨xs.length,by simp,a3q _,h0⟩,?_⟩;rintro i m zs H ⟨rfl,hi,p⟩;obtain⟨q1,q2⟩:=hl i zs H hi p;by_cases aJ:i<xs.length
 .have e1:xs[i]?=some xs[i]:=by simp[aJ]
  have e2:ys[i]?=some (ys[i]'(by lia)):=by simp
  show .inr ⟨⟨xs,ys,_,_,q1,q2,e1,e2⟩,hz i zs H aJ p,Pv _,λcD H' p'=>⟨xs.length-(i+1),by lia,Z,aJ,p'⟩,λv H' y=>?_⟩;obtain⟨t,x,y,rfl,ht,y1,y2,rfl⟩:=y;show hs i x y zs H t (y1 xs q1) (y2 ys q2) p ht
 .have e:i=xs.length:=by lia
  subst e;show .inl ⟨⟨xs,ys,q1,q2,.inl<|a2D _⟩,hd zs H p⟩
end L2
namespace Ma
def ups(b n L:Nat):List Nat:=(List.range L).map λj=>n / b ^ j % b
def aB(b n L i:Nat):List Nat:=(List.range i).map λj=>n / b ^ (L-1-j) % b
def SS(b n i:Nat):ups b n (i+1)=ups b n i++[n / b ^ i % b]:=by unfold ups;rw[a5C,a3e];rfl
def A6(b n L i:Nat):aB b n L (i+1)=aB b n L i++[n / b ^ (L-1-i) % b]:=by unfold aB;rw[a5C,a3e];rfl
def ST(b n L:Nat):(ups b n L).length=L:=by simp[ups]
def R_(b n L i:Nat):(aB b n L i).length=i:=by simp[aB]
def SU(b n L:Nat):(ups b n L).reverse=aB b n L L:=by
 apply List.ext_getElem;.simp[ups,aB]
 .intro i h1 h2;simp[ups,aB]
def SV(b n i:Nat):n / b ^ i / b=n / b ^ (i+1):=by rw[a3L,a4c]
theorem Id:∀(ps:List Nat),(∀p∈ps,1<=p/\p<=6)->ps.length<=ps.sum/\ps.sum<=6*ps.length
 | [],_=>by simp
 | p::r,h=>by
  have h1:=h p (by simp);have h2:=Id r λq hq=>h q<|a2G _ hq;simp only[a3d,a2P];lia
theorem Ie:∀(ps:List Nat),(ps.map λ(p:Nat)=>(p:Int)).sum=((ps.sum:Nat):Int)
 | []=>rfl
 | p::r=>by simp[Ie r]
end Ma
namespace Ma
def aW:List Nat->List Int->List (List Int)
 | [],_=>[]
 | p::ps,xs=>xs.take p::aW ps (xs.drop p)
def gH(ps:List Nat)(xs:List Int):List Int:=(aW ps xs).map List.sum
def SW:Nat->List Nat->List Nat
 | _,[]=>[]
 | o,p::ps=>(o+p)::SW (o+p) ps
def A7(ps:List Nat)(xs:List Int):(gH ps xs).length=ps.length:=by
 unfold gH
 induction ps generalizing xs with
 | nil=>rfl
 | cons p ps ih=>simp[aW,ih]
end Ma
namespace Ma
def b6(b n L:Nat)(ws:List Int):List Int:=List.zipWith (λ(d:Nat) (x:Int)=>(d:Int)*x) (aB b n L L) ws
def A8(b n L:Nat)(ws:List Int)(h:ws.length=L):(b6 b n L ws).length=L:=by unfold b6;rw[List.length_zipWith,R_,h,Nat.min_self]
def SX{i d:Nat}(h1:(aB b n L L)[i]?=some d)(h2:ws[i]?=some x):(b6 b n L ws)[i]?=some ((d:Int)*x):=by unfold b6;rw[a4r,h1,h2]
def A9(hb:0<b)(h:d∈aB b n L L):d<b:=by
 obtain⟨j,_,rfl⟩:=a2N.mp h;show a5p _ hb
def SY(qo:0<b)(hb:b<=16)(hw:∀x∈ws,-9<=x/\x<=9):∀y∈b6 b n L ws,-1000<=y/\y<=1000:=by
 intro y hy;unfold b6 at hy;obtain⟨i,hi⟩:=a3y hy;rw[a4r] at hi
 cases h1:(aB b n L L)[i]? with
 | none=>rw[h1] at hi;simp at hi
 | some d =>
  cases h2:ws[i]? with
  | none=>rw[h1,h2] at hi;simp at hi
  | some x =>
   rw[h1,h2] at hi;have hd:=A9 qo (a2A h1);have hx:=hw x (a2A h2);have d0:(0:Int)<=d:=by lia
   have a1:=a4f hx.2 d0;have a2:=a4f hx.1 d0;lia
def X_(ps:List Nat):∀xs:List Int,(aW ps xs).length=ps.length:=by
 induction ps with
 | nil=>intro xs;rfl
 | cons p ps ih=>intro xs;simp[aW,ih]
def wF(ps:List Nat):∀ xs   i p ,ps[i]?=some p->(aW ps xs)[i]?=some ((xs.drop (ps.take i).sum).take p):=by
 induction ps with
 | nil=>intro xs i p h;simp at h
 | cons q ps ih =>
  intro xs i p h
  cases i with
  | zero=>simp at h;subst h;simp[aW]
  | succ i =>
   have h':ps[i]?=some p:=by simpa using h
   have:=ih (xs.drop q) i p h';simp only[aW,a4g,this,List.take_succ_cons,a3d,a5i]
def qt:∀ {xs row:List Int},row∈aW ps xs->∀x∈row,x∈xs:=by
 induction ps with
 | nil=>intro xs row h;simp[aW] at h
 | cons p ps ih =>
  intro xs row h x hx;rcases a2B.mp h with rfl | h;.show a4e hx
  .show a3D<|ih h x hx
def qu(hp:∀p∈ps,p<=6):∀ {xs row:List Int},row∈aW ps xs->row.length<=6:=by
 induction ps with
 | nil=>intro xs row h;simp[aW] at h
 | cons p ps ih =>
  intro xs row h;rcases a2B.mp h with rfl | h;.have:=hp p (by simp);rw[a3a];lia
  .show ih (λq hq=>hp q<|a2G _ hq) h
end Ma
namespace Ma
def bA:List Int->Int
 | []=>0
 | [x]=>x
 | x::r=>max x (bA r)
def aQ:List Int->Int
 | []=>0
 | [x]=>x
 | x::r=>min x (aQ r)
theorem H_:∀ns:List Int,0<ns.length->bA ns∈ns/\∀n∈ns,n<=bA ns
 | [],h=>by simp at h
 | [x],_=>by simp[bA]
 | x::y::r,_=>by
  have ih:=H_ (y::r) (by simp);have e:bA (x::y::r)=max x _:=rfl;rw[e];show⟨?_,λn hn=>?_⟩
  .rcases Int.le_total x _ with h | h;.rw[Int.max_eq_right h];show a2G _ ih.1
   .rw[Int.max_eq_left h];simp
  .rcases a2B.mp hn with rfl | hn;.show Int.le_max_left _ _
   .show a4P (ih.2 n hn)<|Int.le_max_right _ _
theorem E_:∀ns:List Int,0<ns.length->aQ ns∈ns/\∀n∈ns,aQ ns<=n
 | [],h=>by simp at h
 | [x],_=>by simp[aQ]
 | x::y::r,_=>by
  have ih:=E_ (y::r) (by simp);have e:aQ (x::y::r)=min x _:=rfl;rw[e];show⟨?_,λn hn=>?_⟩
  .rcases Int.le_total x _ with h | h;.rw[Int.min_eq_left h];simp
   .rw[Int.min_eq_right h];show a2G _ ih.1
  .rcases a2B.mp hn with rfl | hn;.show Int.min_le_left _ _
   .show a4P (Int.min_le_right _ _)<|ih.2 n hn
def Ig(h1:m∈ns)(h2:∀n∈ns,n<=m):m=bA ns:=by
 have h:=H_ ns (a3T h1);show Int.le_antisymm (h.2 m h1)<|h2 _ h.1
def Ih(h1:m∈ns)(h2:∀n∈ns,m<=n):m=aQ ns:=by
 have h:=E_ ns (a3T h1);show Int.le_antisymm (h2 _ h.1)<|h.2 m h1
end Ma
namespace L2
open PySem PySem.Spec PyProof.Rows
structure ai(P:Program)(w:World)(K:PySem.W.Frag)(mg:Str->Option Value)(base:Heap)(k:Nat)(x:Str)(ps:List Str)(sp:Sp):Prop where
 ex:∃f fd,av P w K mg base aE k f fd ps sp/\mg x=some (.ref f)/\PySem.W.keepIn K (.ref f)=true/\Binds K fd ps []
section
variable{p pos:Pos}
def m_(D:ai X.prog X.w X.K X.mg X.base k x ps sp)(hr:bD k X.A)(hg:Gl X x)(ha:PA X (e::es) t)(fE:(x==("__debug__":Str))=false:=by decide) (he:starEach (e::es) X.env=(false,eval e X.env)::starEach es X.env:=by rfl) (cy:(backTo pos (starEach es X.env)).any (·.1)=false:=by rfl):PE X (.Call (.Name x p) (e::es) [] pos) (se sp [] E0 t):=by
 obtain⟨f,fd,G,h1,h2,h3⟩:=D.ex;show G7 G hr hg h1 h2 h3 .nil sB ha fE he cy
def bH(ha:PE X a ta)(hb:PE X b tb)(hs:sk b:=by intro _ _;rfl):PE X (.Subscript a b pos) (iD (qc X.K) ta tb):=sr Rv ha hb hs
def ce(ha:PE X a ta)(hb:PE X b tb)(hs:sk b:=by intro _ _;rfl):PE X (.Subscript a b pos) (iD (ss X.K) ta tb):=sr Rw ha hb hs
def eV(hm:X.mg "len"=none)(hg:Gl X "len")(ha:PE X a ta)(hs:starEach [a] X.env=[(false,eval a X.env)]:=by rfl) : PE X (.Call (.Name "len" p) [a] [] pos) (vX (λxs H Q=>∃p ys,xs=[.ref p]/\(ag X.K H p ys\/aP X.K H p ys)/\Q (.int ys.length) H) (kM ta ee)):=p_ AM hg hm PySem.boot_len (a_ ha d_ hs) (he:=hs)
def sK(K:PySem.W.Frag)(hK:X.K=K)(ha:PE X a ta)(hb:PE X b tb)(hs:sk b:=by intro _ _;rfl):PE X (.Subscript a b pos) (iD (qc K) ta tb):=by
 subst hK;show bH ha hb hs
def Ii(K:PySem.W.Frag)(hK:X.K=K)(ha:PE X a ta)(hb:PE X b tb)(hs:sk b:=by intro _ _;rfl):PE X (.Subscript a b pos) (iD (ss K) ta tb):=by
 subst hK;show ce ha hb hs
def Ij(K:PySem.W.Frag)(hK:X.K=K):vZ X (AJ K):=by
 subst hK;show wc
def sL(K:PySem.W.Frag)(hK:X.K=K){k n:Nat}(hc:X.calm=true)(h:rW X es u)(hn:(assignEach es X.env).length=n:=by rfl)(eT:(assignEach es X.env).findIdx? (·.1)=none:=by rfl):PG X (.Tuple es k pos) (p8 K n u):=by
 subst hK;show Gy hc h hn eT
def sO(P:Program)(w:World)(hP:X.prog=P)(hw:X.w=w)(hu:X.A.units+64<cLine):cu X (compareOp .NotEq) (qp P w true):=by
 subst hP hw;show Sw hu
def Ba{K:PySem.W.Frag}:nZ 2 (p8 K 2 (nG (jf 0) (nG (jf 1) vK))):=λv σ H Q q=>by
 obtain⟨a,xs,e,h1,h2,v0,r0,e0,v1,r1,e1,e2,q⟩:=q;show⟨a,xs,e,h1,h2,v0,r0,e0,v1,r1,e1,e2,⟨by simp,λi hi=>by rw[a4d (by lia),a4d (by lia)]⟩,q⟩
def lf(hm:X.mg y=none)(hv:bootBuiltins y=some (.type T))(hg:Gl X y:=by rfl)(hn:y≠"__name__":=by decide)(hd:(y==("__debug__":Str))=false:=by decide):PE X (.Name y pos) (tC (.ty T)) := Qi hg hm hv Z hn hd
def sP{K:PySem.W.Frag}(h:H q=some (.lst xs))(e:cv xs i=some v)(k:Q v H):qc K (.ref q) (.int i) H Q:=⟨q,xs,i,v,Z,Z,ag.of h,e,k⟩
def Ik{K:PySem.W.Frag}(h:H q=some (.tup xs))(e:cv xs i=some v)(k:Q v H):ss K (.ref q) (.int i) H Q:=⟨q,xs,i,v,Z,Z,aP.of h,e,k⟩
end
end L2
namespace Hv
open PySem L2
def sz(h:n<=1000000):n<=sizeLine:=a2U h (by decide)
def bT(h:n<=1000000):n<sizeLine:=a5a h (by decide)
def Kp(fp:List Addr)(H H':Hp):Prop:=∀b o,H b=some o->b∉fp->H' b=some o
def Kp.refl:Kp fp H H:=λ_ _ h _=>h
def Kp.trans(a:Kp fp H H1)(b:Kp fp H1 H2):Kp fp H H2:=λc o h n=>b c o (a c o h n) n
def Kp.of(a:ae H H'):Kp fp H H':=λc o h _=>a c o h
def e_(h:H a=none):ae H (ad H a o):=λb u e=>by rw[i_ (l_ e h)];show e
def D_(s:ae H H')(h:H a=none):ae H (ad H' a o):=λb u e=>by rw[i_ (l_ e h)];show s b u e
def sQ(s:Kp fp H H')(h:a∈fp\/H a=none):Kp fp H (ad H' a o):=λb u e n=>by
 have:b≠a:=by
  rcases h with h | h;.show λz=>n (z▸h)
  .show l_ e h
 rw[i_ this];show s b u e n
structure dY(b:Nat)(ps:List Nat)(ws:List Int):Prop where
 b2:2<=b
 cz:b<=16
 l2:2<=ps.length
 l4:ps.length<=4
 pr:∀p∈ps,1<=p/\p<=6
 wl:ws.length=ps.sum
 wr:∀x∈ws,-9<=x/\x<=9
abbrev aA(ps:List Nat):List V:=ps.map λ(p:Nat)=>V.int (p:Int)
def Bb(ps:List Nat):aA ps=(ps.map λ(p:Nat)=>(p:Int)).map V.int:=by simp[aA]
structure aV(H:Hp)(f a c:Addr)(b:Nat)(ps:List Nat)(ws:List Int):Prop where
 tp:H f=some (.tup [.int b,.ref a,.ref c])
 hp:H a=some (.lst (aA ps))
 hw:H c=some (.lst (ws.map V.int))
 ok:dY b ps ws
def aV.keep(F:aV H f a c b ps ws)(s:ae H H'):aV H' f a c b ps ws:=⟨s _ _ F.tp,s _ _ F.hp,s _ _ F.hw,F.ok⟩
theorem dY.sum(F:dY b ps ws):2<=ps.sum/\ps.sum<=24:=by
 have h:=Ma.Id ps F.pr;have h1:=F.l2;have h2:=F.l4;lia
theorem boot_isinstance:bootBuiltins "isinstance"=some (.builtin "isinstance"):=PyProof.Rows.boot_isinstance
theorem boot_int:bootBuiltins "int"=some (.type "int"):=PyProof.Rows.boot_int
theorem boot_bool:bootBuiltins "bool"=some (.type "bool"):=PyProof.Rows.boot_bool
theorem boot_list:bootBuiltins "list"=some (.type "list"):=PyProof.Rows.boot_list
theorem boot_tuple:bootBuiltins "tuple"=some (.type "tuple"):=PyProof.Rows.boot_tuple
theorem boot_all:bootBuiltins "all"=some (.builtin "all"):=PyProof.Rows.boot_all
theorem boot_sum:bootBuiltins "sum"=some (.builtin "sum"):=PyProof.Rows.boot_sum
theorem boot_max:bootBuiltins "max"=some (.builtin "max"):=PyProof.Rows.boot_max
theorem boot_min:bootBuiltins "min"=some (.builtin "min"):=PyProof.Rows.boot_min
structure Txt(mg:Str->Option Value):Prop where
 fF:mg "isinstance"=none
 int:mg "int"=none
 bool:mg "bool"=none
 list:mg "list"=none
 tuple:mg "tuple"=none
 all:mg "all"=none
 len:mg "len"=none
 sum:mg "sum"=none
 range:mg "range"=none
 max:mg "max"=none
 min:mg "min"=none
 rev:mg "reversed"=none
 zip:mg "zip"=none
 enum:mg "enumerate"=none
def SZ:PySem.W.kitOne K (.type "int") (.type "int")=some true:=by kernel_rfl
def Ta:PySem.W.kitOne K (.type "int") (.type "bool")=some false:=by kernel_rfl
def Tb:PySem.W.kitOne K (.type "bool") (.type "int")=some true:=by kernel_rfl
def Tc:PySem.W.kitOne K (.type "bool") (.type "bool")=some true:=by kernel_rfl
def Td:PySem.W.kitOne K (.type "NoneType") (.type "int")=some false:=by kernel_rfl
def Te:PySem.W.kitOne K (.type "str") (.type "int")=some false:=by kernel_rfl
def Tg:PySem.W.kitOne K (.type "list") (.type "int")=some false:=by kernel_rfl
def Th:PySem.W.kitOne K (.type "tuple") (.type "int")=some false:=by kernel_rfl
def Ti:PySem.W.kitOne K (.type "dict") (.type "int")=some false:=by kernel_rfl
def Tj:PySem.W.kitOne K (.type "list") (.type "list")=some true:=by kernel_rfl
def Il:PySem.W.kitOne K (.type "tuple") (.type "tuple")=some true:=by kernel_rfl
inductive cM(H:Hp):V->Prop where
 | au:cM H .au
 | bl (b:Bool):cM H (.bl b)
 | int (i:Int):cM H (.int i)
 | str (x:Str):cM H (.str x)
 | lst {a:Addr} {xs:List V} (e:H a=some (.lst xs)):cM H (.ref a)
 | tup {a:Addr} {xs:List V} (e:H a=some (.tup xs)):cM H (.ref a)
 | dK {a:Addr} {kvs:List (ax×V)} (e:H a=some (.dK kvs)):cM H (.ref a)
def cM.keep(t:cM H v)(s:ae H H'):cM H' v:=by
 cases t with
 | au=>show .au
 | bl b=>show .bl b
 | int i=>show .int i
 | str x=>show .str x
 | lst e=>show .lst<|s _ _ e
 | tup e=>show .tup<|s _ _ e
 | dK e=>show .dK<|s _ _ e
def Tk:V->Bool
 | .int _=>true
 | _=>false
def b7(v:V)(lo hi:Int):Bool:=match v with
 | .int i=>decide (lo<=i)&&decide (i<=hi)
 | _=>false
inductive qv(vs:List V)(H:Hp)(Q:VK)(aq:XK):Prop
 | mk:∀v,(vs=[v])->(cM H v)->(Q (.bl (Tk v)) H)->qv vs H Q aq
inductive jk(vs:List V)(H:Hp)(Q:VK)(aq:XK):Prop
 | mk:∀v lo hi,(vs=[v,.int lo,.int hi])->(cM H v)->(Q (.bl (b7 v lo hi)) H)->jk vs H Q aq
inductive Bc(vs:List V)(H:Hp)(Q:VK)(aq:XK):Prop
 | mk:∀f a c b ps ws,(vs=[.ref f])->(aV H f a c b ps ws)->(∀H',ae H H'->Q (.bl true) H')->Bc vs H Q aq
inductive fS(vs:List V)(H:Hp)(Q:VK)(aq:XK):Prop
 | mk:∀f a c b ps ws,(vs=[.ref f])->(aV H f a c b ps ws)->(∀H',ae H H'->Q .au H')->fS vs H Q aq
inductive lh(vs:List V)(H:Hp)(Q:VK)(aq:XK):Prop
 | mk:∀f a c b ps ws,(vs=[.ref f])->(aV H f a c b ps ws)->(∀H',ae H H'->Q (.int ((b ^ ps.sum:Nat):Int)) H')->lh vs H Q aq
inductive qw(vs:List V)(H:Hp)(Q:VK)(aq:XK):Prop
 | mk:∀f a c b ps ws,∀n:Nat,(vs=[.ref f,.int n])->(aV H f a c b ps ws)->(n<b ^ ps.sum)->(∀H',ae H H'->Q .au H')->qw vs H Q aq
inductive og(vs:List V)(H:Hp)(Q:VK)(aq:XK):Prop
 | mk:∀f a c b ps ws,∀n:Nat,(vs=[.ref f,.int n])->(aV H f a c b ps ws)->(n<b ^ ps.sum)->(∀r H',H r=none->ae H H'->H' r=some (.lst (aA (Ma.aB b n ps.sum ps.sum)))->Q (.ref r) H')->og vs H Q aq
def top (i : Nat) : Stmt := PySem.Challenge.pw_likehalves_k41_rows_that_are_none.main.body.getD i (.Pass ⟨0, 0, 0, 0⟩)
abbrev Bd:Stmt:=top 13
abbrev Be:Stmt:=top 14
abbrev wG:Stmt:=top 15
abbrev Bf:Stmt:=top 16
abbrev Bg:Stmt:=top 17
abbrev Bh:Stmt:=top 18
abbrev wH:Stmt:=top 19
abbrev Bi:Stmt:=top 20
abbrev wI:Stmt:=top 21
abbrev oh:Stmt:=top 22
abbrev wJ:Stmt:=top 23
abbrev Bj:Stmt:=top 25
abbrev wK:Stmt:=top 26
abbrev wL:Stmt:=top 27
abbrev Bk:Stmt:=top 28
abbrev Bl:Stmt:=top 29
abbrev Bm:Stmt:=top 30
abbrev Bn:Stmt:=top 31
abbrev Bo:Stmt:=top 32
abbrev Bp:Stmt:=top 33
abbrev qx:Stmt:=top 34
abbrev Bq:Stmt:=top 35
abbrev wM:Stmt:=top 37
abbrev wN:Stmt:=top 38
abbrev wO:Stmt:=top 39
abbrev sS:Stmt:=top 40
abbrev Br:Stmt:=top 41
abbrev Bs:Stmt:=top 43
abbrev wP:Stmt:=top 44
abbrev wQ:Stmt:=top 45
abbrev Bt:Stmt:=top 46
abbrev Bu:Stmt:=top 47
abbrev sU:Stmt:=top 48
abbrev Bv:Stmt:=top 49
abbrev Bw:Stmt:=top 50
abbrev wR:Stmt:=top 51
abbrev Bx:Stmt:=top 52
abbrev wS:Stmt:=top 53
abbrev wT:Stmt:=top 54
abbrev wU:Stmt:=top 55
abbrev By:Stmt:=top 56
abbrev Bz:Stmt:=top 58
abbrev wV:Stmt:=top 59
abbrev qy:Stmt:=top 62
abbrev BB:Stmt:=top 63
abbrev qz:Stmt:=top 64
abbrev BC:Stmt:=top 65
abbrev sV:Stmt:=top 66
abbrev sW:Stmt:=top 67
abbrev wW:Stmt:=top 68
abbrev wX:Stmt:=top 74
abbrev BD:Stmt:=top 75
abbrev wY:Stmt:=top 76
abbrev BE:Stmt:=top 77
abbrev wZ:Stmt:=top 78
abbrev BF:Stmt:=top 79
abbrev BG:Stmt:=top 80
abbrev BH:Stmt:=top 81
abbrev BI:Stmt:=top 84
abbrev BJ:Stmt:=top 85
abbrev sX:Stmt:=top 86
abbrev oj:Stmt:=top 87
abbrev mt:Stmt:=top 88
abbrev jm:Stmt:=top 89
abbrev BK:Stmt:=AV (top 82) 0
abbrev BL:Stmt:=AV (top 82) 1
abbrev BM:Stmt:=AV (top 82) 2
end Hv
namespace L2
open PySem PySem.Spec PyProof.Rows
def w5{ns:List Int}(rv:az (ns.map V.int) af){i:Nat}(hv:af[i]?=some v):∃n t,ns[i]?=some n/\v=.int n t:=by
 cases eb:ns[i]? with
 | none =>
  have:=rv.none_of (by rw[a2E,eb];rfl);rw[this] at hv;cases hv
 | some b =>
  obtain⟨u,hu,ru⟩:=rv.get (by rw[a2E,eb];rfl);rw[hu] at hv;cases hv;obtain⟨t,rfl⟩:=ru;show⟨b,t,Z,Z⟩
def BN(hc:X.calm=true):dw X (.builtin "max") (λxs H Q=>∃p ns,xs=[.ref p]/\ag X.K H p (ns.map V.int)/\0<ns.length/\Q (.int (Ma.bA ns)) H):=by
 intro aa s σ H xs us Q I r h;obtain⟨p,ns,rfl,hq,aZ,q⟩:=h;obtain⟨u,rfl,rx⟩:=vals1 r;cases rx;obtain⟨af,rv,pl,hz⟩:=I.list hq;have hl:=pl.isList;have aJ:p<s.heap.objs.size:=by obtain⟨_,e,_⟩:=hl;show a2C e
 have hn:af.toArray.size=ns.length:=by rw[a2S,<-rv.length,a2x]
 have jn:∀(i:Nat)  v ,af.toArray[i]?=some v->∃t,v=.int ((λi=>(ns[i]?).getD 0) i) t:=λi v hP=>by
  obtain⟨n,t,e,rfl⟩:=w5 rv (by simpa using hP);show⟨t,by simp[e]⟩
 show call_max_walk<|wpAny_pyIter_list hl (⟨_,_,_,_,_,_,_,Z,Walks.list (A:=X.A.in1) (I.ok.hd hc) s.heap.objs.size p (a2V aJ) af.toArray,⟨⟨_,a2F _ Z,Z,Z⟩,hl.push _⟩,λb bO=>?_,by lia,CmpOf.ints_gt (λi=>(ns[i]?).getD 0) jn,λv h' tk hP hk=>?_⟩)
 .rw[a3h];rcases a2B.mp bO with rfl | bO;.show a3K _
  .have e:b=p:=by simpa using bO
   rw[e];show a3S aJ
 .rw[hn] at hP;have ab:=argBest_gt (λi=>(ns[i]?).getD 0) (ns.length-1);obtain⟨n,t,e,rfl⟩:=w5 rv (by simpa using hP)
  have em:=Ma.Ig (a2A e) λm hm=>by
   obtain⟨j,hj⟩:=a3y hm;have mv:=(a2z.mp hj).1;have a2:=ab.2 j (by lia);simp only[hj,e,a5q] at a2;show a2
  subst em;show⟨.int _,H,(show Inv X aa σ H {s with heap:=h',toks:=tk} from seen I hk),⟨_,Z⟩,q⟩
def xa(hc:X.calm=true):dw X (.builtin "min") (λxs H Q=>∃p ns,xs=[.ref p]/\ag X.K H p (ns.map V.int)/\0<ns.length/\Q (.int (Ma.aQ ns)) H):=by
 intro aa s σ H xs us Q I r h;obtain⟨p,ns,rfl,hq,aZ,q⟩:=h;obtain⟨u,rfl,rx⟩:=vals1 r;cases rx;obtain⟨af,rv,pl,hz⟩:=I.list hq;have hl:=pl.isList;have aJ:p<s.heap.objs.size:=by obtain⟨_,e,_⟩:=hl;show a2C e
 have hn:af.toArray.size=ns.length:=by rw[a2S,<-rv.length,a2x]
 have jn:∀(i:Nat)  v ,af.toArray[i]?=some v->∃t,v=.int ((λi=>(ns[i]?).getD 0) i) t:=λi v hP=>by
  obtain⟨n,t,e,rfl⟩:=w5 rv (by simpa using hP);show⟨t,by simp[e]⟩
 show call_min_walk<|wpAny_pyIter_list hl (⟨_,_,_,_,_,_,_,Z,Walks.list (A:=X.A.in1) (I.ok.hd hc) s.heap.objs.size p (a2V aJ) af.toArray,⟨⟨_,a2F _ Z,Z,Z⟩,hl.push _⟩,λb bO=>?_,by lia,CmpOf.ints_lt (λi=>(ns[i]?).getD 0) jn,λv h' tk hP hk=>?_⟩)
 .rw[a3h];rcases a2B.mp bO with rfl | bO;.show a3K _
  .have e:b=p:=by simpa using bO
   rw[e];show a3S aJ
 .rw[hn] at hP;have ab:=argBest_lt (λi=>(ns[i]?).getD 0) (ns.length-1);obtain⟨n,t,e,rfl⟩:=w5 rv (by simpa using hP)
  have em:=Ma.Ih (a2A e) λm hm=>by
   obtain⟨j,hj⟩:=a3y hm;have mv:=(a2z.mp hj).1;have a2:=ab.2 j (by lia);simp only[hj,e,a5q] at a2;show a2
  subst em;show⟨.int _,H,(show Inv X aa σ H {s with heap:=h',toks:=tk} from seen I hk),⟨_,Z⟩,q⟩
section
variable{κ:Type}[DecidableEq κ]
def b8(kvs:List (κ×V))(k:κ):Option V:=(kvs.find? λkv=>decide (kv.1=k)).map (·.2)
def dZ(kvs:List (κ×V))(k:κ)(v:V):List (κ×V) := if (kvs.any λkv=>decide (kv.1=k))=true then kvs.map (λkv=>if kv.1=k then (kv.1,v) else kv) else kvs++[(k,v)]
def li(kvs:List (κ×V))(k:κ):List (κ×V):=kvs.filter λkv=>decide (kv.1≠k)
def xg{k:κ}(e:p.1=k):b8 (p::r) k=some p.2:=by simp[b8,a3O,e]
def xh{k:κ}(e:¬ p.1=k):b8 (p::r) k=b8 r k:=by simp[b8,a3O,e]
theorem Im(k:κ):∀kvs:List (κ×V),(kvs.any λkv=>decide (kv.1=k))=(b8 kvs k).isSome
 | []=>rfl
 | p::r=>by
  rw[a4H];by_cases e:p.1=k;.simp only[xg e,decide_eq_true e,Bool.true_or,Option.isSome_some]
  .rw[xh e,decide_eq_false e,Bool.false_or];show Im k r
def BO(kvs:List (κ×V))(k:κ)(v:V):(dZ kvs k v).length<=kvs.length+1:=by
 unfold dZ;split;.rw[a2x];omega
 .rw[a2O,a2P,a6a];omega
def d9.sY(r:d9 o u):o.isSome=u.isSome:=by
 cases o with
 | none=>cases u with
  | none=>rfl
  | some _=>show(show False from r).elim
 | some _=>cases u with
  | none=>show(show False from r).elim
  | some _=>rfl
theorem d9.getD(r:d9 o u)(rd:RelV d d'):RelV (o.getD d) (u.getD d'):=by
 cases o with
 | none=>cases u with
  | none=>show rd
  | some _=>show(show False from r).elim
 | some _=>cases u with
  | none=>show(show False from r).elim
  | some _=>show r
def KV.val(r:KV kvs vs)(k:κ):d9 (b8 kvs k) (valueAt vs k):=by
 induction r with
 | nil=>show True.intro
 | @cons p q ps qs h t ih =>
  obtain⟨h1,h2⟩:=h;by_cases e:p.1=k
  .have e':=h1.symm.trans e;have b:valueAt (q::qs) k=some q.2:=by simp[valueAt,a3O,e']
   rw[xg e,b];show h2
  .have e':¬ q.1=k:=λz=>e<|h1.trans z;have b:valueAt (q::qs) k=valueAt qs k:=by simp[valueAt,a3O,e']
   rw[xh e,b];show ih
theorem KV.any(r:KV kvs vs)(k:κ):(kvs.any λkv=>decide (kv.1=k))=vs.any λkv=>decide (kv.1=k):=by
 induction r with
 | nil=>rfl
 | cons h t ih=>rw[a4H,a4H,ih,h.1]
def KV.BP(r:KV kvs vs)(k:κ)(ry:RelV y u) : KV (kvs.map λkv=>if kv.1=k then (kv.1,y) else kv) (vs.map λkv=>if kv.1=k then (kv.1,u) else kv):=by
 induction r with
 | nil=>show .nil
 | @cons p q ps qs h t ih =>
  rw[a2X,a2X];show .cons ?_ ih;obtain⟨h1,h2⟩:=h;by_cases e:p.1=k;.rw[if_pos e,if_pos (h1.symm.trans e)];show⟨h1,ry⟩
  .simp_all
def KV.put(r:KV kvs vs)(k:κ)(ry:RelV y u):KV (dZ kvs k y) (stored vs k u):=by
 unfold dZ stored;rw[r.any k];by_cases e:(vs.any λkv=>decide (kv.1=k))=true;.rw[if_pos e,if_pos e];show r.BP k ry
 .rw[if_neg e,if_neg e];show Paired.snoc r ⟨Z,ry⟩
def KV.drop(r:KV kvs vs)(k:κ):KV (li kvs k) (without vs k):=by
 unfold li without
 induction r with
 | nil=>show .nil
 | @cons p q ps qs h t ih =>
  obtain⟨h1,h2⟩:=h;rw[List.filter_cons,List.filter_cons];by_cases e:p.1=k;.simp_all
  .have e':¬ q.1=k:=λz=>e<|h1.trans z;have a:decide (p.1≠k)=true:=by simp[e]
   have b:decide (q.1≠k)=true:=by simp[e']
   rw[if_pos a,if_pos b];show .cons ⟨h1,h2⟩ ih
def KV.keys{vs:List (κ×Value)}(r:KV kvs vs):kvs.map (·.1)=vs.map (·.1):=by
 induction r with
 | nil=>rfl
 | cons h t ih=>rw[a2X,a2X,ih,h.1]
theorem KV.length{vs:List (κ×Value)}(r:KV kvs vs):kvs.length=vs.length:=Paired.length r
def Io(kvs:List (κ×V))(k:κ):(li kvs k).length<=kvs.length:=List.length_filter_le _ _
end
def jo(r:RelV (kV k) u):(v_ P w).is k u=true:=by
 cases k with
 | inl i=>obtain⟨t,e⟩:=(show ∃t,u=Value.int i t from r);subst e;show P6 P w i t
 | inr x=>obtain⟨t,e⟩:=(show ∃t,u=Value.str x t from r);subst e;show An P w x t
theorem Ip{P:Program}{w:World}:∀ {ks:List ax} {us:List Value},az (ks.map kV) us->ItemsAre (v_ P w) ks us
 | [],_,r=>by cases r;show .nil
 | k::ks,_,r=>by
  cases r with
  | cons h t=>show .cons (jo h)<|Ip t
abbrev KT(H:Hp):List (List ax×V)->List (List ax×Addr×Value)->Prop:=Paired λp q=>p.1=q.1/\H q.2.1=some (.tup (p.1.map kV))/\RelV p.2 q.2.2
def KT.val(r:KT H kvs xs)(k:List ax):d9 (b8 kvs k) ((atKey xs k).map (·.2)):=by
 induction r with
 | nil=>show True.intro
 | @cons p q ps qs h t ih =>
  obtain⟨h1,_,h2⟩:=h;by_cases e:p.1=k
  .have e':=h1.symm.trans e;have b:atKey (q::qs) k=some q.2:=by simp[atKey,a3O,e']
   rw[xg e,b];show h2
  .have e':¬ q.1=k:=λz=>e<|h1.trans z;have b:atKey (q::qs) k=atKey qs k:=by simp[atKey,a3O,e']
   rw[xh e,b];show ih
def KT.BP(r:KT H kvs xs)(k:List ax)(ry:RelV y u) : KT H (kvs.map λkv=>if kv.1=k then (kv.1,y) else kv) (xs.map (putAt k u)):=by
 induction r with
 | nil=>show .nil
 | @cons p q ps qs h t ih =>
  rw[a2X,a2X];show .cons ?_ ih;obtain⟨h1,h2,h3⟩:=h;unfold putAt;by_cases e:p.1=k;.rw[if_pos e,if_pos (h1.symm.trans e)];show⟨h1,h2,ry⟩
  .rw[if_neg e,if_neg (λz=>e<|h1.trans z)];show⟨h1,h2,h3⟩
def KT.put(r:KT H kvs xs)(k:List ax)(hb:H b=some (.tup (k.map kV)))(ry:RelV y u) : KT H (dZ kvs k y) (storedH xs k b u):=by
 have e:(kvs.any λkv=>decide (kv.1=k))=(atKey xs k).isSome:=by rw[Im,(r.val k).sY,Option.isSome_map]
 unfold dZ storedH;rw[e];by_cases q:(atKey xs k).isSome=true;.rw[if_pos q,if_pos q];show r.BP k ry
 .rw[if_neg q,if_neg q];show Paired.snoc r ⟨Z,hb,ry⟩
def KT.keeps(r:KT H kvs xs)(ht:∀b ys,H b=some (.tup ys)->H' b=some (.tup ys)):KT H' kvs xs := Paired.jK r λ_ _ z=>⟨z.1,ht _ _ z.2.1,z.2.2⟩
def Iq(ok:bC P w H h)(e:Rd H a u):cr P w H h a u:=e.ok ok
def jZ(ok:bC P w H h)(e:Rd H a (.dK kvs)):kvs.length<=sizeLine/\(a==sysModules)=false/\∃vs,KV kvs vs/\h.DictOf (v_ P w) a vs := show cr P w H h a _ from Iq ok e
def mw(ok:bC P w H h)(e:H a=some (.dK kvs)):kvs.length<=sizeLine/\(a==sysModules)=false/\∃vs,KV kvs vs/\h.DictOf (v_ P w) a vs:=jZ ok (.inl e)
def sZ(ok:bC P w H h)(e:H a=some (.tup (ks.map kV))):(tupleKind (v_ P w)).is h ks a:=by
 obtain⟨_,af,r,o,h1,h2,n,h3⟩:=(show cr P w H h a _ from ok a _ e);show⟨o,af.toArray,n,h1,h2,h3,by simpa using Ip r⟩
def qA(ok:bC P w H h)(e:Rd H a (.dT kvs)):kvs.length<=sizeLine/\(a==sysModules)=false/\ ∃xs,KT H kvs xs/\h.DictOfH (tupleKind (v_ P w)) a xs:=by
 obtain⟨z,y,xs,r,o,es,ep,h1,h2,h3,h4,h5⟩:=(show cr P w H h a _ from Iq ok e);show⟨z,y,xs,r,o,es,ep,h1,h2,h3,h4,λx hx=>?_,h5⟩
 have all:∀ {l:List _} {m:List _},KT H l m->∀x∈m,(tupleKind<|v_ P w).is h x.1 x.2.1:=by
  intro l m q
  induction q with
  | nil=>show λx hx=>nomatch hx
  | @cons p q ps qs hq t ih =>
   intro x hx;rcases a2B.mp hx with e | hx
   .subst e;show sZ ok<|by show hq.1▸?_;show hq.2.1
   .show ih x hx
 show all r x hx
def Tl(ok:bC P w H h)(e:H a=some (.dT kvs)):kvs.length<=sizeLine/\(a==sysModules)=false/\ ∃xs,KT H kvs xs/\h.DictOfH (tupleKind (v_ P w)) a xs:=qA ok (.inl e)
def iI(H:Hp)(a:Addr)(y:V)(r:Option V):Prop := (∃kvs k,Rd H a (.dK kvs)/\y=kV k/\r=b8 kvs k)\/∃kvs k b,Rd H a (.dT kvs)/\y=.ref b/\H b=some (.tup (k.map kV))/\r=b8 kvs k
def qB(H:Hp)(a:Addr)(y v:V)(H':Hp):Prop := (∃kvs k,H a=some (.dK kvs)/\y=kV k/\kvs.length<sizeLine/\H'=ad H a (.dK (dZ kvs k v)))\/ ∃kvs k b,H a=some (.dT kvs)/\y=.ref b/\H b=some (.tup (k.map kV))/\kvs.length<sizeLine/\H'=ad H a (.dT (dZ kvs k v))
theorem iI.k{k:ax}(e:H a=some (.dK kvs)):iI H a (kV k) (b8 kvs k):=.inl ⟨kvs,k,.inl e,Z,Z⟩
theorem qB.k{k:ax}(e:H a=some (.dK kvs))(hl:kvs.length<sizeLine):qB H a (kV k) v (ad H a (.dK (dZ kvs k v))):=.inl ⟨kvs,k,e,Z,hl,Z⟩
section
variable{σ:St}
def Inv.big(I:Inv X aa σ H s):sysModules<s.heap.objs.size:=by
 have h:=(I.mod.glob.keeps I.bk).lt;show Nat.lt_trans (by decide) h
def Tm(hu:A.units+1<cLine)(I:Inv X aa σ H s)(g:iI H a y (some v))(ry:RelV y u)(h:∀w' s',Inv X aa σ H s'->RelV v w'->Q w' s') : wpAny (model X.prog X.w) A (getItem (.ref a) u) Q E s:=by
 rcases g with⟨kvs,k,e,ey,l⟩ | ⟨kvs,k,b,e,ey,eb,l⟩
 .subst ey;obtain⟨z,hd,vs,aX,dd⟩:=jZ I.am e;obtain⟨w',hw,cR⟩:=d9.some_of (by rw[l];show aX.val k);show wpAny_getItem_of (jo ry) dd.mapOf hw<|h w' _ (I.tok _) cR
 .subst ey;cases (show u=Value.ref b from ry);obtain⟨z,hd,xs,aX,dd⟩:=qA I.am e;obtain⟨w',hw,cR⟩:=d9.some_of (by rw[l];show aX.val k);obtain⟨p,hp,cZ⟩:=a4l.mp hw;show wpAny_getItem_heap (tupleKind_room_in1 hu) (sZ I.am eb) dd hp ?_;rw[cZ];show h w' _ (I.tok _) cR
def Tn(hu:A.units+1<cLine)(I:Inv X aa σ H s)(g:iI H a y o)(ry:RelV y u)(h:∀s',Inv X aa σ H s'->Q (.bool (!o.isSome)) s') : wpAny (model X.prog X.w) A (compareOp .NotIn u (.ref a)) Q E s:=by
 rcases g with⟨kvs,k,e,ey,l⟩ | ⟨kvs,k,b,e,ey,eb,l⟩
 .subst ey;obtain⟨z,hd,vs,aX,dd⟩:=jZ I.am e;show wpAny_notIn_of (jo ry) hd dd.mapOf ?_;rw[<-(aX.val k).sY,<-l];show h _<|I.tok _
 .subst ey;cases (show u=Value.ref b from ry);obtain⟨z,hd,xs,aX,dd⟩:=qA I.am e;show wpAny_notIn_heap (tupleKind_room_in1 hu) (sZ I.am eb) hd dd ?_;have q:=(aX.val k).sY;rw[Option.isSome_map] at q;show q▸l▸?_;show h _<|I.tok _
def tf(I:Inv X aa σ H s)(mu:rP (H a))(hs:Heap.SameBut a s.heap h')(he:∃q,h'.get? a=some q)(new:cr X.prog X.w (ad H a ob) h' a ob) : Inv X aa σ (ad H a ob) {s with heap:=h',toks:=t'} := I.write mu (.inl Z) (λb q hb z=>(hs.2 b hb).trans z) he new
def tj(z:kvs.length<=sizeLine)(hd:(a==sysModules)=false)(aX:KV kvs vs)(dd:h'.DictOf (v_ P w) a vs) : cr P w H' h' a (.dK kvs):=⟨z,hd,vs,aX,dd⟩
def To(hu:A.units+1<cLine)(I:Inv X aa σ H s)(g:qB H a y v H')(ry:RelV y u)(rv:RelV v r)(h:∀s',Inv X aa σ H' s'->Q () s') : wpAny (model X.prog X.w) A (setItem (.ref a) u r) Q E s:=by
 rcases g with⟨kvs,k,e,ey,l,eH⟩ | ⟨kvs,k,b,e,ey,eb,l,eH⟩
 .subst ey eH;obtain⟨z,hd,vs,aX,dd⟩:=mw I.am e;have hz:vs.length<=sizeLine:=by rw[<-aX.length];show z
  have hl:(dZ kvs k v).length<=sizeLine:=by have:=BO kvs k v;omega
  show wpAny_setItem_pairs (jo ry) dd λh' hV hs=>h _ ?_;have he:∃q,h'.get? a=some q:=let ⟨q,_,_,hq,_⟩:=hV;⟨q,hq⟩
  show tf I (by rw[e];show True.intro) hs he (tj hl hd (aX.put k rv) hV)
 .subst ey eH;cases (show u=Value.ref b from ry);obtain⟨z,hd,xs,aX,dd⟩:=Tl I.am e;have hz:xs.length<=sizeLine:=by rw[<-Paired.length aX];show z
  have hl:(dZ kvs k v).length<=sizeLine:=by have:=BO kvs k v;omega
  show wpAny_setItem_heap (tupleKind_room_in1 hu) (sZ I.am eb) dd λh' hV hs=>h _ ?_;obtain⟨q,es,ep,hq,h2,h3,h4,_,h5⟩:=hV;show tf I (by rw[e];show True.intro) hs ⟨q,hq⟩ ⟨hl,hd,_,(aX.put k eb rv).keeps λc ys ec=>?_,q,es,ep,hq,h2,h3,h4,h5⟩;rw[i_ (Ao ec e (λz=>nomatch z))];show ec
end
section
variable{σ:St}
def a2i(I:Inv X aa σ H s)(e:H a=some (.dK kvs))(ry:RelV (kV k) u)(l:(b8 kvs k).isSome=true)(h:∀s',Inv X aa σ (ad H a (.dK (li kvs k))) s'->Q () s') : wpAny (model X.prog X.w) A (delItem (.ref a) u) Q E s:=by
 obtain⟨z,hd,vs,aX,dd⟩:=mw I.am e;show wpAny_delItem_slot dd.typeIs (by decide) PySem.F.slot_dict_delitem <|call_meetsIn PySem.F.slot_dict_delitem dd.typeIs PySem.F.entry_dict_delitem (PySem.F.args_dict_delitem_2 _ _) (meets_dict_delitem_pairs _ a<|jo ry) ⟨vs,dd,by rw[<-aX.length];show z,by rw[<-(aX.val k).sY];show l,λh' hV hs=>h _ ?_⟩;have he:∃q,h'.get? a=some q:=let ⟨q,_,_,hq,_⟩:=hV;⟨q,hq⟩
 show tf I (by rw[e];show True.intro) hs he<|tj (a2U (Io kvs k) z) hd (aX.drop k) hV
def Tp(I:Inv X aa σ H s)(e:H a=some (.dK kvs))(ry:RelV (kV k) u)(l:b8 kvs k=some v)(hm:more=[]\/∃x,more=[x]) (h:∀w' s',Inv X aa σ (ad H a (.dK (li kvs k))) s'->RelV v w'->Q w' s'):wpAny (model X.prog X.w) A (call (.builtin "dict.pop") (.ref a::u::more)) Q E s:=by
 obtain⟨z,hd,vs,aX,dd⟩:=mw I.am e;obtain⟨w',hw,cR⟩:=d9.some_of (by rw[<-l];show aX.val k)
 have hp:(keyPart u).isSome=true:=by
  cases k with
  | inl i=>obtain⟨t,q⟩:=(show ∃t,u=Value.int i t from ry);subst q;rfl
  | inr x=>obtain⟨t,q⟩:=(show ∃t,u=Value.str x t from ry);subst q;rfl
 have ha:argsOk "dict.pop" ⟨.ref a::u::more,[]⟩:=by
  rcases hm with q | ⟨x,q⟩;.subst q;show PySem.F.args_dict_pop_2 _ _
  .subst q;show PySem.F.args_dict_pop_3 _ _ _
 show call_meetsIn PySem.F.slot_dict_pop dd.typeIs PySem.F.entry_dict_pop ha (meets_dict_pop_there (v_ X.prog X.w) a (jo ry) more hm hp) ⟨vs,w',dd,by rw[<-aX.length];show z,hw,λh' hV hs=>h w' _ ?_ cR⟩;have he:∃q,h'.get? a=some q:=let ⟨q,_,_,hq,_⟩:=hV;⟨q,hq⟩
 show tf I (by rw[e];show True.intro) hs he (tj (a2U (Io kvs k) z) hd (aX.drop k) hV)
end
def BQ(i:Expr):Prop:=∀ov iv,subscripted i false ov iv=operate [ov,iv] (getItem ov iv)
def Ir{T id:String} (hl:typeLookup (.type T) "__getitem__"=pure (some (.builtin id))) (hs:BQ slice) (h:wpAny (model prog w) A (eval value env) (λo bf=>wpAny (model prog w) A (eval slice env) (λi ir=>ir.TypeIs o T/\wpAny (model prog w) A (getItem o i) Q E ir) E bf) E s) : wpAny (model prog w) A (eval (.Subscript value slice pos) env) Q E s:=by
 show Subscript_<|wpAny_mono h (λo bf Tq=>wpAny_mono Tq (λi ir BR=>?_) λ_ _ x=>x) λ_ _ x=>x;obtain⟨hT,BR⟩:=BR;show wpAny_bind ?_;show wpAny_bind<|wpAny_specialOf hT hl ?_
 have fin:wpAny (model prog w) A (subscripted slice false o i) (λr vM=>wpAny (model prog w) A (letTemporaryGo value o r>>=λ_=>pure r) Q E vM) E ir:=by
  rw[hs o i];show wpAny_operating<|wpAny_mono BR (λr vM Tr=>wpAny_bind<|wpAny_letTemporaryGo<|wpAny_pure Tr) λ_ _ x=>x
 first | show wpAny_pure<|wpAny_bind fin | grind | show wpAny_bind fin
def Ts{σ:St}(I:Inv X aa σ H s)(g:iI H a y o):s.TypeIs (.ref a) "dict":=by
 rcases g with⟨kvs,k,e,_,_⟩ | ⟨kvs,k,b,e,_,_,_⟩
 .obtain⟨_,_,vs,_,dd⟩:=jZ I.am e;show dd.typeIs
 .obtain⟨_,_,xs,_,dd⟩:=qA I.am e;show dd.typeIs
inductive Iu(Q:VK)(x:V)(y:V)(H2:Hp):Prop
 | mk:∀a v,(x=.ref a)->(iI H2 a y (some v))->(Q v H2)->Iu Q x y H2
def Tt(td ty:TE):TE:=fun σ H Q=>td σ H λx H1=>ty σ H1 (Iu Q x)
inductive Iv(Q:VK)(y:V)(x:V)(H2:Hp):Prop
 | mk:∀a o,(x=.ref a)->(iI H2 a y o)->(Q (.bl (!o.isSome)) H2)->Iv Q y x H2
def Tu(ty td:TE):TE:=fun σ H Q=>ty σ H λy H1=>td σ H1 (Iv Q y)
inductive Iw(D:Ends)(σ:St)(v:V)(x:V)(y:V)(H3:Hp):Prop
 | mk:∀a H4,(x=.ref a)->(qB H3 a y v H4)->(D.nx σ H4)->Iw D σ v x y H3
def Tv(td ty tv:TE):TS:=λD σ H=>tv σ H λv H1=>td σ H1 λx H2=>ty σ H2 (Iw D σ v x)
def qC(hu:X.A.units+1<cLine)(ho:PE X o td)(hi:PE X i ty)(hs:BQ i):PE X (.Subscript o i pos) (Tt td ty):=by
 show λaa s σ H Q I h=>Ir PySem.F.slot_dict_getitem.lookup hs<|ar (ho aa s σ H _ I h) λu s1 ⟨x,H1,I1,rx,q1⟩=>ar (hi aa s1 σ H1 _ I1 q1) λiv s2 ⟨y,H2,I2,ry,a,v,ex,g,q2⟩=>?_;subst ex;obtain rfl:u=Value.ref a:=rx;show⟨Ts I2 g,Tm hu I2 g ry λw' s3 I3 cR=>⟨v,H2,I3,cR,q2⟩⟩
def Ty(hu:X.A.units+1<cLine)(hi:PE X i ty)(ho:PE X o td):PC X .NotIn i o (Tu ty td):=by
 show λaa s σ H Q I h=>ar (hi aa s σ H _ I h) λiv s1 ⟨y,H1,I1,ry,q1⟩=>ar (ho aa s1 σ H1 _ I1 q1) λu s2 ⟨x,H2,I2,rx,a,ov,ex,g,q2⟩=>?_;subst ex;obtain rfl:u=Value.ref a:=rx;show Tn hu I2 g ry λs3 I3=>⟨.bl _,H2,I3,Z,q2⟩
def tq(hu:X.A.units+1<cLine)(ho:PE X o td)(hi:PE X i ty)(hv:PE X value tv)(hs:swapsWith value (some (.Subscript o i iB)) pos.line X.env=pure false) : PS X (.Assign [.Subscript o i iB] value pos) (Tv td ty tv):=by
 show λaa s σ H D I h=>wpAny_Assign_Subscript (ar (hv aa s σ H _ I h) λr s1 ⟨v,H1,I1,rv,q1⟩=>ar (ho aa s1 σ H1 _ I1 q1) λu s2 ⟨x,H2,I2,rx,q2⟩=>ar (hi aa s2 σ H2 _ I2 q2) λiv s3 ⟨y,H3,I3,ry,a,H4,ex,g,q3⟩=>?_) hs;subst ex;obtain rfl:u=Value.ref a:=rx;show To hu I3 g ry rv λs4 I4=>⟨σ,H4,I4,q3⟩
def Ix(h:Heap)(hb:sysModules<h.objs.size):cr P w H (h.push {cls:=.type "dict",data:=.dict #[]}) h.objs.size (.dK []) := ⟨a3q _,beq_eq_false_iff_ne.mpr<|Ne.symm<|a2V hb,[],.nil,Heap.DictOf.new h⟩
def Tz:TE:=λ_ H Q=>∀p,H p=none->Q (.ref p) (ad H p (.dK []))
def tD:PE X (.Dict [] [] pos) Tz:=λaa s σ H Q I h => wpAny_Dict_empty ⟨.ref _,_,I.laid (λ_ _ q=>a2y _ q) (a2D _)<|Ix _ I.big,Z,h _<|I.am.fresh<|a2D _⟩
def BS:List (TE×TE)->St->Hp->(List (V×V)->Hp->Prop)->Prop
 | [],_,H,Q=>Q [] H
 | (tk,tv)::r,σ,H,Q=>tk σ H λx H1=>tv σ H1 λy H2=>BS r σ H2 λps H3=>Q ((x,y)::ps) H3
abbrev VV:List (V×V)->List (Value×Value)->Prop:=Paired λp q=>RelV p.1 q.1/\RelV p.2 q.2
def xi(X:Cx)(pos:Pos)(keys:List (Option Expr))(tE:List Expr)(lj:List (TE×TE)):Prop := ∀(aa:List (Addr×Obj)) (s:Shared) (σ:St) (H:Hp) (Q:List (V×V)->Hp->Prop),Inv X aa σ H s->BS lj σ H Q-> wpAny (model X.prog X.w) X.A (evalPairs (pairTrees keys tE X.env pos)) (λvs s'=>∃ps H',Inv X aa σ H' s'/\VV ps vs/\Q ps H') X.xe s
def Iy:xi X pos [] [] []:=λaa s σ H Q I h=>pairTrees_nil_walk ⟨[],H,I,.nil,h⟩
def xj(hk:PE X k tk)(hv:PE X v tv)(hr:xi X pos ks vs lj) : xi X pos (some k::ks) (v::vs) ((tk,tv)::lj):=λaa s σ H Q I h => pairTrees_cons_walk<|ar (hk aa s σ H _ I h) λu s1 ⟨x,H1,I1,rx,q1⟩=>ar (hv aa s1 σ H1 _ I1 q1) λw2 s2 ⟨y,H2,I2,ry,q2⟩ => ar (hr aa s2 σ H2 _ I2 q2) λws s3 ⟨ps,H3,I3,aX,q3⟩=>⟨(x,y)::ps,H3,I3,.cons ⟨rx,ry⟩ aX,q3⟩
def gI(kvs more:List (ax×V)):List (ax×V):=more.foldl (λacc kv=>dZ acc kv.1 kv.2) kvs
def KV.merge:∀ {more:List (ax×V)} {rs:List (ax×Value)} {kvs:List (ax×V)} {vs:List (ax×Value)},KV more rs->KV kvs vs->KV (gI kvs more) (merged vs rs):=by
 intro more rs kvs vs r
 induction r generalizing kvs vs with
 | nil=>show λq=>q
 | @cons p q ps qs h t ih =>
  intro r0
  have e:KV (dZ kvs p.1 p.2) (stored vs q.1 q.2):=by
   have:=r0.put p.1 h.2;show h.1▸?_;show this
  show ih e
theorem BT:∀(more kvs:List (ax×V)),(gI kvs more).length<=kvs.length+more.length
 | [],kvs=>by change kvs.length<=kvs.length+0;omega
 | p::r,kvs=>by
  have h1:=BT r (dZ kvs p.1 p.2);have h2:=BO kvs p.1 p.2;change(gI (dZ kvs p.1 p.2) r).length<=_;rw[a2P];omega
theorem Iz{P:Program}{w:World}:∀ {kvs:List (ax×V)} {ws:List (Value×Value)},VV (kvs.map λkv=>(kV kv.1,kv.2)) ws->∃rs,Carries (v_ P w) ws rs/\KV kvs rs
 | [],_,r=>by cases r;show⟨[],True.intro,.nil⟩
 | p::kvs,_,r=>by
  cases r with
  | @cons a b as bs h t =>
   obtain⟨rs,c,q⟩:=Iz t;obtain⟨b1,b2⟩:=b;show⟨(p.1,b2)::rs,⟨jo h.1,Z,c⟩,.cons ⟨Z,h.2⟩ q⟩
def IA(lj:List (TE×TE)):TE:=fun σ H Q=>∀p,H p=none->BS lj σ (ad H p (.dK [])) λps H2=>H2 p=some (.dK [])/\∃kvs:List (ax×V),ps=kvs.map (λkv=>(kV kv.1,kv.2))/\kvs.length<=15/\Q (.ref p) (ad H2 p (.dK (gI [] kvs)))
def IB(h:xi X pos keys tE lj)(dX:keys.all (·.isSome)=true)(hl:keys.length=tE.length)(h0:keys≠[]) (TB:keys.length<=15):PE X (.Dict keys tE pos) (IA lj):=by
 intro aa s σ H Q I q;have hn:=I.am.fresh (a2D _);have I1:=I.laid (t':=s.toks) (λ_ _ q=>a2y _ q) (a2D _) (Ix _ I.big);show wpAny_Dict_walk (knd:=v_ _ X.w) dX hl h0 TB<|ar (h aa _ σ _ _ I1<|q _ hn) λws s2 ⟨ps,H2,I2,aX,e,kvs,ep,lk,q2⟩=>?_;subst ep;obtain⟨rs,c,rk⟩:=Iz aX;obtain⟨z,hd,vs0,r0,dd⟩:=mw I2.am e;cases r0;show⟨rs,c,dd,λh' hV hs=>⟨.ref _,_,?_,Z,q2⟩⟩
 have hz:(gI [] kvs).length<=sizeLine:=by
  have h1:=BT kvs [];rw[a6a] at h1;rw[sizeLine_eq];omega
 have he:∃q,h'.get? _=some q:=let ⟨q,_,_,hq,_⟩:=hV;⟨q,hq⟩
 show tf I2 (by rw[e];show True.intro) hs he<|tj hz hd (rk.merge .nil) hV
structure M1(X:Cx)(o:Expr)(m:Str)(bo:Pos)(e:Expr)(cK:Pos):Prop where
 base:attributeBase o m X.env (eval o X.env)=eval o X.env
 BU:((backTo cK (starEach [e] X.env)).all (λx=>!x.1)&&(backToKw cK (keywordEach [] X.env)).all (λx=>x.1.isSome)
  && decide (([e]:List Expr).length+([]:List Keyword).length+(if ([]:List Keyword).isEmpty then 0 else 1)<30))=true
 line:(bo.endLine==cK.line)=true
 trees:backTo cK (starEach [e] X.env)=[(false,eval e X.env)]
structure M2(X:Cx)(o:Expr)(m:Str)(bo:Pos)(e f:Expr)(cK:Pos):Prop where
 base:attributeBase o m X.env (eval o X.env)=eval o X.env
 BU:((backTo cK (starEach [e,f] X.env)).all (λx=>!x.1)&&(backToKw cK (keywordEach [] X.env)).all (λx=>x.1.isSome)
  && decide (([e,f]:List Expr).length+([]:List Keyword).length+(if ([]:List Keyword).isEmpty then 0 else 1)<30))=true
 line:(bo.endLine==cK.line)=true
 trees:backTo cK (starEach [e,f] X.env)=[(false,eval e X.env),(false,eval f X.env)]
def BV(H:Hp)(a:Addr):Prop:=(∃kvs,Rd H a (.dK kvs))\/∃kvs,Rd H a (.dT kvs)
def BW{σ:St}(I:Inv X aa σ H s)(d:BV H a) : s.TypeIs (.ref a) "dict"/\(∀b,Value.ref a=.ref b->∃ob,s.heap.get? b=some ob/\ob.dict=none)/\(a==sysModules)=false:=by
 rcases d with⟨kvs,e⟩ | ⟨kvs,e⟩
 .obtain⟨_,hd,vs,_,dd⟩:=jZ I.am e;show⟨dd.typeIs,λb q=>?_,hd⟩;cases q;obtain⟨ob,_,_,h1,h2,_⟩:=dd;show⟨ob,h1,h2.2.1⟩
 .obtain⟨_,hd,xs,_,dd⟩:=qA I.am e;show⟨dd.typeIs,λb q=>?_,hd⟩;cases q;obtain⟨ob,_,_,h1,h2,_⟩:=dd;show⟨ob,h1,h2.2.1⟩
section
variable{σ:St}
def TD(hu:A.units+1<cLine)(I:Inv X aa σ H s)(g:iI H a y o)(ry:RelV y u)(rd:RelV d r)(h:∀w' s',Inv X aa σ H s'->RelV (o.getD d) w'->Q w' s') : wpAny (model X.prog X.w) A (call (.builtin "dict.get") [.ref a,u,r]) Q E s:=by
 rcases g with⟨kvs,k,e,ey,l⟩ | ⟨kvs,k,b,e,ey,eb,l⟩
 .subst ey;obtain⟨z,hd,vs,aX,dd⟩:=jZ I.am e;show call_meetsIn PySem.F.slot_dict_get dd.typeIs PySem.F.entry_dict_get (PySem.F.args_dict_get_3 _ _ _) (meets_dict_get_default _ a (jo ry) hd r) ⟨_,dd.mapOf,h _ _ (I.tok _) ?_⟩;rw[l];show(aX.val k).getD rd
 .subst ey;cases (show u=Value.ref b from ry);obtain⟨z,hd,xs,aX,dd⟩:=qA I.am e;show call_meetsIn PySem.F.slot_dict_get dd.typeIs PySem.F.entry_dict_get (PySem.F.args_dict_get_3 _ _ _) (meetsH_dict_get_default _ a b hd r) ⟨tupleKind_room_in1 hu,k,xs,sZ I.am eb,dd,h _ _ (I.tok _) ?_⟩;rw[l];show(aX.val k).getD rd
end
inductive IC(ty:TE)(tx:TE)(σ:St)(Q:VK)(x:V)(H1:Hp):Prop
 | mk:∀a,(x=.ref a)->(BV H1 a)->(ty σ H1 λy H2=>tx σ H2 λz H3=>∃o,iI H3 a y o/\Q (o.getD z) H3)->IC ty tx σ Q x H1
def TF(td ty tx:TE):TE:=fun σ H Q=>td σ H (IC ty tx σ Q)
inductive ID(ty:TE)(σ:St)(Q:VK)(x:V)(H1:Hp):Prop
 | mk:∀a,(x=.ref a)->(BV H1 a)->(ty σ H1 λy H2=>∃kvs k v,H2 a=some (.dK kvs)/\y=kV k/\b8 kvs k=some v/\Q v (ad H2 a (.dK (li kvs k))))->ID ty σ Q x H1
def TJ(td ty:TE):TE:=fun σ H Q=>td σ H (ID ty σ Q)
def xk(hu:X.A.units+1<cLine)(ho:PE X o td)(he:PE X e ty)(hf:PE X f tx)(m:M2 X o "get" bo e f cK):PE X (.Call (.Attribute o "get" bo) [e,f] [] cK) (TF td ty tx):=by
 show λaa s σ H Q I h=>wpAny_Call_method m.base m.BU m.line PySem.F.plainAttrs_dict PySem.F.slot_dict_get PySem.F.type_dict_get<|ar (ho aa s σ H _ I h) λu s1 ⟨x,H1,I1,rx,a,ex,d,q1⟩=>?_;subst ex;obtain rfl:u=Value.ref a:=rx;obtain⟨t1,t2,_⟩:=BW I1 d;show⟨t1,t2,?_⟩;rw[m.trees];show Calls.callWith_builtin Z<|Calls.evalArgs_plain<|Calls.spliced_cons<|ar (he aa s1 σ H1 _ I1 q1) λiv s2 ⟨y,H2,I2,ry,q2⟩ => Calls.spliced_cons<|ar (hf aa s2 σ H2 _ I2 q2) λfv s3 ⟨z,H3,I3,rz,ov,g,q3⟩=>Calls.spliced_nil (TD hu I3 g ry rz λw' s4 I4 cR=>⟨_,H3,I4,cR,q3⟩)
def os_(ho:PE X o td)(he:PE X e ty)(m:M1 X o "pop" bo e cK):PE X (.Call (.Attribute o "pop" bo) [e] [] cK) (TJ td ty):=by
 show λaa s σ H Q I h=>wpAny_Call_method m.base m.BU m.line PySem.F.plainAttrs_dict PySem.F.slot_dict_pop PySem.F.type_dict_pop<|ar (ho aa s σ H _ I h) λu s1 ⟨x,H1,I1,rx,a,ex,d,q1⟩=>?_;subst ex;obtain rfl:u=Value.ref a:=rx;obtain⟨t1,t2,_⟩:=BW I1 d;show⟨t1,t2,?_⟩;show m.trees▸?_;show Calls.callWith_builtin Z<|Calls.evalArgs_plain<|Calls.spliced_cons<|ar (he aa s1 σ H1 _ I1 q1) λiv s2 ⟨y,H2,I2,ry,kvs,k,v,ea,ey,l,q2⟩=>Calls.spliced_nil ?_;subst ey;show Tp I2 ea ry l (.inl Z) λw' s3 I3 cR=>⟨v,_,I3,cR,q2⟩
mutual
inductive Tree(H:Hp):V->PyData->Prop
 | au:Tree H .au .none
 | bl (b:Bool):Tree H (.bl b) (.bool b)
 | int (i:Int):Tree H (.int i) (.int i)
 | str (x:Str):Tree H (.str x) (.str x)
 | lst {a:Addr} {xs:List V} {ds:List PyData} (e:H a=some (.lst xs)) (r:cA H xs ds):Tree H (.ref a) (.list ds)
 | tup {a:Addr} {xs:List V} {ds:List PyData} (e:H a=some (.tup xs)) (r:cA H xs ds):Tree H (.ref a) (.tuple ds)
 | emp {a:Addr} (e:H a=some (.dK [])):Tree H (.ref a) (.dict [])
inductive cA(H:Hp):List V->List PyData->Prop
 | nil:cA H [] []
 | cons {x:V} {xs:List V} {d:PyData} {ds:List PyData} (h:Tree H x d) (t:cA H xs ds):cA H (x::xs) (d::ds)
end
mutual
theorem Tree.keep{H H':Hp}(s:ae H H'):∀ {x:V} {d:PyData},Tree H x d->Tree H' x d
 | _,_,.au=>.au
 | _,_,.bl b=>.bl b
 | _,_,.int i=>.int i
 | _,_,.str x=>.str x
 | _,_,.lst e r=>.lst (s _ _ e) (cA.keep s r)
 | _,_,.tup e r=>.tup (s _ _ e) (cA.keep s r)
 | _,_,.emp e=>.emp (s _ _ e)
theorem cA.keep{H H':Hp}(s:ae H H'):∀ {xs:List V} {ds:List PyData},cA H xs ds->cA H' xs ds
 | _,_,.nil=>.nil
 | _,_,.cons h t=>.cons (Tree.keep s h) (cA.keep s t)
end
section
variable{P:Program}{w:World}{H:Hp}{h:Heap}
def IE(ok:bC P w H h)(e:H a=some (.dK [])):Reads h (.ref a) (.dict []) [a]:=by
 obtain⟨_,_,vs,r,hd⟩:=mw ok e;cases r;obtain⟨o,es,ep,ho,hx,qD,_,hp,_⟩:=hd
 have e0:es.toList=[]:=by
  generalize es.toList=l at hp;cases hp;rfl
 show Reads.dict (as:=[]) ho hx.1 qD (by rw[e0];show .nil)<|by rw[e0];show .nil
mutual
theorem Tree.reads(ok:bC P w H h):∀ {x:V} {d:PyData},Tree H x d->∀v,RelV x v->∃as,Reads h v d as/\∀b∈as,H b≠none
 | _,_,.au,v,r=>by cases r;show⟨_,.none,by simp⟩
 | _,_,.bl b,v,r=>by cases r;show⟨_,.bool b,by simp⟩
 | _,_,.int i,v,r=>by obtain⟨t,rfl⟩:=r;show⟨_,.int i t,by simp⟩
 | _,_,.str x,v,r=>by obtain⟨t,rfl⟩:=r;show⟨_,.str x t,by simp⟩
 | _,_,.lst (a:=a) e rs,v,r=>by
  cases r;obtain⟨_,af,n,rv,e1⟩:=ok a _ e;obtain⟨as,h1,h2⟩:=cA.reads ok rs af rv;show⟨_,.list e1 Z Z (by simpa using h1),λb hb=>?_⟩;rcases a2B.mp hb with rfl | hb;.rw[e];simp
  .show h2 b hb
 | _,_,.tup (a:=a) e rs,v,r=>by
  cases r;obtain⟨_,af,rv,o,e1,c,n,d⟩:=ok a _ e;obtain⟨as,h1,h2⟩:=cA.reads ok rs af rv;show⟨_,.tuple e1 c d (by simpa using h1),h2⟩
 | _,_,.emp (a:=a) e,v,r=>by
  cases r;show⟨_,IE ok e,λb hb=>?_⟩;have z:b=a:=by simpa using hb
  rw[z,e];simp
theorem cA.reads(ok:bC P w H h):∀ {xs:List V} {ds:List PyData},cA H xs ds->∀af,az xs af->∃as,ReadsAll h af ds as/\∀b∈as,H b≠none
 | _,_,.nil,af,r=>by cases r;show⟨_,.nil,by simp⟩
 | _,_,.cons q t,af,r=>by
  cases r with
  | cons r1 r2 =>
   obtain⟨as,h1,h2⟩:=Tree.reads ok q _ r1;obtain⟨bs,h3,h4⟩:=cA.reads ok t _ r2;show⟨_,.cons h1 h3,λb hb=>?_⟩;rcases a3j.mp hb with hb | hb;.show h2 b hb
   .show h4 b hb
end
end
section
variable{P:Program}{w:World}{H:Hp}{h:Heap}
mutual
theorem Tree.tF(ok:bC P w H h):∀ {x:V} {d:PyData},Tree H x d->∀v,RelV x v->d.showable=true->d.shown.length<=sizeLine->∃bs,ReadAtMost h d.depth bs/\ReprK P w bs h d.depth v d.shown
 | _,_,.au,v,r,_,_=>by
  cases r;show⟨[],(λ_ z=>nomatch z),?_⟩;simp only[PyData.shown];show ReprK.of_is ReprIs.none _ _ _
 | _,_,.bl b,v,r,_,_=>by
  cases r;show⟨[],(λ_ z=>nomatch z),?_⟩;simp only[PyData.shown];show ReprK.of_is (ReprIs.bool b) _ _ _
 | _,_,.int i,v,r,hs,_=>by
  obtain⟨t,rfl⟩:=r;show⟨[],(λ_ z=>nomatch z),?_⟩;simp only[PyData.shown];show ReprK.of_is (ReprIs.int t (by simpa [PyData.showable] using hs)) _ _ _
 | _,_,.str x,v,r,_,hz=>by
  obtain⟨t,rfl⟩:=r;show⟨[],(λ_ z=>nomatch z),?_⟩;simp only[PyData.shown] at hz⊢;show ReprK.of_is (ReprIs.str x t hz) _ _ _
 | _,_,.lst (a:=a) (ds:=ds) e rs,v,r,hs,hz=>by
  cases r;have tr:Tree H (.ref a) (.list ds):=.lst e rs;obtain⟨as,rd,_⟩:=Tree.reads ok tr (.ref a) Z;obtain⟨_,af,n,rv,e1⟩:=ok a _ e;simp only[PyData.shown] at hz;obtain⟨bs,hb,hk⟩:=cA.tF ok rs af rv (by simpa [PyData.showable] using hs) (λt ht=>a2U (listText_mem_le ht) hz);have ol:a∉bs:=not_mem_of_deeper rd (by simp only[PyData.depth];lia) hb;show⟨a::bs,ReadAtMost.cons rd (by simp only[PyData.depth];lia) hb,?_⟩;simp only[PyData.depth,PyData.shown]
  cases af with
  | nil =>
   cases rv;cases rs;simp only[PyData.shownAll,listText_nil];show ReprK.listEmpty e1 Z Z
  | cons u l=>show ReprK.list e1 Z Z ol (by simpa using hk.length_eq) (λi y z=>hk.item i y (by simpa using z))
 | _,_,.tup (a:=a) (ds:=ds) e rs,v,r,hs,hz=>by
  cases r;have tr:Tree H (.ref a) (.tuple ds):=.tup e rs;obtain⟨as,rd,_⟩:=Tree.reads ok tr (.ref a) Z;obtain⟨_,af,rv,o,e1,c,n,d⟩:=ok a _ e;simp only[PyData.shown] at hz;obtain⟨bs,hb,hk⟩:=cA.tF ok rs af rv (by simpa [PyData.showable] using hs) (λt ht=>a2U (tupleText_mem_le ht) hz);have ol:a∉bs:=not_mem_of_deeper rd (by simp only[PyData.depth];lia) hb;show⟨a::bs,ReadAtMost.cons rd (by simp only[PyData.depth];lia) hb,?_⟩;simp only[PyData.depth,PyData.shown];show ReprK.tuple e1 c d ol (by simpa using hk)
 | _,_,.emp (a:=a) e,v,r,_,_=>by
  cases r;have rd:=IE ok e;obtain⟨_,hS,vs,rk,hd⟩:=mw ok e;cases rk;obtain⟨o,es,ep,ho,hx,qD,_,hp,_⟩:=hd
  have e0:es.toList=[]:=by
   generalize es.toList=l at hp;cases hp;rfl
  show⟨[a],ReadAtMost.cons (n:=PyData.depthKv []) rd (by simp only[PyData.depth];lia) (λ_ z=>nomatch z),?_⟩;simp only[PyData.depth,PyData.shown];have nil:ReprAllK P w [] h (PyData.depthKv []) [] (PyData.shownAll []):=by simp only[PyData.shownAll];show .nil
  show ReprK.dict ho hx.1 qD hS (by simp) ?_;have z:=ReprEntriesK.of_two (prog:=P) (w:=w) (as:=[]) (h₀:=h) (d:=PyData.depthKv []) es.toList [] [] (by rw[e0];show nil) (by rw[e0];show nil);simpa [PyData.shownKv] using z
theorem cA.tF(ok:bC P w H h):∀ {xs:List V} {ds:List PyData},cA H xs ds->∀af,az xs af->PyData.showableAll ds=true->(∀t∈PyData.shownAll ds,t.length<=sizeLine)->
  ∃bs,ReadAtMost h (PyData.depthAll ds) bs/\ReprAllK P w bs h (PyData.depthAll ds) af (PyData.shownAll ds)
 | _,_,.nil,af,r,_,_=>by
  cases r;show⟨[],(λ_ z=>nomatch z),by simp only[PyData.shownAll];show .nil⟩
 | _,_,.cons q t,af,r,hs,hz=>by
  cases r with
  | cons r1 r2 =>
   simp only[PyData.showableAll,a2H] at hs;simp only[PyData.shownAll,a2B,forall_eq_or_imp] at hz;obtain⟨b1,m1,k1⟩:=Tree.tF ok q _ r1 hs.1 hz.1;obtain⟨b2,m2,k2⟩:=cA.tF ok t _ r2 hs.2 hz.2;simp only[PyData.depthAll,PyData.shownAll];show⟨b1++b2,(m1.mono (Nat.le_max_left _ _)).append (m2.mono (Nat.le_max_right _ _)),?_⟩;show .cons ((k1.more λb hb=>a3Q _ hb).level_le (Nat.le_max_left _ _)) (k2.more_le (λb hb=>a3b _ hb) (Nat.le_max_right _ _))
end
end
end L2
namespace Hv
open PySem L2
def TK:PySem.W.kitOne K (.type "NoneType") (.type "list")=some false:=by kernel_rfl
def TL:PySem.W.kitOne K (.type "bool") (.type "list")=some false:=by kernel_rfl
def TM:PySem.W.kitOne K (.type "int") (.type "list")=some false:=by kernel_rfl
def TN:PySem.W.kitOne K (.type "str") (.type "list")=some false:=by kernel_rfl
def TQ:PySem.W.kitOne K (.type "tuple") (.type "list")=some false:=by kernel_rfl
def TR:PySem.W.kitOne K (.type "dict") (.type "list")=some false:=by kernel_rfl
def TU:PySem.W.kitOne K (.type "NoneType") (.type "tuple")=some false:=by kernel_rfl
def TV:PySem.W.kitOne K (.type "bool") (.type "tuple")=some false:=by kernel_rfl
def TW:PySem.W.kitOne K (.type "int") (.type "tuple")=some false:=by kernel_rfl
def TY:PySem.W.kitOne K (.type "str") (.type "tuple")=some false:=by kernel_rfl
def TZ:PySem.W.kitOne K (.type "list") (.type "tuple")=some false:=by kernel_rfl
def T4:PySem.W.kitOne K (.type "dict") (.type "tuple")=some false:=by kernel_rfl
def jp(lo hi:Int):PyData->Bool
 | .int i=>decide (lo<=i)&&decide (i<=hi)
 | _=>false
def j6(lo hi:Int):PyData->Bool
 | .list ds=>ds.all (jp lo hi)
 | _=>false
def oo:PyData->Nat
 | .list ds=>ds.length
 | _=>0
def jq:PyData->Int
 | .int i=>i
 | _=>0
def BY:PyData->Int
 | .list ds=>(ds.map jq).sum
 | _=>0
def M_:PyData->Bool
 | .tuple [x,y,z]=>jp 2 16 x&&(j6 1 6 y&&(decide (2<=oo y)&&decide (oo y<=4)))&&(j6 (-9) 9 z&&decide ((oo z:Int)=BY y))
 | _=>false
def IF(t:Tree H v d):cM H v:=by
 cases t with
 | au=>show .au
 | bl b=>show .bl b
 | int i=>show .int i
 | str x=>show .str x
 | lst e _=>show .lst e
 | tup e _=>show .tup e
 | emp e=>show .dK e
def IG(t:Tree H v d):b7 v lo hi=jp lo hi d:=by cases t <;> rfl
theorem IH{H:Hp}:∀ {xs:List V} {ds:List PyData} {i:Nat} {x:V},cA H xs ds->xs[i]?=some x->∃d,ds[i]?=some d/\Tree H x d
 | _,_,_,_,.nil,e=>by simp at e
 | _,_,0,_,.cons h _,e=>by simp at e;subst e;show⟨_,Z,h⟩
 | _,_,i+1,q,.cons _ t,e=>by
  obtain⟨d,h1,h2⟩:=IH t (by simpa using e);show⟨d,by simpa using h1,h2⟩
theorem xm{H:Hp}:∀ {xs:List V} {ds:List PyData},cA H xs ds->xs.length=ds.length
 | _,_,.nil=>rfl
 | _,_,.cons _ t=>by rw[a2P,a2P,xm t]
theorem II{H:Hp}{lo hi:Int}:∀ {xs:List V} {ds:List PyData},cA H xs ds->xs.all (λx=>b7 x lo hi)=ds.all (jp lo hi)
 | _,_,.nil=>rfl
 | _,_,.cons h t=>by rw[a3x,a3x,IG h,II t]
theorem IJ{H:Hp}{lo hi:Int}:∀ {xs:List V} {ds:List PyData},cA H xs ds->ds.all (jp lo hi)=true->xs=(ds.map jq).map V.int/\∀n∈ds.map jq,lo<=n/\n<=hi
 | _,_,.nil,_=>⟨Z,λn hn=>by simp at hn⟩
 | _,_,.cons h t,a=>by
  rw[a3x,a2H] at a;obtain⟨e,b⟩:=IJ t a.2
  cases h with
  | int i =>
   have cY:lo<=i/\i<=hi:=by simpa [jp] using a.1
   show⟨by rw[e];simp[jq],λn hn=>?_⟩;rcases a2B.mp hn with rfl | hn;.show cY
   .show b n hn
  | _=>simp[jp] at a
def Sh(d:PyData):Prop:=d.weight<=300000
theorem IK:∀ds:List PyData,ds.length<=PyData.weightAll ds
 | []=>a3q _
 | d::r=>by have:=IK r;simp only[PyData.weightAll,a2P];lia
theorem BZ:∀ {ds:List PyData} {d:PyData},d∈ds->d.weight<=PyData.weightAll ds
 | e::r,d,h=>by
  simp only[PyData.weightAll];rcases a2B.mp h with rfl | h;.lia
  .have:=BZ h;lia
inductive xn(vs:List V)(H:Hp)(Q:VK)(aq:XK):Prop
 | mk:∀v d lo hi,(vs=[v,.int lo,.int hi])->(Tree H v d)->(Sh d)->(∀H',ae H H'->Q (.bl (j6 lo hi d)) H')->xn vs H Q aq
inductive tG(vs:List V)(H:Hp)(Q:VK)(aq:XK):Prop
 | mk:∀v d,(vs=[v])->(Tree H v d)->(Sh d)->(∀H',ae H H'->Q (.bl (M_ d)) H')->tG vs H Q aq
def T5:aI ["thing"] ["thing"] (f_ Bd):=⟨Z,Z,Z,by decide,Z,by decide,by decide⟩
def T6{f:Addr}{fd:FuncData}(F:ay K "is_whole" "is_whole" Bd f fd)(T:Txt mg):av P w K mg base aE 1 f fd ["thing"] qv:=by
 show F.ok T5 λak A outer s H vs Q E hr h=>?_
 .obtain⟨v,rfl,ty,k⟩:=h;show⟨_,g_<|k_<|pZ (p_ mi (by rfl) T.fF boot_isinstance<|a_ (pv 0)<|a_ (lf T.int boot_int) d_) <|pY<|Qp<|p_ mi (by rfl) T.fF boot_isinstance<|a_ (pv 0)<|a_ (lf T.bool boot_bool) d_,?_⟩
  cases ty with
  | au=>show⟨_,Z,_,_,_,_,Z,.au,Td,false,Z,aK k⟩
  | bl b=>show⟨_,Z,_,_,_,_,Z,.bl b,Tb,true,Z,bj ⟨_,Z,_,_,_,_,Z,.bl b,Tc,true,Z,k⟩⟩
  | int i=>show⟨_,Z,_,_,_,_,Z,.int i,SZ,true,Z,bj ⟨_,Z,_,_,_,_,Z,.int i,Ta,false,Z,k⟩⟩
  | str x=>show⟨_,Z,_,_,_,_,Z,.str x,Te,false,Z,aK k⟩
  | lst e=>show⟨_,Z,_,_,_,_,Z,.lst e,Tg,false,Z,aK k⟩
  | tup e=>show⟨_,Z,_,_,_,_,Z,.tup e,Th,false,Z,aK k⟩
  | dK e=>show⟨_,Z,_,_,_,_,Z,.dK e,Ti,false,Z,aK k⟩
def T7:aI ["thing","least","greatest"] ["thing","least","greatest"] (f_ Be):=⟨Z,Z,Z,by decide,Z,by decide,by decide⟩
def T8(F:ay K "is_between" "is_between" Be f fd)(D1:ai P w K mg base 1 "is_whole" ["thing"] qv):av P w K mg base aE 2 f fd ["thing","least","greatest"] jk:=by
 show F.ok T7 λak A outer s H vs Q E hr h=>?_
 .obtain⟨v,lo,hi,rfl,ty,k⟩:=h;show⟨_,g_<|k_<|pZ (m_ D1 hr (by rfl)<|a_ (pv 0) d_)<|pY<|GS jT jT (pv 1) (pv 0)<|pv 2,⟨_,Z,v,Z,ty,_,Z,?_⟩⟩
  cases v with
  | int i =>
   show bj ⟨_,Z,_,Z,_,_,Z,Z,_,Z,?_⟩;by_cases h1:lo<=i
   .rw[decide_eq_true h1];show bj ⟨_,Z,_,_,Z,Z,?_⟩;have e:b7 (.int i) lo hi=decide (i<=hi):=by simp[b7,h1]
    rw[e] at k;show k
   .rw[decide_eq_false h1];show aK ?_;have e:b7 (.int i) lo hi=false:=by simp[b7,h1]
    rw[e] at k;show k
  | _=>show aK k
def T9:aI ["thing","least","greatest"] ["thing","least","greatest"] (f_ wG):=⟨Z,Z,Z,by decide,Z,by decide,by decide⟩
def Ua{f:Addr}{fd:FuncData}(F:ay K "is_list_between" "is_list_between" wG f fd)(T:Txt mg)(D2:ai P w K mg base 2 "is_between" ["thing","least","greatest"] jk):av P w K mg base aE 3 f fd ["thing","least","greatest"] xn:=by
 show F.ok T9 λak A outer s H vs Q E hr h=>?_
 .obtain⟨v,d,lo,hi,rfl,t,nW,k⟩:=h;show⟨_,g_ (k_ (pZ (p_ mi (by rfl) T.fF boot_isinstance (a_ (pv 0) (a_ (lf T.list boot_list) d_))) (pY (p_ (qm Z) (by rfl) T.all boot_all (a_ (P_ (f_ wG) ["thing","least","greatest"] ["least","greatest"] [1,2] Z (B_ (pv 0)) (λcl C s H fp=>O_) (λcl C s H fp=>m_ D2 hr (by rfl) (a_ (pv 0) (a_ (pv 1) (a_ (pv 2) d_)))) (by decide)) d_))))),?_⟩
  cases t with
  | au=>show⟨_,Z,_,_,_,_,Z,.au,TK,false,Z,aK (k H (ae.refl _))⟩
  | bl b=>show⟨_,Z,_,_,_,_,Z,.bl b,TL,false,Z,aK (k H (ae.refl _))⟩
  | int i=>show⟨_,Z,_,_,_,_,Z,.int i,TM,false,Z,aK (k H (ae.refl _))⟩
  | str x=>show⟨_,Z,_,_,_,_,Z,.str x,TN,false,Z,aK (k H (ae.refl _))⟩
  | tup e rs=>show⟨_,Z,_,_,_,_,Z,.tup e,TQ,false,Z,aK (k H (ae.refl _))⟩
  | emp e=>show⟨_,Z,_,_,_,_,Z,.dK e,TR,false,Z,aK (k H (ae.refl _))⟩
  | lst e rs =>
   rename_i a xs ds
   have hxl:xs.length<=300000:=by
    rw[xm rs];have h1:PyData.weightAll ds<=300000:=by simpa only[Sh,PyData.weight] using nW
    show a2U (IK ds) h1
   show⟨_,Z,_,_,_,_,Z,.lst e,Tj,true,Z,bj (⟨_,Z,a,Z,⟨_,ag.of e⟩,z_ (K:=K) (a:=a) (xs:=xs) (λi ys H2=>ys=((xs.take i).map λx=>V.bl (b7 x lo hi))/\ae H H2) ⟨by simp,ae.refl _⟩ (λi ys H2 _ p=>ag.of (p.2 _ _ e)) ?_ ?_⟩)⟩
   .rintro i x ys H2 hx ⟨rfl,s2⟩;obtain⟨dd,_,tx⟩:=IH rs hx;show⟨bT (by rw[a2x,a3a];lia),⟨_,Z,_,Z,_,Z,x,lo,hi,Z,(IF tx).keep s2,?_,s2⟩⟩;rw[a2I,hx];simp
   .rintro ys H2 ⟨rfl,s2⟩ D hD;show⟨D,xs.map λx=>b7 x lo hi,Z,ag.of ?_,?_⟩
    .rw[c_,a2M,a3v];rfl
    .have e2:(xs.map λx=>b7 x lo hi).all id=ds.all (jp lo hi):=by rw[a4k,<-II rs];rfl
     rw[e2];show k _ (D_ s2 (s2.free hD))
def Ub(h:ds.length≠3):M_ (.tuple ds)=false:=by
 match ds,h with
 | [],_=>rfl
 | [_],_=>rfl
 | [_,_],_=>rfl
 | [_,_,_],h=>show absurd Z h
 | _::_::_::_::_,_=>rfl
def Uc(h:j6 lo hi d=true):∃ds,d=.list ds/\ds.all (jp lo hi)=true:=by
 cases d with
 | list ds=>show⟨ds,Z,h⟩
 | _=>simp[j6] at h
def Ud(t:Tree H v d):(∃ty,f9 K H v ty/\PySem.W.kitOne K ty (.type "tuple")=some false/\M_ d=false)\/∃a xs ds,v=.ref a/\d=.tuple ds/\H a=some (.tup xs)/\cA H xs ds:=by
 cases t with
 | au=>show .inl ⟨_,.au,TU,Z⟩
 | bl b=>show .inl ⟨_,.bl b,TV,Z⟩
 | int i=>show .inl ⟨_,.int i,TW,Z⟩
 | str x=>show .inl ⟨_,.str x,TY,Z⟩
 | lst e rs=>show .inl ⟨_,.lst e,TZ,Z⟩
 | emp e=>show .inl ⟨_,.dK e,T4,Z⟩
 | tup e rs=>show .inr ⟨_,_,_,Z,Z,e,rs⟩
def B0(t:cA H xs ds)(h:xs.length=n+1):∃x r d s,xs=x::r/\ds=d::s/\r.length=n/\Tree H x d/\cA H r s:=by
 cases t with
 | nil=>cases h
 | cons a b=>show⟨_,_,_,_,Z,Z,Nat.succ.inj h,a,b⟩
def Ue(t:cA H xs ds)(h:xs.length=3):∃x y z dx dy dz,xs=[x,y,z]/\ds=[dx,dy,dz]/\Tree H x dx/\Tree H y dy/\Tree H z dz:=by
 obtain⟨x,r,dx,s,rfl,rfl,h,tx,t⟩:=B0 t h;obtain⟨y,r,dy,s,rfl,rfl,h,ty,t⟩:=B0 t h;obtain⟨z,r,dz,s,rfl,rfl,h,tz,t⟩:=B0 t h;cases t;.show⟨x,y,z,dx,dy,dz,Z,Z,tx,ty,tz⟩
 .cases h
def IL(t:Tree H v d)(h:j6 lo hi d=true):∃b vs ys,v=.ref b/\d=.list ys/\H b=some (.lst vs)/\vs.length=ys.length/\vs=(ys.map jq).map V.int/\∀n∈ys.map jq,lo<=n/\n<=hi:=by
 obtain⟨ys,rfl,ha⟩:=Uc h
 cases t with
 | lst e r =>
  obtain⟨ei,bi⟩:=IJ r ha;show⟨_,_,ys,Z,Z,e,xm r,ei,bi⟩
def Uf{c A B:Prop}[Decidable c](h1:c->A)(h2:¬ c->B):if decide c=true then A else B:=by simp_all
def Ug{c A B:Prop}[Decidable c](h1:c->B)(h2:¬ c->A):if (!decide c)=true then A else B:=by simp_all
def Uh:aI ["thing"] ["thing"] (f_ Bf):=⟨Z,Z,Z,by decide,Z,by decide,by decide⟩
def Ui{f:Addr}{fd:FuncData}(F:ay K "is_frame" "is_frame" Bf f fd)(T:Txt mg)(D2:ai P w K mg base 2 "is_between" ["thing","least","greatest"] jk)(D3:ai P w K mg base 3 "is_list_between" ["thing","least","greatest"] xn) : av P w K mg base aE 4 f fd ["thing"] tG:=by
 show F.ok Uh λak A outer s H vs Q E hr h=>?_
 .obtain⟨v,d,rfl,t,nW,k⟩:=h;show⟨_,b_ (C_ (PW.pt (je (N_ (L_ (p_ mi (by rfl) T.fF boot_isinstance (a_ (pv 0) (a_ (lf T.tuple boot_tuple) d_))))) (jO (r_ rZ (eV T.len (by rfl) (pv 0)) h_ (bx _))))) (g_ (k_ ff)) q_) (b_ (C_ (N_ (L_ (m_ D2 hr.mo (by rfl) (a_ (ce (pv 0) h_) (a_ h_ (a_ h_ d_)))))) (g_ (k_ ff)) q_) (b_ (C_ (PW.pt (je (N_ (L_ (m_ D3 hr (by rfl) (a_ (ce (pv 0) h_) (a_ h_ (a_ h_ d_)))))) (jO (N_ (AB jT jT h_ (eV T.len (by rfl) (ce (pv 0) h_)) h_))))) (g_ (k_ ff)) q_) (g_ (k_ (pZ (m_ D3 hr (by rfl) (a_ (ce (pv 0) h_) (a_ (rX rY h_) (a_ h_ d_)))) (pY (sd dW (eV T.len (by rfl) (ce (pv 0) h_)) (p_ (Ss Z) (by rfl) T.sum boot_sum (a_ (ce (pv 0) h_) d_)) (bx _)))))))),?_⟩;rcases Ud (K:=K) t with⟨ty,t1,k1,hf⟩ | ⟨a,xs,ds,rfl,rfl,e,rs⟩
  .rw[hf] at k;show⟨_,Z,_,_,_,_,Z,t1,k1,false,Z,bj (k H (ae.refl _))⟩
  clear t;by_cases h3:xs.length=3
  case neg =>
   rw[Ub (by rw[<-xm rs];show h3)] at k;show⟨_,Z,_,_,_,_,Z,.tup e,Il,true,Z,aK ⟨_,Z,a,_,Z,.inr (aP.of e),Z,_,Z,?_⟩⟩
   have aZ:¬ V.int (xs.length:Int)=V.int 3:=by
    intro z;injection z with z';lia
   rw[decide_eq_false aZ];show bj (k H (ae.refl _))
  obtain⟨x,y,z,dx,dy,dz,rfl,rfl,tx,ty,tz⟩:=Ue rs h3;have Uj:Sh dy:=a2U (BZ (ds:=[dx,dy,dz]) (by simp)) (by simpa only[Sh,PyData.weight] using nW);have Uk:Sh dz:=a2U (BZ (ds:=[dx,dy,dz]) (by simp)) (by simpa only[Sh,PyData.weight] using nW);clear rs h3 nW;have no:∀H',ae H H'->M_ (.tuple [dx,dy,dz])=false->Q (.bl false) H':=λH' s' h=>by rw[<-h];show k H' s'
  show⟨_,Z,_,_,_,_,Z,.tup e,Il,true,Z,aK ⟨_,Z,a,_,Z,.inr (aP.of e),Z,_,Z,aK ?_⟩⟩;show⟨_,Z,_,_,_,_,Z,Z,aP.of e,Z,⟨x,2,16,Z,IF tx,_,Z,?_⟩⟩;rw[IG tx];clear tx
  cases hb:jp 2 16 dx with
  | false=>show bj (no H (ae.refl _) (by simp[M_,hb]))
  | true =>
  show aK (⟨_,Z,_,_,_,_,Z,Z,aP.of e,Z,⟨y,dy,1,6,Z,ty,Uj,λH1 s1=>?_⟩⟩)
  cases hy:j6 1 6 dy with
  | false=>show⟨_,Z,bj (no H1 s1 (by simp[M_,hy]))⟩
  | true =>
  obtain⟨b,vs,ys,rfl,B9,ey,hyl,ei,bi⟩:=IL ty hy;clear ty;show⟨_,Z,aK (⟨_,Z,_,_,_,_,Z,Z,aP.of (s1 _ _ e),Z,⟨b,_,Z,.inl (ag.of (s1 _ _ ey)),_,_,Z,Z,_,Z,?_⟩⟩)⟩;show Uf (λgF=>⟨_,_,Z,Z,_,Z,?_⟩) (λh2=>⟨false,Z,bj (no H1 s1 (by simp[M_,B9,oo,show ¬ 2<=ys.length by lia]))⟩);show Ug (λUl=>?_) (λh4=>no H1 s1 (by simp[M_,B9,oo,show ¬ ys.length<=4 by lia]));have h2:2<=ys.length:=by lia
  have h4:ys.length<=4:=by lia
  clear gF Ul;show⟨_,Z,_,_,_,_,Z,Z,aP.of (s1 _ _ e),Z,⟨_,Z,⟨z,dz,-9,9,Z,tz.keep s1,Uk,λH2 s2=>⟨_,Z,?_⟩⟩⟩⟩
  cases hz:j6 (-9) 9 dz with
  | false=>show aK (no H2 (s1.trans s2) (by simp[M_,hz]))
  | true =>
  obtain⟨c,us,zs,rfl,Um,ez,Uo,_,_⟩:=IL tz hz;have tH:=s1.trans s2;show bj (⟨_,Z,_,_,_,_,Z,Z,aP.of (tH _ _ e),Z,⟨c,_,Z,.inl (ag.of (tH _ _ ez)),?_⟩⟩);show⟨_,Z,_,_,_,_,Z,Z,aP.of (tH _ _ e),Z,⟨b,ys.map jq,Z,ag.of (by rw[<-ei];show tH _ _ ey),⟨by rw[a2x];lia,λn hn=>by have:=bi n hn;lia⟩,Z,?_⟩⟩
  have ef:decide (V.int (us.length:Int)=V.int (ys.map jq).sum)=M_ (.tuple [dx,dy,dz]):=by
   rw[B9] at hy⊢;rw[Um] at hz⊢;simp only[M_,hb,hy,hz,oo,BY,decide_eq_true h2,decide_eq_true h4,Bool.and_self,a5u,<-Uo];by_cases q:(us.length:Int)=(ys.map jq).sum;.rw[decide_eq_true q,decide_eq_true (by rw[q])];simp[h2,h4]
   .rw[decide_eq_false q,decide_eq_false λz=>q (by injection z)];simp
  rw[ef];show k H2 tH
end Hv
namespace L2
open PySem PySem.Spec PyProof.Rows
end L2
namespace Hv
open PySem L2
def Uq{ns:List Int}:j6 lo hi (.list (ns.map PyData.int))=ns.all λn=>decide (lo<=n)&&decide (n<=hi):=by
 simp only[j6,a4k];rfl
def IM{ns ms:List Int}:M_ (.tuple [.int b,.list (ns.map .int),.list (ms.map .int)]) = ((decide (2<=b)&&decide (b<=16))&&((ns.all λn=>decide (1<=n)&&decide (n<=6))&&(decide (2<=ns.length)&&decide (ns.length<=4)))&&((ms.all λn=>decide (-9<=n)&&decide (n<=9))&&decide ((ms.length:Int)=ns.sum))):=by
 simp only[M_,Uq,jp,oo,BY,a2x,a3v]
 have e:(ns.map (jq∘PyData.int))=ns:=by
  have e0:(jq∘PyData.int)= id :=funext λ_=>rfl;rw[e0,List.map_id]
 rw[e]
def B'(h : -1000<=i/\i<=1000):(PyData.int i).weight<=90:=by
 have hl:i.natAbs.log2<84:=by
  by_cases h0:i.natAbs=0;.rw[h0];decide
  .show(a5T h0).mpr<|a5a (show i.natAbs<=1000 by lia)<|by decide
 simp only[PyData.weight];split <;> lia
theorem tI:∀ {ns:List Int},(∀n∈ns,-1000<=n/\n<=1000)->PyData.weightAll (ns.map PyData.int)<=ns.length*91
 | [],_=>by simp[PyData.weightAll]
 | n::r,h=>by
  have h1:=B' (h n a2Y);have h2:=tI λm hm=>h m<|a2G _ hm;rw[a2X];unfold PyData.weightAll;rw[a2P,a3E];lia
theorem tJ{H:Hp}:∀ns:List Int,cA H (ns.map V.int) (ns.map PyData.int)
 | []=>.nil
 | n::r=>.cons (.int n) (tJ r)
def iJ(b:Nat)(ps:List Nat)(ws:List Int):PyData:=.tuple [.int b,.list ((ps.map λ(p:Nat)=>(p:Int)).map PyData.int),.list (ws.map PyData.int)]
def aV.tree(G:aV H f a c b ps ws):Tree H (.ref f) (iJ b ps ws) := .tup G.tp (.cons (.int _)<|.cons (.lst G.hp<|by rw[Bb];show tJ _)<|.cons (.lst G.hw<|tJ _) .nil)
def Ur(ok:dY b ps ws):Sh (iJ b ps ws):=by
 have h1:=tI (ns:=ps.map λ(p:Nat)=> p ) λn hn=>by
  obtain⟨p,hp,rfl⟩:=a2N.mp hn;have:=ok.pr p hp;lia
 have h2:=tI λn hn=>by have:=ok.wr n hn;lia
 have h3:=B' (i:= b ) (by have:=ok.cz;lia);have l4:=ok.l4;have hs:=ok.sum;have hw:=ok.wl;rw[a2x] at h1;unfold Sh iJ;simp only[PyData.weight,PyData.weightAll] at h3⊢;lia
def IN(ok:dY b ps ws):M_ (iJ b ps ws)=true:=by
 unfold iJ;rw[IM]
 have e1:((ps.map λ(p:Nat)=>(p:Int)).all λn=>decide (1<=n)&&decide (n<=6))=true:=by
  rw[a2K];intro n hn;obtain⟨p,hp,rfl⟩:=a2N.mp hn;have:=ok.pr p hp;simp only[a2H,decide_eq_true_eq];lia
 have e2:(ws.all λn=>decide (-9<=n)&&decide (n<=9))=true:=by
  rw[a2K];intro n hn;have:=ok.wr n hn;lia
 have b2:=ok.b2;have cz:=ok.cz;have l2:=ok.l2;have l4:=ok.l4;have x1:decide (2<=(b:Int))=true:=decide_eq_true (by lia);have x2:decide ((b:Int)<=16)=true:=decide_eq_true (by lia);have x3:=decide_eq_true l2;have x4:=decide_eq_true l4;have x5:decide (((ps.sum))=((ps.sum):Int))=true:=decide_eq_true Z;rw[e1,e2,Ma.Ie,a2x,ok.wl,x1,x2,x3,x4,x5];rfl
def Us:aI ["thing"] ["thing"] (f_ Bg):=⟨Z,Z,Z,by decide,Z,by decide,by decide⟩
def Ut(F:ay K "need_frame" "need_frame" Bg f fd)(D4:ai P w K mg base 4 "is_frame" ["thing"] Bc):av P w K mg base aE 5 f fd ["thing"] fS:=by
 show F.ok Us λak A outer s H vs Q E hr h=>?_
 .obtain⟨g,a,c,b,ps,ws,rfl,G,k⟩:=h;show⟨_,g_<|C_ (N_<|L_<|m_ D4 hr (by rfl)<|a_ (pv 0) d_) A_ q_,(⟨_,Z,g,a,c,b,ps,ws,Z,G,λH1 s1=>⟨_,Z,aK (k H1 s1)⟩⟩)⟩
def xo:aI ["frame","many","place"] ["frame"] (f_ Bh):=⟨Z,Z,Z,by decide,Z,by decide,by decide⟩
def Uu(F:ay K "how_many" "how_many" Bh f fd)(T:Txt mg)(D5:ai P w K mg base 5 "need_frame" ["thing"] fS):av P w K mg base aE 6 f fd ["frame"] lh:=by
 show F.ok xo λak A outer s H vs Q E hr h=>?_
 .obtain⟨g,a,c,b,ps,ws,rfl,G,k⟩:=h;have ok:=G.ok;have tK:=ok.sum;show⟨_,b_ (t_ (m_ D5 hr (by rfl) (a_ (pv 0) d_))) (b_ (j_ 1 (hN:=xo.nd) h_) (b_ (Z_ PassesOwn.never Z (kH (by rfl) T.range (a_ (eV T.len (by rfl) (ce (pv 0) h_)) d_)) (u_ 2 (hN:=xo.nd)) (g_ (j_ 1 (hN:=xo.nd) (o_ jh (pv 1) (ce (pv 0) h_))))) (g_ (k_ (pv 1))))),⟨_,Z,g,a,c,b,ps,ws,Z,G,λH1 s1=>?_⟩⟩;have G1:=G.keep s1;show⟨_,Z,_,_,_,_,Z,Z,aP.of G1.tp,Z,⟨c,_,Z,.inl (ag.of G1.hw),_,Z,(by rw[a2x,ok.wl];lia),(by rw[a2x,ok.wl];lia),?_⟩⟩;have en:((ws.map V.int).length:Int).toNat=ps.sum:=by rw[a2x,ok.wl];lia
  rw[en];show nO (λi σ H2=>H2=H1/\∃v,σ=[some (.ref g),some (.int ((b ^ i:Nat))),v]) ⟨Z,none,Z⟩ ?_ ?_
  .rintro i σ H2 hi ⟨rfl,v,rfl⟩;show⟨_,Z,_,Z,_,_,_,_,Z,Z,aP.of G1.tp,Z,⟨_,_,Z,Z,.inr ⟨by lia,by have:=ok.cz;lia⟩,Z,some (.int (0+(i:Int))),?_⟩⟩;rw[a4c];push_cast;rfl
  .rintro σ H2 ⟨rfl,v,rfl⟩;show⟨_,Z,k _ s1⟩
def IO:aI ["frame","thing"] ["frame","thing"] (f_ wH):=⟨Z,Z,Z,by decide,Z,by decide,by decide⟩
def IP(F:ay K "need_number" "need_number" wH f fd)(D2:ai P w K mg base 2 "is_between" ["thing","least","greatest"] jk)(D6:ai P w K mg base 6 "how_many" ["frame"] lh) : av P w K mg base aE 7 f fd ["frame","thing"] qw:=by
 show F.ok IO λak A outer s H vs Q E hr h=>?_
 .obtain⟨g,a,c,b,ps,ws,n,rfl,G,hn,k⟩:=h;show⟨_,g_<|C_ (N_<|L_<|m_ D2 hr.mo (by rfl)<|a_ (pv 1)<|a_ h_<|a_ (o_ gA (m_ D6 hr (by rfl)<|a_ (pv 0) d_) h_) d_) A_ q_,(⟨_,Z,_,Z,g,a,c,b,ps,ws,Z,G,λH1 s1=>⟨_,_,Z,Z,.int n,0,_,Z,.int _,_,Z,?_⟩⟩)⟩
  have e:b7 (.int  n ) 0 (((b ^ ps.sum:Nat))-1)=true:=by
   simp only[b7,a2H,decide_eq_true_eq];lia
  rw[e];show aK<|k H1 s1
def qE:aI ["frame","n","figures","rest","place"] ["frame","n"] (f_ wI):=⟨Z,Z,Z,by decide,Z,by decide,by decide⟩
def IQ(F:ay K "figures_of" "figures_of" wI f fd)(T:Txt mg)(D5:ai P w K mg base 5 "need_frame" ["thing"] fS)(D7:ai P w K mg base 7 "need_number" ["frame","thing"] qw) : av P w K mg base aE 8 f fd ["frame","n"] og:=by
 show F.ok qE λak A outer s H vs Q E hr h=>?_
 .obtain⟨g,a,c,b,ps,ws,n,rfl,G,hn,k⟩:=h;have ok:=G.ok;have tK:=ok.sum;have b2:=ok.b2;have cz:=ok.cz;show⟨_,b_ (t_ (m_ D5 hr.mo (by rfl) (a_ (pv 0) d_))) (b_ (t_ (m_ D7 hr (by rfl) (a_ (pv 0) (a_ (pv 1) d_)))) (b_ (j_ 2 (hN:=qE.nd) (x_ d_)) (b_ (j_ 3 (hN:=qE.nd) (pv 1)) (b_ (Z_ PassesOwn.never Z (kH (by rfl) T.range (a_ (eV T.len (by rfl) (ce (pv 0) h_)) d_)) (u_ 4 (hN:=qE.nd)) (b_ (t_ (dh PySem.F.plainAttrs_list PySem.F.slot_list_append PySem.F.type_list_append kS (pv 2) (a_ (o_ fz (pv 3) (ce (pv 0) h_)) d_))) (g_ (j_ 3 (hN:=qE.nd) (o_ gB (pv 3) (ce (pv 0) h_)))))) (g_ (k_ (SL Z T.list T.rev (by rfl) (by rfl) (pv 2)))))))),⟨_,Z,g,a,c,b,ps,ws,Z,G,λH1 s1=>?_⟩⟩;have G1:=G.keep s1;show⟨_,Z,_,Z,g,a,c,b,ps,ws,n,Z,G1,hn,λH2 s2=>?_⟩;have G2:=G1.keep s2;show⟨sz (by decide),λl hl=>?_⟩;have s3:ae H2 (ad H2 l (.lst [])):=e_ hl;have G3:=G2.keep s3;show⟨_,Z,_,Z,_,_,_,_,Z,Z,aP.of G3.tp,Z,⟨c,_,Z,.inl (ag.of G3.hw),_,Z,(by rw[a2x,ok.wl];lia),(by rw[a2x,ok.wl];lia),?_⟩⟩;have en:((ws.map V.int).length:Int).toNat=ps.sum:=by rw[a2x,ok.wl];lia
  rw[en];show nO (n:=ps.sum) (λi σ H4=>∃v,σ=[some (.ref g),some (.int n),some (.ref l),some (.int ((n / b ^ i:Nat):Int)),v]/\ae H2 H4/\H4 l=some (.lst (aA (Ma.ups b n i)))) ⟨none,(by rw[a4E,a5U];rfl),s3,c_⟩ ?_ ?_
  .rintro i σ H4 hi ⟨v,rfl,s4,h4⟩;have G4:=G2.keep s4;show⟨_,Z,.inl ⟨Z,_,ag.of h4⟩,_,Z,_,Z,_,_,_,_,Z,Z,aP.of G4.tp,Z,⟨_,_,Z,Z,(by change(0:Int)<b;lia),l,_,_,Z,Z,h4,bT (by simp[aA,Ma.ST];lia),?_⟩⟩;have s5:ae H2 (ad H4 l (.lst (aA (Ma.ups b n i)++[V.int (((n / b ^ i:Nat):Int) % (b:Int))]))):=D_ s4 hl;show⟨_,Z,_,Z,_,_,_,_,Z,Z,aP.of (G2.keep s5).tp,Z,⟨_,_,Z,Z,⟨by change(0:Int)<b;lia,by change(b:Int)<1073741824;lia⟩,some (.int (0+(i:Int))),?_,s5,?_⟩⟩
   .rw[<-Ma.SV];push_cast;rfl
   .rw[c_,Ma.SS];simp[aA]
  .rintro σ H4 ⟨v,rfl,s4,h4⟩;show⟨_,Z,l,_,Z,ag.of h4,λr cE=>(k r _ ?_ ((s1.trans s2).trans (D_ s4 (s4.free cE))) ?_)⟩;.show(s1.trans (s2.trans s4)).free cE
   .rw[c_,<-Ma.SU];simp[aA]
abbrev qF(H:Hp)(qs:List Addr)(rows:List (List Int)):Prop:=Paired (λq row=>H q=some (.lst (row.map V.int))) qs rows
def qF.Uv(s:∀b∈qs,∀row:List Int,H b=some (.lst (row.map V.int))->H' b=some (.lst (row.map V.int)))(h:qF H qs rows):qF H' qs rows:=by
 induction h with
 | nil=>show .nil
 | cons h _ ih=>show .cons (s _ (by simp) _ h)<|ih λb hb=>s b<|a2G _ hb
theorem tL{F:Addr->List Int->Prop}:∀ {qs:List Addr} {rows:List (List Int)} {i:Nat} {q:Addr},Paired F qs rows->qs[i]?=some q->∃row,rows[i]?=some row/\F q row
 | _,_,_,_,.nil,e=>by simp at e
 | _,_,0,_,.cons h _,e=>by simp at e;subst e;show⟨_,Z,h⟩
 | _,_,i+1,q,.cons _ t,e=>by
  obtain⟨row,h1,h2⟩:=tL t (by simpa using e);show⟨row,by simpa using h1,h2⟩
inductive oq(vs:List V)(H:Hp)(Q:VK)(aq:XK):Prop
 | mk:∀f a c b ps ws,∀(r:Addr) (xs:List Int),(vs=[.ref f,.ref r])->(aV H f a c b ps ws)->(H r=some (.lst (xs.map V.int)))->(∀p qs H',ae H H'->H' p=some (.lst (qs.map V.ref))->qF H' qs (Ma.aW ps xs)->Q (.ref p) H')->oq vs H Q aq
inductive ou(vs:List V)(H:Hp)(Q:VK)(aq:XK):Prop
 | mk:∀f a c b ps ws,∀n:Nat,(vs=[.ref f,.int n])->(aV H f a c b ps ws)->(n<b ^ ps.sum)->(∀r H',H r=none->ae H H'->H' r=some (.lst ((Ma.gH ps (Ma.b6 b n ps.sum ws)).map V.int))->Q (.ref r) H')->ou vs H Q aq
def IR{i k:Nat}:fO xs (some (i:Int)) (some ((i:Int)+(k:Int)))=(xs.drop i).take k:=by
 have e: i + k =((i+k:Nat):Int):=by lia
 unfold fO;rw[e,HT.vY,HT.vY];rcases a5Y i _ with h | h
 .rw[a4h h];rcases a5Y _ _ with h2 | h2;.rw[a4h h2,a4A]
  .rw[a5W h2,a3f (by rw[a3c];lia),a3f (by rw[a3c];lia)]
 .simp_all
def IS:aI ["frame","row","pieces","start","length"] ["frame","row"] (f_ Bi):=⟨Z,Z,Z,by decide,Z,by decide,by decide⟩
def Uw(F:ay K "cut_by_parts" "cut_by_parts" Bi f fd):av P w K mg base aE 1 f fd ["frame","row"] oq:=by
 show F.ok IS λak A outer s H vs Q E hr h=>?_
 .obtain⟨g,a,c,b,ps,ws,r,xs,rfl,G,bJ,k⟩:=h;have nd:=IS.nd;have l4:=G.ok.l4;show⟨_,b_ (j_ 2 (x_ d_)) (b_ (j_ 3 h_) (b_ (Z_ PassesOwn.never Z (B_ (ce (pv 0) h_)) (u_ 4) (b_ (t_ (dh PySem.F.plainAttrs_list PySem.F.slot_list_append PySem.F.type_list_append kS (pv 2) (a_ (jX wc (pv 1) (iF (pv 3)) (iF (o_ Q_ (pv 3) (pv 4)))) d_))) (g_ (j_ 3 (o_ Q_ (pv 3) (pv 4)))))) (g_ (k_ (pv 2))))),⟨sz (by decide),λp hp=>?_⟩⟩;have s1:ae H (ad H p (.lst [])):=e_ hp;have G1:=G.keep s1;show⟨_,Z,_,_,_,_,Z,Z,aP.of G1.tp,Z,a,Z,⟨_,ag.of G1.hp⟩,kI (K:=K) (λi σ H2=>∃(qs:List Addr) (v4:Option V),σ=[some (.ref g),some (.ref r),some (.ref p),some (.int (((ps.take i).sum:Nat):Int)),v4]/\ ae H H2/\H2 p=some (.lst (qs.map V.ref))/\qs.length=i/\qF H2 qs ((Ma.aW ps xs).take i)) ⟨[],none,Z,s1,c_,Z,.nil⟩ (λi σ H2 _ h=>by obtain⟨_,_,_,s2,_⟩:=h;show ag.of (s2 _ _ G.hp)) ?_ ?_⟩
  .rintro i x σ H2 hx ⟨qs,v4,rfl,s2,cZ,aS,rows⟩
   have hi:i<ps.length:=by
    have:=(a2z.mp hx).1;simpa [aA] using this
   have e:ps[i]?=some ps[i]:=by simp[hi]
   have ex:x=V.int ((ps[i]:Nat):Int):=by
    have:(aA ps)[i]?=some (V.int ((ps[i]:Nat):Int)):=by simp[aA,hi]
    rw[this] at hx;show(a2J hx).symm
   subst ex;have pr:p≠r:=Ne.symm (l_ bJ hp);show⟨_,Z,.inl ⟨Z,_,ag.of cZ⟩,_,Z,_,Z,_,Z,_,Z,_,Z,_,_,Z,Z,_,Z,r,_,Z,ag.of (s2 _ _ bJ),λq hq=>?_⟩;have pq:p≠q:=l_ cZ hq;show⟨p,_,_,Z,Z,(by rw[i_ pq];show cZ),bT (by rw[a2x];lia),⟨_,Z,_,Z,_,_,Z,Z,qs++[q],some (.int ((ps[i]:Nat):Int)),?_,D_ (D_ s2 (s2.free hq)) hp,?_,by simp[aS],?_⟩⟩
   .rw[a2I,e,a3I];change[some (V.ref g),some (.ref r),some (.ref p),some (.int (((ps.take i).sum:Nat)+((ps[i]:Nat):Int))),_]=_;simp
   .rw[c_];simp
   .rw[a2I,Ma.wF ps xs i ps[i] e];show Paired.snoc (qF.Uv (λbb hb row z=>?_) rows) ?_
    .have bp:bb≠p:=Ao z cZ (by
      intro e;have e':row.map V.int=qs.map V.ref:=by injection e
      have m1:V.ref bb∈row.map V.int:=by rw[e'];show a2N.mpr ⟨bb,hb,Z⟩
      obtain⟨_,_,m2⟩:=a2N.mp m1;cases m2);rw[i_ bp,i_ (l_ z hq)];show z
    .rw[i_ pq.symm,c_,IR,<-a5V,<-List.map_take]
  .rintro σ H2 ⟨qs,v4,rfl,s2,cZ,aS,rows⟩;show⟨_,Z,k p qs H2 s2 cZ ?_⟩;have e:(aA ps).length=(Ma.aW ps xs).length:=by rw[Ma.X_];simp[aA]
   rw[e,a2M] at rows;show rows
end Hv
namespace L2
open PySem PySem.Spec PyProof.Rows
def Ux(h:jJ k v=true):RelV (kV k) v:=by rcases F_ h with⟨i,t,rfl,rfl⟩ | ⟨x,t,rfl,rfl⟩ <;> show⟨_,Z⟩
theorem KV.at(r:KV kvs vs):∀ {i:Nat} {p:ax×V},kvs[i]?=some p->∃u,vs[i]?=some (p.1,u)/\RelV p.2 u:=by
 induction r with
 | nil=>intro i p e;simp at e
 | @cons a b as bs h t ih =>
  intro i p e
  cases i with
  | zero =>
   simp at e;subst e;show⟨b.2,by rw[h.1];rfl,h.2⟩
  | succ i=>simpa using ih (by simpa using e)
section
variable{σ:St}
def Inv.freeze(I:Inv X aa σ H s)(e:H a=some (.dK kvs))(ho:s.heap.get? a=some o):Inv X aa σ (ad H a (.bV o (.dK kvs))) s := I.write (by rw[e];trivial) (.inl Z) (λb q _ z=>z) ⟨o,ho⟩ ⟨ho,I.am a _ e⟩
def Inv.Uy(I:Inv X aa σ H s)(e:H a=some (.bV o (.dK kvs)))(hb:∀o u,X.jL a≠some (.bV o u)):Inv X aa σ (ad H a (.dK kvs)) s:=by
 have ne:∀b,H b=none->b≠a:=λb n z=>by rw[z,e] at n;cases n
 show⟨I.ok,I.os,I.bare,⟨I.base.keep,I.base.slot,λb ob q n hx=>?_,I.base.there,λb xs q=>?_,λb ob u q=>?_,λb ps q=>?_⟩,I.loc,I.cell,?_,λx c q=>?_,λp hp=>?_,λb u q=>?_,I.len⟩
 .have:=I.base.free b ob q n hx;rw[i_ (ne b this)];show this
 .have q':=I.base.fM b xs q;rw[i_ (λz=>by rw[z,e] at q';cases q')];show q'
 .have q':=I.base.fm b ob u q;rw[i_ (λz=>hb ob u (by show z▸?_;show q))];show q'
 .obtain⟨m,q'⟩:=I.base.f6 b ps q;show⟨m,by rw[i_ (λz=>by rw[z,e] at q';cases q')];show q'⟩
 .rw[i_ (ne _ I.free)];show I.free
 .rw[i_ (ne _ (I.fu x c q))];show I.fu x c q
 .obtain⟨h1,h2,h3⟩:=I.pin p hp;show⟨h1,by rw[i_ (ne _ h2)];show h2,h3⟩
 .by_cases IT:b=a
  .subst IT;rw[c_] at q;cases q;show(I.am b _ e).2
  .rw[i_ IT] at q;show(I.am b u q).gt (λ_ _ _ z=>z) (λc z=>?_) λc xs z=>?_;.rw[i_ (λy=>by rw[y,e] at z;cases z)];show z
   .rw[i_ (λy=>by rw[y,e] at z;cases z)];show z
inductive IU(jL:Hp)(u:TS)(D:Ends)(σ:St)(H:Hp):Prop
 | mk:∀a o kvs,(H a=some (.bV o (.dK kvs)))->((∀o u,jL a≠some (.bV o u)))->(u D σ (ad H a (.dK kvs)))->IU jL u D σ H
def tM{aY:List Stmt}(h:bQ X aY u):bQ X aY (IU X.jL u):=λaa s σ H D I q=>by
 obtain⟨a,o,kvs,e,hb,q⟩:=q;show h aa s σ _ D (I.Uy e hb) q
end
def tN(a:Addr)(o:Obj)(kvs:List (ax×V)):It := ⟨λi H=>H a=some (.bV o (.dK kvs))/\i<kvs.length,λi H x H'=>H'=H/\∃k v,kvs[i]?=some (k,v)/\x=kV k,λi H=>H a=some (.bV o (.dK kvs))/\kvs.length<=i⟩
def Uz{K:PySem.W.Frag}(aX:KV kvs vs) (da:∀h:Heap,h.get? a=some o->h.DictAt (v_ P w) a vs ep):jQ P w K tg (tN a o kvs) [it] it (λi h=>h.IsKeyIter it a i vs.length ep) where
 mem:=by simp
 obj:=λi h st b hb=>by
  have e:b=it:=by simpa using hb
  subst e;obtain⟨o,e,c,d⟩:=st;show⟨o,e,λv z=>by rw[d] at z;cases z⟩
 keep:=λi h h' st k=>st.at λo e=>k it (by simp) o e
 item:=by
  intro X hP hw hK hc i aa s σ H E I hf st hg;subst hP hw hK;obtain⟨hq,hi⟩:=hg;obtain⟨f0,f1,f2,f3,f4,f5⟩:=hf it (by simp);have hx:kvs[i]?=some kvs[i]:=by simp[hi]
  obtain⟨u,hu,ru⟩:=aX.at hx;show wpAny_pyNext_dict_item st (da _ (I.am a _ hq).1) hu λaL h' hk ao sb=>?_;have I1:Inv X aa σ H {s with heap:=h'}:=I.turned (λb o hb e=>(sb.2 b hb).trans e) f0 f1 f3 f4 f5;obtain⟨oi,e,c,d⟩:=id ao;show⟨aL,Z,vO e c d (by decide) ⟨kV (kvs[i]).1,H,I1,Ux hk,⟨Z,(kvs[i]).1,(kvs[i]).2,hx,Z⟩,ao,λb hb=>(hf b hb).1⟩⟩
 done:=by
  intro X hP hw hK hc i aa s σ H E I hf st hg;subst hP hw hK;obtain⟨hq,hi⟩:=hg;obtain⟨f0,f1,f2,f3,f4,f5⟩:=hf it (by simp);have hl:=aX.length;show wpAny_pyNext_dict_end (I.ok.hd hc) st (da _ (I.am a _ hq).1) (by simp;lia) λh' eb=>⟨Z,I.turned (λb o hb e=>eb b o hb e) f0 f1 f3 f4 f5⟩
 self:=λ_ _ _ _ _ st h=>wpAny_pyIter_keyiter st h
inductive IV(R:It->Hp->Prop)(x:V)(H1:Hp):Prop
 | mk:∀a kvs,(x=.ref a)->(H1 a=some (.dK kvs))->(∀o,R (tN a o kvs) (ad H1 a (.bV o (.dK kvs))))->IV R x H1
def UA(tl:TE):TI:=fun σ H R=>tl σ H (IV R)
def tO(hl:PE X l tl):PI X tg l (UA tl):=by
 show λaa s σ H R I h=>ar (hl aa s σ H _ I h) λv s1 ⟨x,H1,I1,r1,q1⟩=>?_;obtain⟨a,kvs,e,he,q⟩:=q1;subst e;cases r1;obtain⟨z,hd,vs,aX,o,es,ep,ho,dd⟩:=mw I1.am he;show wpAny_pyIter_dict hd ⟨o,es,ho,dd⟩ ?_;have I2:=I1.freeze he ho;show⟨s1.heap.objs.size,[s1.heap.objs.size],_,_,_,Z,I2.kept λb o e=>a2y _ e,Uz aX λh e=>⟨o,es,e,dd⟩,⟨_,a2F _ Z,Z,Z⟩,λb hb=>?_,q o⟩;have e:b=s1.heap.objs.size:=by simpa using hb
 subst e;show I2.nJ (a2D _)<|I2.am.fresh<|a2D _
def tP{g:TG}{tb:TS}{D:Ends}(Pv:Nat->St->Hp->Prop)(h0:Pv 0 σ H)(hl:∀i σ H,i<=kvs.length->Pv i σ H->H a=some (.bV o (.dK kvs))) (hs:∀i k v σ H,kvs[i]?=some (k,v)->Pv i σ H->g (kV k) σ H λbI H2=>tb {D with nx:=Pv (i+1),ct:=Pv (i+1),bk:=D.nx} bI H2) (hd:∀ σ H,Pv kvs.length σ H->D.nx σ H) : ∃W:Nat->Nat->St->Hp->Prop,(∃m,W 0 m σ H)/\∀i m σ H,W i m σ H-> ((tN a o kvs).stop i H/\D.nx σ H)\/((tN a o kvs).go i H/\∃N:St->Hp->Prop,(∀ aF H',N aF H'->∃m',m'<m/\W (i+1) m' aF H')/\∀x H',(tN a o kvs).gy i H x H'->g x σ H' λbI H2=>tb {D with nx:=N,ct:=N,bk:=D.nx} bI H2):=by
 show⟨λi m σ H=>m=kvs.length-i/\i<=kvs.length/\Pv i σ H,⟨kvs.length,by simp,a3q _,h0⟩,?_⟩;rintro i m σ H ⟨rfl,hi,p⟩;have q:=hl i σ H hi p;by_cases aJ:i<kvs.length
 .show .inr ⟨⟨q,aJ⟩,Pv _,λaF H' p'=>⟨kvs.length-(i+1),by lia,Z,aJ,p'⟩,λx H' y=>?_⟩;obtain⟨e,k,v,hk,rfl⟩:=y;subst e;show hs i k v σ _ hk p
 .have e:i=kvs.length:=by lia
  subst e;show .inl ⟨⟨q,a2D _⟩,hd σ H p⟩
end L2
namespace Srt
open PySem PyProof.Rows
structure Ok(a₀:Array Keyed)(p:Array (Nat×Nat×Nat))(st:SortSt):Prop where
 perm:(arrOf st).Perm a₀
 kind:kindOf st=oneType'
 failed:failedOf st=none
 pend:pendingOf st=p
abbrev tQ(x:Keyed):Prop:=∃n t,x.1=.int n t
section
variable{a₀:Array Keyed}{st:SortSt}
theorem Ok.size(h:Ok a₀ p st):(arrOf st).size=a₀.size:=h.perm.size_eq
def Ok.set(h:Ok a₀ p st)(hp:xs.Perm (arrOf st)):Ok a₀ p (setArr st xs):=⟨hp.trans h.perm,h.kind,h.failed,h.pend⟩
def Ok.keys(h:Ok a₀ p st)(h0:IntKeys a₀):IntKeys (arrOf st):=λx hx=>h0 x<|(a4L.mp h.perm).mem_iff.mp hx
def gh{xs:Array Keyed}(h:IntKeys xs)(hi:i<xs.size):tQ xs[i]:=h _ (by simp)
def tR(hk:kindOf st=oneType')(hx:tQ x)(hy:tQ y)(h:∀r,Q (some r) st):wpS (model prog w) A E s (lt' x y) Q st:=by
 obtain⟨a,t,hx⟩:=hx;obtain⟨b,u,hy⟩:=hy;rw[lt'_eq];show wpS_bind<|wpS_get ?_;rw[hk,keyLt'_oneType,hx,hy];show wpS_bind<|wpS_lift<|wpAny_attempt<|oneLt_int ⟨Z,(wpS_pure (h _))⟩
def w_(hi:i<iK.size)(h:Q iK[i] st):wpS (model prog w) A E s (elem' iK i) Q st:=by
 rw[elem'_eq,getElem?_pos iK i hi];show wpS_pure h
def js(ok:Ok a₀ p st)(h0:IntKeys a₀)(hi:i<a₀.size)(hj:j<a₀.size)(h:∀r,Q (some r) st):wpS (model prog w) A E s (ltAt' i j) Q st:=by
 show wpS_bind<|wpS_get ?_;have sz:=ok.size;have hk:=ok.keys h0;show wpS_bind<|w_ (by lia)<|wpS_bind<|w_ (by lia)<|tR ok.kind (gh hk _) (gh hk _) h
def lm(ok:Ok a₀ p st)(h:∀ao,Ok a₀ p ao->Q () ao):wpS (model prog w) A E s (reverseSlice' i j) Q st:=by show wpS_modify<|h _<|ok.set<|mirror_perm _ _ _ _
def UB(ok:Ok a₀ p st)(h:∀ao,Ok a₀ p ao->Q () ao):wpS (model prog w) A E s (moveDown' i j) Q st:=by show wpS_modify<|h _<|ok.set<|bubble_perm _ _ _
def UC{lo hZ:Nat}(h0:IntKeys a₀)(hn:lo+hZ<=a₀.size)(h1:1<=hZ)(ok:Ok a₀ p st) (h:∀m ao,Ok a₀ p ao->1<=m->m<=hZ->Q (some m) ao):wpS (model prog w) A E s (countRun' lo hZ) Q st:=by
 rw[countRun'_eq];show wpS_bind (wpS_mono (wpS_forRange (I:=λx c ao=>c=(none,x)/\Ok a₀ p ao) (Q:=λc ao=>∃n,c=(none,n)/\1<=n/\n<=hZ/\Ok a₀ p ao) ?step ?fin ⟨Z,ok⟩) ?post)
 case step =>
  rintro x c ao iL mz ⟨rfl,aG⟩;show wpS_bind (js aG h0 (by lia) (by lia) λr=>?_)
  cases r with
  | true=>show wpS_pure ⟨x,Z,iL,by lia,aG⟩
  | false=>show wpS_pure ⟨Z,aG⟩
 case fin =>
  rintro c ao ⟨rfl,aG⟩;show⟨max 1 hZ,Z,by lia,by lia,aG⟩
 case post =>
  rintro c ao ⟨n,rfl,iM,f8,aG⟩;try dsimp only
  by_cases IW:n=hZ
  .rw[if_pos (by simpa using IW)];show wpS_pure (h n _ aG iM f8)
  .rw[if_neg (by simpa using IW)];by_cases qG:n>1
   .rw[if_pos qG];show wpS_bind (js aG h0 (by lia) (by lia) λr=>?_)
    cases r with
    | true=>show wpS_pure (h n _ aG iM f8)
    | false =>
     try dsimp only
     rw[if_neg a2R];show wpS_bind (lm aG λow bu=>(wpS_bind (wpS_lift (wpAny_rule ⟨Z,?_⟩))));show wpS_bind (wpS_mono (wpS_forRange (I:=λx c ao=>(∃q,c=(none,x,q))/\Ok a₀ p ao) (Q:=λc ao=>∃m q,c=(none,m,q)/\1<=m/\m<=hZ/\Ok a₀ p ao) ?_ ?_ ⟨⟨0,Z⟩,bu⟩) ?_)
     .rintro x c ao iL mz ⟨⟨q,rfl⟩,aG⟩;try dsimp only
      show wpS_bind (js aG h0 (by lia) (by lia) λr=>?_)
      cases r with
      | true =>
       try dsimp only
       by_cases hq:q>0
       .rw[if_pos Z,if_pos hq];show wpS_bind (lm aG λbh aO=>wpS_pure ⟨⟨0,Z⟩,aO⟩)
       .rw[if_pos Z,if_neg hq];show wpS_pure ⟨⟨0,Z⟩,aG⟩
      | false =>
       try dsimp only
       rw[if_neg a2R];show wpS_bind (js aG h0 (by lia) (by lia) λr=>?_)
       cases r with
       | true=>show wpS_pure ⟨x,q,Z,by lia,by lia,aG⟩
       | false=>show wpS_pure ⟨⟨q+1,Z⟩,aG⟩
     .rintro c ao ⟨⟨q,rfl⟩,aG⟩;show⟨_,q,Z,by lia,by lia,aG⟩
     .rintro c ao ⟨m,q,rfl,mj,gf,aO⟩;try dsimp only
      by_cases hq:q>0
      .rw[if_pos hq];show wpS_bind (lm aO λbL bn=>(wpS_bind (lm bn λCa oy=>?_)));show wpS_bind (wpS_mono (wpS_forRange (I:=λx c ao=>c=(none,x)/\Ok a₀ p ao) (Q:=λc ao=>∃n,c=(none,n)/\1<=n/\n<=hZ/\Ok a₀ p ao) ?_ ?_ ⟨Z,oy⟩) ?_)
       .rintro x c ao iL mz ⟨rfl,aG⟩;show wpS_bind (js aG h0 (by lia) (by lia) λr=>?_)
        cases r with
        | true=>show wpS_pure ⟨x,Z,by lia,by lia,aG⟩
        | false=>show wpS_pure ⟨Z,aG⟩
       .rintro c ao ⟨rfl,aG⟩;show⟨_,Z,by lia,by lia,aG⟩
       .rintro c ao ⟨n,rfl,iM,f8,aG⟩;show wpS_pure (h n _ aG iM f8)
      .rw[if_neg hq];show wpS_bind (lm aO λCa oy=>(wpS_bind (wpS_mono (wpS_forRange (I:=λx c ao=>c=(none,x)/\Ok a₀ p ao) (Q:=λc ao=>∃n,c=(none,n)/\1<=n/\n<=hZ/\Ok a₀ p ao) ?_ ?_ ⟨Z,oy⟩) ?_)))
       .rintro x c ao iL mz ⟨rfl,aG⟩;show wpS_bind (js aG h0 (by lia) (by lia) λr=>?_)
        cases r with
        | true=>show wpS_pure ⟨x,Z,by lia,by lia,aG⟩
        | false=>show wpS_pure ⟨Z,aG⟩
       .rintro c ao ⟨rfl,aG⟩;show⟨_,Z,by lia,by lia,aG⟩
       .rintro c ao ⟨n,rfl,iM,f8,aG⟩;show wpS_pure (h n _ aG iM f8)
   .rw[if_neg qG];show wpS_bind (wpS_lift (wpAny_rule ⟨Z,(wpS_bind (wpS_mono (wpS_forRange (I:=λx c ao=>(∃q,c=(none,x,q))/\Ok a₀ p ao) (Q:=λc ao=>∃m q,c=(none,m,q)/\1<=m/\m<=hZ/\Ok a₀ p ao) ?_ ?_ ⟨⟨0,Z⟩,aG⟩) ?_))⟩))
    .rintro x c ao iL mz ⟨⟨q,rfl⟩,aG⟩;try dsimp only
     show wpS_bind (js aG h0 (by lia) (by lia) λr=>?_)
     cases r with
     | true =>
      try dsimp only
      by_cases hq:q>0
      .rw[if_pos Z,if_pos hq];show wpS_bind (lm aG λbh aO=>wpS_pure ⟨⟨0,Z⟩,aO⟩)
      .rw[if_pos Z,if_neg hq];show wpS_pure ⟨⟨0,Z⟩,aG⟩
     | false =>
      try dsimp only
      rw[if_neg a2R];show wpS_bind (js aG h0 (by lia) (by lia) λr=>?_)
      cases r with
      | true=>show wpS_pure ⟨x,q,Z,by lia,by lia,aG⟩
      | false=>show wpS_pure ⟨⟨q+1,Z⟩,aG⟩
    .rintro c ao ⟨⟨q,rfl⟩,aG⟩;show⟨_,q,Z,by lia,by lia,aG⟩
    .rintro c ao ⟨m,q,rfl,mj,gf,aO⟩;try dsimp only
     by_cases hq:q>0
     .rw[if_pos hq];show wpS_bind (lm aO λbL bn=>(wpS_bind (lm bn λCa oy=>?_)));show wpS_bind (wpS_mono (wpS_forRange (I:=λx c ao=>c=(none,x)/\Ok a₀ p ao) (Q:=λc ao=>∃n,c=(none,n)/\1<=n/\n<=hZ/\Ok a₀ p ao) ?_ ?_ ⟨Z,oy⟩) ?_)
      .rintro x c ao iL mz ⟨rfl,aG⟩;show wpS_bind (js aG h0 (by lia) (by lia) λr=>?_)
       cases r with
       | true=>show wpS_pure ⟨x,Z,by lia,by lia,aG⟩
       | false=>show wpS_pure ⟨Z,aG⟩
      .rintro c ao ⟨rfl,aG⟩;show⟨_,Z,by lia,by lia,aG⟩
      .rintro c ao ⟨n,rfl,iM,f8,aG⟩;show wpS_pure (h n _ aG iM f8)
     .rw[if_neg hq];show wpS_bind (lm aO λCa oy=>(wpS_bind (wpS_mono (wpS_forRange (I:=λx c ao=>c=(none,x)/\Ok a₀ p ao) (Q:=λc ao=>∃n,c=(none,n)/\1<=n/\n<=hZ/\Ok a₀ p ao) ?_ ?_ ⟨Z,oy⟩) ?_)))
      .rintro x c ao iL mz ⟨rfl,aG⟩;show wpS_bind (js aG h0 (by lia) (by lia) λr=>?_)
       cases r with
       | true=>show wpS_pure ⟨x,Z,by lia,by lia,aG⟩
       | false=>show wpS_pure ⟨Z,aG⟩
      .rintro c ao ⟨rfl,aG⟩;show⟨_,Z,by lia,by lia,aG⟩
      .rintro c ao ⟨n,rfl,iM,f8,aG⟩;show wpS_pure (h n _ aG iM f8)
def UD{lo n ok:Nat}(h0:IntKeys a₀)(hn:lo+n<=a₀.size)(hB:Ok a₀ p st)(h:∀ao,Ok a₀ p ao->Q true ao):wpS (model prog w) A E s (binarySort' lo n ok) Q st:=by
 show wpS_bind<|wpS_mono (wpS_forRange (I:=λk c ao=>c=(none,())/\Ok _ p ao) ?step (λ_ _ z=>z) ⟨Z,hB⟩) ?post
 case post =>
  rintro c ao ⟨rfl,aG⟩;show wpS_pure<|h _ aG
 case step =>
  rintro k c ao Cb lq ⟨rfl,aG⟩;show wpS_bind<|wpS_mono (wpS_forRange (I:=λ_ c bh=>(∃l r,c=(none,l,r)/\r<=k)/\Ok _ p bh) ?_ (λ_ _ z=>z) ⟨⟨0,k,Z,a2D _⟩,aG⟩) ?_
  .rintro x c bh _ _ ⟨⟨l,r,rfl,hr⟩,aO⟩;by_cases eY:l>=r
   .rw[if_pos eY];show wpS_pure ⟨⟨l,r,Z,hr⟩,aO⟩
   .rw[if_neg eY];show wpS_bind<|js aO h0 (by lia) (by lia) λless=>?_
    cases less with
    | true=>show wpS_pure ⟨⟨l,(l+r) / 2,Z,by lia⟩,aO⟩
    | false=>show wpS_pure ⟨⟨(l+r) / 2+1,r,Z,hr⟩,aO⟩
  .rintro c bh ⟨⟨l,r,rfl,hr⟩,aO⟩;show wpS_bind<|UB aO λbL bn=>wpS_pure ⟨Z,bn⟩
end
def IX:Bool->Keyed->Array Keyed->Nat->Nat->Nat->StateT SortSt Sem (Option Nat):=sortPriv% PySem.Builtin.gallop
section
variable{st:SortSt}
def tS{iK:Array Keyed}(hk:kindOf st=oneType')(h0:IntKeys iK)(iE:tQ aL)(hi:i<iK.size)(h:∀r,Q (some r) st) : wpS (model prog w) A E s (elem' iK i>>=λx=>if left=true then lt' x aL else lt' aL x>>=λr=>pure (Option.map (λx=>!x) r)) Q st:=by
 show wpS_bind<|w_ hi ?_
 cases left with
 | true=>show tR hk (gh h0 hi) iE h
 | false=>show wpS_bind<|tR hk iE (gh h0 hi) λr=>wpS_pure<|h _
def oz{iK:Array Keyed}(hk:kindOf st=oneType')(h0:IntKeys iK)(iE:tQ aL)(hb:base+n<=iK.size)(hh:hint<n) (h:∀k,k<=n->Q (some k) st):wpS (model prog w) A E s (IX left aL iK base n hint) Q st:=by
 show wpS_bind (tS hk h0 iE (by lia) λright=>?_)
 cases right with
 | true =>
  try dsimp only
  rw[if_pos Z];show wpS_bind (wpS_mono (wpS_forRange (I:=λ_ c bh=>(∃l r,c=(none,l,r))/\st=bh) ?_ (λ_ _ z=>z) ⟨⟨_,_,Z⟩,Z⟩) ?_)
  .rintro x c bh _ _ ⟨⟨l,r,rfl⟩,rfl⟩;try dsimp only
   by_cases eY:r>=n-hint
   .rw[if_pos eY];show wpS_pure ⟨⟨l,r,Z⟩,Z⟩
   .rw[if_neg eY];show wpS_bind (tS hk h0 iE (by lia) λmore=>?_)
    cases more with
    | true=>show wpS_pure ⟨⟨_,_,Z⟩,Z⟩
    | false=>show wpS_pure ⟨⟨_,_,Z⟩,Z⟩
  .rintro c bh ⟨⟨l,r,rfl⟩,rfl⟩;show wpS_bind (wpS_mono (wpS_forRange (I:=λ_ c bh=>(∃l r,c=(none,l,r)/\r<=n)/\st=bh) ?_ (λ_ _ z=>z) ⟨⟨_,_,Z,by lia⟩,Z⟩) ?_)
   .rintro x c bh _ _ ⟨⟨l,r,rfl,hr⟩,rfl⟩;try dsimp only
    by_cases eY:l>=r
    .rw[if_pos eY];show wpS_pure ⟨⟨l,r,Z,hr⟩,Z⟩
    .rw[if_neg eY];show wpS_bind (tS hk h0 iE (by lia) λmore=>?_)
     cases more with
     | true=>show wpS_pure ⟨⟨l+(r-l) / 2+1,r,Z,hr⟩,Z⟩
     | false=>show wpS_pure ⟨⟨l,l+(r-l) / 2,Z,by lia⟩,Z⟩
   .rintro c bh ⟨⟨l,r,rfl,hr⟩,rfl⟩;show wpS_pure (h _ hr)
 | false =>
  try dsimp only
  rw[if_neg a2R];show wpS_bind (wpS_mono (wpS_forRange (I:=λ_ c bh=>(∃l r,c=(none,l,r))/\st=bh) ?_ (λ_ _ z=>z) ⟨⟨_,_,Z⟩,Z⟩) ?_)
  .rintro x c bh _ _ ⟨⟨l,r,rfl⟩,rfl⟩;try dsimp only
   by_cases eY:r>=hint+1
   .rw[if_pos eY];show wpS_pure ⟨⟨l,r,Z⟩,Z⟩
   .rw[if_neg eY];show wpS_bind (tS hk h0 iE (by lia) λmore=>?_)
    cases more with
    | true=>show wpS_pure ⟨⟨_,_,Z⟩,Z⟩
    | false=>show wpS_pure ⟨⟨_,_,Z⟩,Z⟩
  .rintro c bh ⟨⟨l,r,rfl⟩,rfl⟩;show wpS_bind (wpS_mono (wpS_forRange (I:=λ_ c bh=>(∃l r,c=(none,l,r)/\r<=n)/\st=bh) ?_ (λ_ _ z=>z) ⟨⟨_,_,Z,by lia⟩,Z⟩) ?_)
   .rintro x c bh _ _ ⟨⟨l,r,rfl,hr⟩,rfl⟩;try dsimp only
    by_cases eY:l>=r
    .rw[if_pos eY];show wpS_pure ⟨⟨l,r,Z,hr⟩,Z⟩
    .rw[if_neg eY];show wpS_bind (tS hk h0 iE (by lia) λmore=>?_)
     cases more with
     | true=>show wpS_pure ⟨⟨l+(r-l) / 2+1,r,Z,hr⟩,Z⟩
     | false=>show wpS_pure ⟨⟨l,l+(r-l) / 2,Z,by lia⟩,Z⟩
   .rintro c bh ⟨⟨l,r,rfl,hr⟩,rfl⟩;show wpS_pure (h _ hr)
end
def xq{α:Type}{o A B X:List α}(h:o.Perm (A++B)):(o++X).Perm ((A++X)++B):=by
 show(h.append_right X).trans ?_;rw[a3l,a3l];show a4s.append_left A
def xr{α:Type}{o A B X:List α}(h:o.Perm (A++B)):(o++X).Perm (A++(B++X)):=by
 rw[<-a3l];show h.append_right X
abbrev a9(a b:Array Keyed)(o:Array Keyed)(i j:Nat):Prop:=o.toList.Perm (a.toList.take i++b.toList.take j)
def fT(a:Array Keyed)(i k:Nat):(a.extract i (i+k)).toList=(a.toList.drop i).take k:=by simp
def xu(a:Array Keyed)(i:Nat):(a.extract i a.size).toList=a.toList.drop i:=by
 rw[a5x,a5Q];show a3f<|by simp
def a9.d2(h:a9 a b o i j)(hi:i<a.size):a9 a b (o.push a[i]) (i+1) j:=by
 unfold a9 at h⊢;rw[a3U,a2I,show a.toList[i]?=some a[i] by simp[hi]];show xq h
def a9.dl(h:a9 a b o i j)(hj:j<b.size):a9 a b (o.push b[j]) i (j+1):=by
 unfold a9 at h⊢;rw[a3U,a2I,show b.toList[j]?=some b[j] by simp[hj]];show xr h
def a9.iN(h:a9 a b o i j)(k:Nat):a9 a b (o++a.extract i (i+k)) (i+k) j:=by
 unfold a9 at h⊢;rw[a3m,fT,List.take_add];show xq h
def a9.j7(h:a9 a b o i j)(k:Nat):a9 a b (o++b.extract j (j+k)) i (j+k):=by
 unfold a9 at h⊢;rw[a3m,fT,List.take_add];show xr h
def a9.done(h:a9 a b o i j):(o++a.extract i a.size++b.extract j b.size).toList.Perm (a.toList++b.toList):=by
 rw[a3m,a3m,xu,xu];have:=xr (X:=b.toList.drop j) (xq (X:=a.toList.drop i) h);rwa [a3i,a3i] at this
def a9.last(h:a9 a b o i j):(o++b.extract j b.size++a.extract i a.size).toList.Perm (a.toList++b.toList):=by
 rw[a3m,a3m,xu,xu];have:=xq (X:=a.toList.drop i) (xr (X:=b.toList.drop j) h);rwa [a3i,a3i] at this
def IY:Nat->StateT SortSt Sem Unit:=sortPriv% PySem.Builtin.setMinGallop
def IZ:Array Keyed->Array Keyed->StateT SortSt Sem (Array Keyed):=sortPriv% PySem.Builtin.mergeLo
abbrev dJ(a₀:Array Keyed)(p:Array (Nat×Nat×Nat))(x:Array Keyed)(st:SortSt):Prop:=Ok a₀ p st/\arrOf st=x
section
variable{prog:Program}{w:World}{A:Around}{E:Value->Shared->Prop}{s:Shared}{st:SortSt}{a₀ dA:Array Keyed}{p:Array (Nat×Nat×Nat)}
def xv(ok:dJ a₀ p dA st)(h:∀ao,dJ a₀ p dA ao->Q () ao):wpS (model prog w) A E s (IY g) Q st:=by show wpS_modify<|h _ ⟨⟨ok.1.perm,ok.1.kind,ok.1.failed,ok.1.pend⟩,ok.2⟩
abbrev tU(a b:Array Keyed)(m:Nat)(o:Array Keyed)(i j:Nat):Prop:=a9 a b o i j/\i+1<a.size/\j<b.size/\m<=i+j
def UE{a b:Nat}(h:¬ a=b):¬ (a==b)=true:=by simp_all
def T_{x y:Nat}{Q:α->SortSt->Prop}(h1:x=y->wpS (model prog w) A E s a Q st)(h2:¬ x=y->wpS (model prog w) A E s b Q st):wpS (model prog w) A E s (if (x==y)=true then a else b) Q st:=by
 by_cases h:x=y;.rw[if_pos (beq_iff_eq.mpr h)];show h1 h
 .rw[if_neg (UE h)];show h2 h
def oA{α:Type}{c:Prop}[Decidable c]{a b:StateT SortSt Sem α}{Q:α->SortSt->Prop}(h1:c->wpS (model prog w) A E s a Q st)(h2:¬ c->wpS (model prog w) A E s b Q st):wpS (model prog w) A E s (if c then a else b) Q st:=by
 by_cases h:c;.rw[if_pos h];show h1 h
 .rw[if_neg h];show h2 h
def Ja{T:Nat->Prop}{G:Prop}(aL:∀g',T g')(main:(∀g',T g')->G):G:=main aL
def Jb{T:Array Keyed->Nat->Nat->Prop}{G:Prop}(P:Array Keyed->Nat->Prop)(aL:∀o i k,P o i->T o i k)(main:(∀o i k,P o i->T o i k)->G):G:=main aL
def UF{a b:Array Keyed}(ok:dJ a₀ p dA st)(ha:IntKeys a)(hb:IntKeys b)(UG:1<=a.size)(tV:1<=b.size) (h:∀o ao,dJ a₀ p dA ao->o.toList.Perm (a.toList++b.toList)->Q o ao):wpS (model prog w) A E s (IZ a b) Q st:=by
 unfold IZ;change wpS _ _ _ _ (_>>=_) _ _;show wpS_bind (wpS_lift (wpAny_rule ⟨Z,(wpS_bind (w_ (by lia) ?_))⟩))
 have o1:a9 a b #[b[0]] 0 1:=by
  have:a9 a b #[] 0 0:=by simp[a9]
  show this.dl (by lia)
 show T_ (λh1=>wpS_pure (h _ _ ok o1.done)) (λh1=>?_);show T_ (λh2=>wpS_pure (h _ _ ok o1.last)) (λh2=>(wpS_bind (wpS_get ?_)));show wpS_bind (wpS_mono (wpS_forRange (I:=λm c ao=>∃o i j g,c=(none,o,i,j,g)/\tU a b m o i j/\dJ a₀ p dA ao) (Q:=λc ao=>∃r aY,c=(some r,aY)/\r.toList.Perm (a.toList++b.toList)/\dJ a₀ p dA ao) ?step ?fin ⟨_,_,_,_,Z,⟨o1,by lia,by lia,by lia⟩,ok⟩) ?post)
 case fin =>
  rintro c ao ⟨o,i,j,g,rfl,⟨_,h3,h4,h5⟩,_⟩;lia
 case post =>
  rintro c ao ⟨r,aY,rfl,hp,aG⟩;show wpS_pure (h _ _ aG hp)
 case step =>
  rintro m c ao _ hm ⟨o,i,j,g,rfl,on,aG⟩;show wpS_bind (wpS_mono (wpS_forRange (I:=λy c bh=>∃o i j ac bc,c=(none,o,i,j,ac,bc)/\tU a b (m+y) o i j/\dJ a₀ p dA bh) (Q:=λc bh=>(∃o i j ac bc,c=(none,o,i,j,ac,bc)/\tU a b (m+1) o i j/\dJ a₀ p dA bh)\/∃r aY,c=(some r,aY)/\r.toList.Perm (a.toList++b.toList)/\dJ a₀ p dA bh) ?step1 ?fin1 ⟨_,_,_,_,_,Z,on,aG⟩) ?post1)
  case fin1 =>
   rintro c bh ⟨o,i,j,ac,bc,rfl,⟨q1,q2,q3,q4⟩,aO⟩;show .inl ⟨_,_,_,_,_,Z,⟨q1,q2,q3,by lia⟩,aO⟩
  case step1 =>
   rintro y c bh _ hy ⟨o,i,j,ac,bc,rfl,⟨q1,q2,q3,q4⟩,aO⟩;try dsimp only
   show wpS_bind (w_ (by lia) (wpS_bind (w_ (by lia) (wpS_bind (tR aO.1.kind (gh hb _) (gh ha _) λr=>?_)))))
   cases r with
   | true =>
    try dsimp only
    rw[if_pos Z];show wpS_bind (w_ (by lia) (T_ (λhz=>wpS_pure (.inr ⟨_,_,Z,(q1.dl (by lia)).done,aO⟩)) (λhz=>?_)));split;.show wpS_pure (.inl ⟨_,_,_,_,_,Z,⟨q1.dl (by lia),by lia,by lia,by lia⟩,aO⟩)
    .show wpS_pure ⟨_,_,_,_,_,Z,⟨q1.dl (by lia),by lia,by lia,by lia⟩,aO⟩
   | false =>
    try dsimp only
    rw[if_neg a2R];show wpS_bind (w_ (by lia) (T_ (λhz=>wpS_pure (.inr ⟨_,_,Z,(q1.d2 (by lia)).last,aO⟩)) (λhz=>?_)));split;.show wpS_pure (.inl ⟨_,_,_,_,_,Z,⟨q1.d2 (by lia),by lia,by lia,by lia⟩,aO⟩)
    .show wpS_pure ⟨_,_,_,_,_,Z,⟨q1.d2 (by lia),by lia,by lia,by lia⟩,aO⟩
  case post1 =>
   rintro c bh (⟨o,i,j,ac,bc,rfl,on2,aO⟩ | ⟨r,aY,rfl,hp,aO⟩)
   .dsimp only;show wpS_bind (wpS_lift (wpAny_rule ⟨Z,(wpS_bind (wpS_mono (wpS_forRange (I:=λ_ c bL=>∃o i j g ac bc,c=(none,o,i,j,g,ac,bc)/\tU a b (m+1) o i j/\dJ a₀ p dA bL) (Q:=λc bL=>(∃o i j g ac bc,c=(none,o,i,j,g,ac,bc)/\tU a b (m+1) o i j/\dJ a₀ p dA bL)\/∃r aY,c=(some r,aY)/\r.toList.Perm (a.toList++b.toList)/\dJ a₀ p dA bL) ?step2 (λ_ _ z=>.inl z) ⟨_,_,_,_,_,_,Z,on2,aO⟩) ?post2))⟩))
    case post2 =>
     rintro c bL (⟨o,i,j,g,ac,bc,rfl,on3,bn⟩ | ⟨r,⟨o,i,j,g,ac,bc⟩,rfl,hp,bn⟩)
     .dsimp only;show wpS_bind (xv bn λow bu=>wpS_pure ⟨_,_,_,_,Z,on3,bu⟩)
     .show wpS_pure ⟨_,_,Z,hp,bn⟩
    case step2 =>
     rintro y c bL _ _ ⟨o,i,j,g,ac,bc,rfl,⟨q1,q2,q3,q4⟩,bn⟩;try dsimp only
     show Ja (T:=?T1) ?key1 ?main1
     case main1 =>
      show λaL=>oA (λhg=>?_) (λhg=>?_)
      .generalize g-1=g';show aL g'
      .with_reducible show aL g
     case key1 =>
      show λg'=>wpS_bind (xv bn λow bu=>?_);show wpS_bind (w_ (by lia) (wpS_bind (oz bu.1.kind ha (gh hb _) (by lia) (by lia) λk hk=>?_)));show oA (λxx=>?_) (λxx=>?_)
      .skip;show T_ (λhz=>wpS_pure (.inr ⟨_,_,Z,(q1.iN k).last,bu⟩)) (λhz=>(T_ (λgJ=>wpS_pure (.inr ⟨_,_,Z,(q1.iN k).done,bu⟩)) (λgJ=>?_)));show wpS_bind (w_ (by lia) (T_ (λhy=>wpS_pure (.inr ⟨_,_,Z,(a9.dl (q1.iN k) (by lia)).done,bu⟩)) (λhy=>?_)));show wpS_bind (w_ (by lia) (wpS_bind (oz bu.1.kind hb (gh ha _) (by lia) (by lia) λk1 Cb=>?_)));show oA (λlq=>?_) (λlq=>?_)
       .skip;show T_ (λqH=>wpS_pure (.inr ⟨_,_,Z,((a9.dl (q1.iN k) (by lia)).j7 k1).done,bu⟩)) (λqH=>(wpS_bind (w_ (by lia) ?_)));split;.show wpS_pure (.inr ⟨_,_,Z,(a9.d2 ((a9.dl (q1.iN k) (by lia)).j7 k1) (by lia)).last,bu⟩)
        .split;.show wpS_pure (.inl ⟨_,_,_,_,_,_,Z,⟨a9.d2 ((a9.dl (q1.iN k) (by lia)).j7 k1) (by lia),by lia,by lia,by lia⟩,bu⟩)
         .show wpS_pure ⟨_,_,_,_,_,_,Z,⟨a9.d2 ((a9.dl (q1.iN k) (by lia)).j7 k1) (by lia),by lia,by lia,by lia⟩,bu⟩
       .skip;show wpS_bind (w_ (by lia) ?_);split;.show wpS_pure (.inr ⟨_,_,Z,(a9.d2 (a9.dl (q1.iN k) (by lia)) (by lia)).last,bu⟩)
        .split;.show wpS_pure (.inl ⟨_,_,_,_,_,_,Z,⟨a9.d2 (a9.dl (q1.iN k) (by lia)) (by lia),by lia,by lia,by lia⟩,bu⟩)
         .show wpS_pure ⟨_,_,_,_,_,_,Z,⟨a9.d2 (a9.dl (q1.iN k) (by lia)) (by lia),by lia,by lia,by lia⟩,bu⟩
      .skip;show wpS_bind (w_ (by lia) ?_);show T_ (λhy=>wpS_pure (.inr ⟨_,_,Z,(a9.dl q1 (by lia)).done,bu⟩)) (λhy=>(wpS_bind (w_ (by lia) ?_)));show wpS_bind (oz bu.1.kind hb (gh ha _) (by lia) (by lia) λk1 Cb=>(oA (λlq=>?_) (λlq=>?_)))
       .skip;show T_ (λqH=>wpS_pure (.inr ⟨_,_,Z,((a9.dl q1 (by lia)).j7 k1).done,bu⟩)) (λqH=>(wpS_bind (w_ (by lia) ?_)));split;.show wpS_pure (.inr ⟨_,_,Z,(a9.d2 ((a9.dl q1 (by lia)).j7 k1) (by lia)).last,bu⟩)
        .split;.show wpS_pure (.inl ⟨_,_,_,_,_,_,Z,⟨a9.d2 ((a9.dl q1 (by lia)).j7 k1) (by lia),by lia,by lia,by lia⟩,bu⟩)
         .show wpS_pure ⟨_,_,_,_,_,_,Z,⟨a9.d2 ((a9.dl q1 (by lia)).j7 k1) (by lia),by lia,by lia,by lia⟩,bu⟩
       .skip;show wpS_bind (w_ (by lia) ?_);split;.show wpS_pure (.inr ⟨_,_,Z,(a9.d2 (a9.dl q1 (by lia)) (by lia)).last,bu⟩)
        .split;.show wpS_pure (.inl ⟨_,_,_,_,_,_,Z,⟨a9.d2 (a9.dl q1 (by lia)) (by lia),by lia,by lia,by lia⟩,bu⟩)
         .show wpS_pure ⟨_,_,_,_,_,_,Z,⟨a9.d2 (a9.dl q1 (by lia)) (by lia),by lia,by lia,by lia⟩,bu⟩
   .obtain⟨o,i,j,ac,bc⟩:=aY;show wpS_pure ⟨_,_,Z,hp,aO⟩
end
def Jc:Array Keyed->Array Keyed->StateT SortSt Sem (Array Keyed):=sortPriv% PySem.Builtin.mergeHi
abbrev Behind(a b:Array Keyed)(o:Array Keyed)(i j:Nat):Prop:=o.toList.Perm (a.toList.drop i++b.toList.drop j)
def Jd{α:Type}{o A B X:List α}(h:o.Perm (A++B)):(o++X).Perm ((X++A)++B):=by
 show a4s.trans ?_;rw[a3l];show h.append_left X
def Je{α:Type}{o A B X:List α}(h:o.Perm (A++B)):(o++X).Perm (A++(X++B)):=by
 show(h.append_right X).trans ?_;rw[a3l];show a4s.append_left A
def Jf(a:Array Keyed)(h:k<=i):a.toList.drop k=(a.extract k i).toList++a.toList.drop i:=by
 obtain⟨d,rfl⟩:∃d,i=k+d:=⟨i-k,by lia⟩;rw[fT,<-a5i,a3i]
def xz(a:Array Keyed)(i:Nat):(a.extract 0 i).toList=a.toList.take i:=by simp
def Jg(a:Array Keyed)(h0:1<=i)(hi:i<=a.size):a.toList.drop (i-1)=a[i-1]::a.toList.drop i:=by
 rw[List.drop_eq_getElem_cons (by simp;omega),show i-1+1=i by lia];simp
def Behind.d2(h:Behind a b o i j)(h0:1<=i)(hi:i<=a.size):Behind a b (o.push a[i-1]) (i-1) j:=by
 unfold Behind at h⊢;rw[a3U,Jg a h0 hi];show Jd h
def Behind.dl(h:Behind a b o i j)(h0:1<=j)(hj:j<=b.size):Behind a b (o.push b[j-1]) i (j-1):=by
 unfold Behind at h⊢;rw[a3U,Jg b h0 hj];show Je h
def Behind.iN(h:Behind a b o i j)(hk:k<=i):Behind a b (o++(a.extract k i).reverse) k j:=by
 unfold Behind at h⊢;rw[a3m,a4M,Jf a hk];show((a5l _).append_left _).trans<|Jd h
def Behind.j7(h:Behind a b o i j)(hk:k<=j):Behind a b (o++(b.extract k j).reverse) i k:=by
 unfold Behind at h⊢;rw[a3m,a4M,Jf b hk];show((a5l _).append_left _).trans<|Je h
def Jh{α:Type}(A B:List α){o:List α}(h:o.Perm (A.drop i++B.drop j)):(A.take i++B.take j++o).Perm (A++B):=by
 show(h.append_left _).trans ?_
 have:(A.take i++B.take j++(A.drop i++B.drop j)).Perm ((A.take i++A.drop i)++(B.take j++B.drop j)):=by
  rw[a3l,a3l];show List.Perm.append_left _ ?_;rw[<-a3l,<-a3l];show a4s.append_right _
 rwa [a3i,a3i] at this
def Behind.done(h:Behind a b o i j):(a.extract 0 i++b.extract 0 j++o.reverse).toList.Perm (a.toList++b.toList):=by
 rw[a3m,a3m,xz,xz,a4M];show Jh _ _<|(a5l _).trans h
def Behind.first(h:Behind a b o i j):(b.extract 0 j++a.extract 0 i++o.reverse).toList.Perm (a.toList++b.toList):=by
 rw[a3m,a3m,xz,xz,a4M];show(a4s.append_right _).trans<|Jh _ _<|(a5l _).trans h
section
variable{st:SortSt}
abbrev qI(a b:Array Keyed)(m:Nat)(o:Array Keyed)(i j:Nat):Prop:=Behind a b o i j/\(1<=i/\i<=a.size)/\(2<=j/\j<=b.size)/\m+i+j<=a.size+b.size
def UH{a b:Array Keyed}(ok:dJ a₀ p dA st)(ha:IntKeys a)(hb:IntKeys b)(UG:1<=a.size)(tV:1<=b.size) (h:∀o ao,dJ a₀ p dA ao->o.toList.Perm (a.toList++b.toList)->Q o ao):wpS (model prog w) A E s (Jc a b) Q st:=by
 unfold Jc;change wpS _ _ _ _ (_>>=_) _ _;show wpS_bind (wpS_lift (wpAny_rule ⟨Z,(wpS_bind (w_ (by lia) ?_))⟩))
 have o1:Behind a b #[a[a.size-1]] (a.size-1) b.size:=by
  have:Behind a b #[] a.size b.size:=by simp[Behind]
  show this.d2 (by lia) (by lia)
 show T_ (λh1=>wpS_pure (h _ _ ok o1.done)) (λh1=>?_);show T_ (λh2=>wpS_pure (h _ _ ok o1.first)) (λh2=>(wpS_bind (wpS_get ?_)));show wpS_bind (wpS_mono (wpS_forRange (I:=λm c ao=>∃i j o g,c=(none,i,j,o,g)/\qI a b m o i j/\dJ a₀ p dA ao) (Q:=λc ao=>∃r aY,c=(some r,aY)/\r.toList.Perm (a.toList++b.toList)/\dJ a₀ p dA ao) ?step ?fin ⟨_,_,_,_,Z,⟨o1,by lia,by lia,by lia⟩,ok⟩) ?post)
 case fin =>
  rintro c ao ⟨i,j,o,g,rfl,⟨_,h3,h4,h5⟩,_⟩;omega
 case post =>
  rintro c ao ⟨r,aY,rfl,hp,aG⟩;show wpS_pure (h _ _ aG hp)
 case step =>
  rintro m c ao _ hm ⟨i,j,o,g,rfl,on,aG⟩;show wpS_bind (wpS_mono (wpS_forRange (I:=λy c bh=>∃i j o ac bc,c=(none,i,j,o,ac,bc)/\qI a b (m+y) o i j/\dJ a₀ p dA bh) (Q:=λc bh=>(∃i j o ac bc,c=(none,i,j,o,ac,bc)/\qI a b (m+1) o i j/\dJ a₀ p dA bh)\/∃r aY,c=(some r,aY)/\r.toList.Perm (a.toList++b.toList)/\dJ a₀ p dA bh) ?step1 ?fin1 ⟨_,_,_,_,_,Z,on,aG⟩) ?post1)
  case fin1 =>
   rintro c bh ⟨i,j,o,ac,bc,rfl,⟨q1,q2,q3,q4⟩,aO⟩;show .inl ⟨_,_,_,_,_,Z,⟨q1,q2,q3,by lia⟩,aO⟩
  case step1 =>
   rintro y c bh _ hy ⟨i,j,o,ac,bc,rfl,⟨q1,q2,q3,q4⟩,aO⟩;try dsimp only
   show wpS_bind (w_ (by lia) (wpS_bind (w_ (by lia) (wpS_bind (tR aO.1.kind (gh hb _) (gh ha _) λr=>?_)))))
   cases r with
   | true =>
    try dsimp only
    rw[if_pos Z];show wpS_bind (w_ (by lia) (T_ (λhz=>wpS_pure (.inr ⟨_,_,Z,(q1.d2 (by lia) (by lia)).done,aO⟩)) (λhz=>?_)));split;.show wpS_pure (.inl ⟨_,_,_,_,_,Z,⟨q1.d2 (by lia) (by lia),by lia,by lia,by lia⟩,aO⟩)
    .show wpS_pure ⟨_,_,_,_,_,Z,⟨q1.d2 (by lia) (by lia),by lia,by lia,by lia⟩,aO⟩
   | false =>
    try dsimp only
    rw[if_neg a2R];show wpS_bind (w_ (by lia) (T_ (λhz=>wpS_pure (.inr ⟨_,_,Z,(q1.dl (by lia) (by lia)).first,aO⟩)) (λhz=>?_)));split;.show wpS_pure (.inl ⟨_,_,_,_,_,Z,⟨q1.dl (by lia) (by lia),by lia,by lia,by lia⟩,aO⟩)
    .show wpS_pure ⟨_,_,_,_,_,Z,⟨q1.dl (by lia) (by lia),by lia,by lia,by lia⟩,aO⟩
  case post1 =>
   rintro c bh (⟨i,j,o,ac,bc,rfl,on2,aO⟩ | ⟨r,aY,rfl,hp,aO⟩)
   .dsimp only;show wpS_bind (wpS_lift (wpAny_rule ⟨Z,(wpS_bind (wpS_mono (wpS_forRange (I:=λ_ c bL=>∃i j o g ac bc,c=(none,i,j,o,g,ac,bc)/\qI a b (m+1) o i j/\dJ a₀ p dA bL) (Q:=λc bL=>(∃i j o g ac bc,c=(none,i,j,o,g,ac,bc)/\qI a b (m+1) o i j/\dJ a₀ p dA bL)\/∃r aY,c=(some r,aY)/\r.toList.Perm (a.toList++b.toList)/\dJ a₀ p dA bL) ?step2 (λ_ _ z=>.inl z) ⟨_,_,_,_,_,_,Z,on2,aO⟩) ?post2))⟩))
    case post2 =>
     rintro c bL (⟨i,j,o,g,ac,bc,rfl,on3,bn⟩ | ⟨r,⟨i,j,o,g,ac,bc⟩,rfl,hp,bn⟩)
     .dsimp only;show wpS_bind (xv bn λow bu=>wpS_pure ⟨_,_,_,_,Z,on3,bu⟩)
     .show wpS_pure ⟨_,_,Z,hp,bn⟩
    case step2 =>
     rintro y c bL _ _ ⟨i,j,o,g,ac,bc,rfl,⟨q1,q2,q3,q4⟩,bn⟩;try dsimp only
     show Ja (T:=?T1) ?key1 ?main1
     case main1 =>
      show λaL=>oA (λhg=>?_) (λhg=>?_)
      .generalize g-1=g';show aL g'
      .with_reducible show aL g
     case key1 =>
      show λg'=>wpS_bind (xv bn λow bu=>?_);show wpS_bind (w_ (by lia) (wpS_bind (oz bu.1.kind ha (gh hb _) (by lia) (by lia) λk hk=>?_)));show Jb (T:=?T2) (λo2 i2=>Behind a b o2 i2 j/\1<=i2/\i2<=a.size/\m+1+i2+j<=a.size+b.size) ?key2 ?main2
      case main2 =>
       show λaL=>oA (λxx=>?_) (λxx=>?_)
       .skip;have x1:Behind a b (o++(a.extract k i).reverse) k j:=Behind.iN q1 (by lia);show T_ (λhz=>wpS_pure (.inr ⟨_,_,Z,x1.done,bu⟩)) (λhz=>?_);have pk:1<=k/\k<=a.size/\m+1+k+j<=a.size+b.size:=by lia
        clear hz xx;generalize o++(a.extract k i).reverse=o2 at x1⊢;generalize i-k=ka;generalize k=i2 at x1 pk⊢;show aL o2 i2 ka ⟨x1,pk⟩
       .with_reducible show aL o i (i-k) ⟨q1,q2.1,q2.2,q4⟩
      case key2 =>
       rintro o2 i2 ka ⟨r1,r2,UI,UJ⟩;clear q1 q2 q4 hk;show wpS_bind (w_ (by lia) ?_);have y1:=r1.dl (by lia) q3.2;show T_ (λhy=>wpS_pure (.inr ⟨_,_,Z,y1.first,bu⟩)) (λhy=>?_);have mC:2<=j-1/\j-1<=b.size/\m+1+i2+(j-1)<=a.size+b.size:=by lia
       generalize o2.push b[j-1]=o3 at y1⊢;clear r1 hy UJ q3;generalize j-1=j2 at y1 mC⊢;show wpS_bind (w_ (by lia) ?_);show wpS_bind (oz bu.1.kind hb (gh ha _) (by lia) (by lia) λk1 Cb=>(Jb (T:=?T3) (λo5 j5=>Behind a b o5 i2 j5/\2<=j5/\j5<=b.size/\m+1+i2+j5<=a.size+b.size) ?key3 ?main3))
       case main3 =>
        show λaL=>oA (λlq=>?_) (λlq=>?_)
        .skip;have z1:=Behind.j7 (k:=k1) y1 (by lia);show T_ (λqH=>wpS_pure (.inr ⟨_,_,Z,z1.first,bu⟩)) (λqH=>(T_ (λtW=>wpS_pure (.inr ⟨_,_,Z,z1.done,bu⟩)) (λtW=>?_)));have pt:2<=k1/\k1<=b.size/\m+1+i2+k1<=a.size+b.size:=by lia
         clear qH tW lq;generalize o3++(b.extract k1 j2).reverse=o5 at z1⊢;generalize j2-k1=kb;generalize k1=j5 at z1 pt⊢;show aL o5 j5 kb ⟨z1,pt⟩
        .with_reducible show aL o3 j2 (j2-k1) ⟨y1,mC⟩
       case key3 =>
        rintro o5 j5 kb ⟨t1,t2,t3,t4⟩;show wpS_bind (w_ (by lia) ?_);have u1:=t1.d2 r2 UI;show T_ (λhz=>wpS_pure (.inr ⟨_,_,Z,u1.done,bu⟩)) (λhz=>?_);have Ji:qI a b (m+1) (o5.push a[i2-1]) (i2-1) j5:=⟨u1,⟨by lia,by lia⟩,⟨t2,t3⟩,by lia⟩;split;.show wpS_pure (.inl ⟨_,_,_,_,_,_,Z,Ji,bu⟩)
        .show wpS_pure ⟨_,_,_,_,_,_,Z,Ji,bu⟩
   .obtain⟨i,j,o,ac,bc⟩:=aY;show wpS_pure ⟨_,_,Z,hp,aO⟩
end
def cj:List (Nat×Nat×Nat)->Nat->Nat->Prop
 | [],s,e=>s=e
 | q::r,s,e=>q.1=s/\1<=q.2.1/\cj r (s+q.2.1) e
theorem cj.le:∀ {l:List (Nat×Nat×Nat)} {s e:Nat},cj l s e->s<=e
 | [],_,_,h=>by unfold cj at h;lia
 | q::r,s,e,h=>by
  obtain⟨h1,h2,h3⟩:=h;have:=h3.le;lia
theorem cj.snoc:∀ {l:List (Nat×Nat×Nat)} {s e n g:Nat},cj l s e->1<=n->cj (l++[(e,n,g)]) s (e+n)
 | [],_,_,_,_,h,hn=>by subst h;show⟨Z,hn,Z⟩
 | q::r,s,e,n,g,h,hn=>⟨h.1,h.2.1,h.2.2.snoc hn⟩
theorem cj.two:∀ {l:List (Nat×Nat×Nat)} {s e i:Nat},cj l s e->i+1<l.length->∃a n g m g',l[i]?=some (a,n,g)/\l[i+1]?=some (a+n,m,g')/\1<=n/\1<=m/\a+n+m<=e/\ cj ((l.set i (a,n+m,g)).eraseIdx (i+1)) s e
 | [],_,_,_,_,h=>by simp at h
 | [q],_,_,i,_,h=>by simp at h
 | q::q'::r,s,e,0,h,_=>by
  obtain⟨h1,h2,h3,h4,h5⟩:=h;have:=h5.le;obtain⟨a,n,g⟩:=q;obtain⟨b,m,g'⟩:=q';simp only at h1 h2 h3 h4 h5 this;subst h1 h3;show⟨_,_,_,_,_,Z,Z,h2,h4,by lia,Z,by simp only;lia,?_⟩;rw[<-a4x];show h5
 | q::q'::r,s,e,i+1,h,hi=>by
  obtain⟨a,n,g,m,g',e1,e2,h1,h2,h3,h4⟩:=h.2.2.two (i:=i) (by simp at hi⊢;lia);show⟨a,n,g,m,g',by simpa using e1,by simpa using e2,h1,h2,h3,by simpa using ⟨h.1,h.2.1,h4⟩⟩
theorem cj.mod:∀ {l:List (Nat×Nat×Nat)} {s e i g:Nat},cj l s e->cj (l.modify i λq=>(q.1,q.2.1,g)) s e
 | [],_,_,i,_,h=>by cases i <;> simpa using h
 | q::r,s,e,0,g,h=>by simpa [cj] using h
 | q::r,s,e,i+1,g,h=>by
  have:=h.2.2.mod (i:=i) (g:=g);simpa using ⟨h.1,h.2.1,this⟩
theorem Jj:∀(l:List Keyed) (x:Array Keyed) (d k:Nat),d+k+l.length<=x.size-> ((l.zipIdx k).foldl (λ(y:Array Keyed) (q:Keyed×Nat)=>y.setIfInBounds (d+q.2) q.1) x).toList=x.toList.take (d+k)++l++x.toList.drop (d+k+l.length)
 | [],x,d,k,h=>by simp
 | q::l,x,d,k,h=>by
  simp only[a2P] at h;rw[a4Q,a2W];have z:x.size=(x.setIfInBounds (d+k) q).size:=by simp
  have ih:=Jj l (x.setIfInBounds (d+k) q) d (k+1) (by rw[<-z];lia);rw[ih,Array.toList_setIfInBounds,List.drop_set_of_lt (by lia),show d+(k+1)=d+k+1 by lia,a2I,a4j (by simp;lia)];rw[List.take_set,List.set_eq_of_length_le (by rw[a3a];lia)];simp only[a2P,Option.toList_some,a3l,a4B,a5B];congr 4;lia
def UK{x o:Array Keyed}(hk:i+k<=x.size)(h:o.toList.Perm ((x.toList.drop i).take k)) : (o.toList.zipIdx.foldl (λ(y:Array Keyed) (q:Keyed×Nat)=>y.setIfInBounds (i+q.2) q.1) x).Perm x:=by
 have hl:o.toList.length=k:=by rw[h.length_eq];simp;lia
 rw[a4L,Jj _ _ _ _ (by lia)];have e:x.toList=x.toList.take i++((x.toList.drop i).take k++x.toList.drop (i+k)):=by rw[<-a5i,a3i,a3i]
 conv=>rhs;rw[e]
 rw[a4m,hl,a3l];show(h.append_right _).append_left _
section
variable{st:SortSt}{a₀ dA:Array Keyed}
def UL{st:σ}(h:Q ⟨⟩ x):wpS M A E s (set x:StateT σ Sem PUnit) Q st:=by
 unfold wpS;show wpAny_pure ⟨Z,h⟩
def Jk{x:Array Keyed}(h:IntKeys x)(i k:Nat):IntKeys (x.extract i (i+k)):=λq hq=>by
 rw[fT] at hq;show h q<|a3D<|a4e hq
def Cc(h0:IntKeys a₀)(ok:Ok a₀ p st)(hc:cj p.toList 0 e)(he:e<=a₀.size)(hi:i+1<p.size) (h:∀p' ao,Ok a₀ p' ao->cj p'.toList 0 e->p'.size+1=p.size->Q true ao):wpS (model prog w) A E s (mergeAt' i) Q st:=by
 obtain⟨sa,na,g,nb,g',e1,e2,h1,h2,h3,h4⟩:=hc.two (by simpa using hi);have hsz:=ok.size;have qJ:=ok.keys h0;have p1:(pendingOf st)[i]?=some (sa,na,g):=by rw[ok.pend];simpa using e1
 have p2:(pendingOf st)[i+1]?=some (sa+na,nb,g'):=by rw[ok.pend];simpa using e2
 show wpS_bind (wpS_get ?_);rw[p1,p2];show wpS_bind (UL ?_);have dQ:Ok a₀ (((pendingOf st).setIfInBounds i (sa,na+nb,g)).eraseIdxIfInBounds (i+1)) (SortSt.mk' (kindOf st) (arrOf st) (((pendingOf st).setIfInBounds i (sa,na+nb,g)).eraseIdxIfInBounds (i+1)) (gallopOf st) (failedOf st)) := ⟨ok.perm,ok.kind,ok.failed,Z⟩
 have z1:(((pendingOf st).setIfInBounds i (sa,na+nb,g)).eraseIdxIfInBounds (i+1)).toList=(p.toList.set i (sa,na+nb,g)).eraseIdx (i+1):=by
  rw[ok.pend,Array.eraseIdxIfInBounds,dif_pos (by simpa using hi)];simp
 have c1:cj (((pendingOf st).setIfInBounds i (sa,na+nb,g)).eraseIdxIfInBounds (i+1)).toList 0 e:=by rw[z1];show h4
 have n1:(((pendingOf st).setIfInBounds i (sa,na+nb,g)).eraseIdxIfInBounds (i+1)).size+1=p.size:=by
  have:=congrArg List.length z1;rw[List.length_eraseIdx_of_lt (by simpa using hi),a4V] at this;simp only[a3X] at this;lia
 show wpS_bind (w_ (by change _<(arrOf st).size;lia) (wpS_bind (oz dQ.kind qJ (gh qJ _) (by change _<=(arrOf st).size;lia) (by lia) λk hk=>?_)));try dsimp only
 by_cases hz:na-k=0
 .rw[if_pos (by simpa using hz)];show wpS_pure (h _ _ dQ c1 n1)
 rw[if_neg (by simpa using hz)];show wpS_bind (w_ (by change _<(arrOf st).size;lia) (wpS_bind (oz dQ.kind qJ (gh qJ _) (by change _<=(arrOf st).size;lia) (by lia) λm hm=>?_)));try dsimp only
 by_cases gJ:m=0
 .rw[if_pos (by simpa using gJ)];show wpS_pure (h _ _ dQ c1 n1)
 rw[if_neg (by simpa using gJ)];have ex:(arrOf st).extract (sa+k) (sa+na)=(arrOf st).extract (sa+k) (sa+k+(na-k)):=by congr 1;lia
 have kx:IntKeys ((arrOf st).extract (sa+k) (sa+na)):=by rw[ex];show Jk qJ _ _
 have ky:IntKeys ((arrOf st).extract (sa+na) (sa+na+m)):=Jk qJ _ _
 have xy:((arrOf st).extract (sa+k) (sa+na)).toList++((arrOf st).extract (sa+na) (sa+na+m)).toList=((arrOf st).toList.drop (sa+k)).take (na-k+m):=by
  rw[ex,fT,fT,List.take_add,a5i];congr 3;lia
 have fin:∀(o:Array Keyed) (ao:SortSt),dJ a₀ (((pendingOf st).setIfInBounds i (sa,na+nb,g)).eraseIdxIfInBounds (i+1)) (arrOf st) ao->o.toList.Perm (((arrOf st).extract (sa+k) (sa+na)).toList++((arrOf st).extract (sa+na) (sa+na+m)).toList)->
   Ok a₀ (((pendingOf st).setIfInBounds i (sa,na+nb,g)).eraseIdxIfInBounds (i+1)) (setArr ao (o.toList.zipIdx.foldl (λ(y:Array Keyed) (q:Keyed×Nat)=>y.setIfInBounds (sa+k+q.2) q.1) (arrOf ao))):=λo ao aO hp=>by
  show aO.1.set ?_;rw[xy] at hp;rw[aO.2];show UK (by lia) hp
 have sx:1<=((arrOf st).extract (sa+k) (sa+na)).size:=by rw[Array.size_extract];lia
 have sy:1<=((arrOf st).extract (sa+na) (sa+na+m)).size:=by rw[Array.size_extract];lia
 by_cases iO:na-k<=m
 .rw[if_pos iO];show wpS_bind (UF ⟨dQ,Z⟩ kx ky sx sy λo ao aO hp=>(wpS_bind (wpS_modify (wpS_bind (wpS_get (wpS_pure ?_))))));have bn:=fin o ao aO hp;have e3:=bn.failed;have:=h _ _ bn c1 n1;rw[show(failedOf ao).isNone=true by rw[aO.1.failed];rfl];show this
 .rw[if_neg iO];show wpS_bind (UH ⟨dQ,Z⟩ kx ky sx sy λo ao aO hp=>(wpS_bind (wpS_modify (wpS_bind (wpS_get (wpS_pure ?_))))));have bn:=fin o ao aO hp;have:=h _ _ bn c1 n1;rw[show(failedOf ao).isNone=true by rw[aO.1.failed];rfl];show this
def Ok.Jl(h:Ok a₀ p st)(p':Array (Nat×Nat×Nat)):Ok a₀ p' (setPending st p'):=⟨h.perm,h.kind,h.failed,Z⟩
def UM(h0:IntKeys a₀)(ok:Ok a₀ #[] st)(h:∀ao,(arrOf ao).Perm a₀->failedOf ao=none->Q () ao):wpS (model prog w) A E s sortRuns' Q st:=by
 rw[sortRuns'_eq];show wpS_bind (wpS_get ?_);try dsimp only
 simp only[ok.size];show wpS_bind (wpS_mono (wpS_forRange (I:=λ_ c ao=>∃lo p,c=(none,lo)/\Ok a₀ p ao/\cj p.toList 0 lo/\lo<=a₀.size) ?step (λ_ _ z=>z) ⟨0,#[],Z,ok,Z,by omega⟩) ?post)
 case step =>
  rintro x c ao _ hx ⟨lo,p,rfl,aG,hc,qf⟩;try dsimp only
  by_cases hz:lo>=a₀.size
  .rw[if_pos hz];show wpS_pure ⟨lo,p,Z,aG,hc,qf⟩
  rw[if_neg hz];show wpS_bind (UC h0 (by omega) (by omega) aG λm tX aO mj gf=>?_);try dsimp only
  by_cases Jm:m<minRun' a₀.size a₀.size 0
  .rw[if_pos Jm];show wpS_bind (wpS_lift (wpAny_rule ⟨Z,(wpS_bind (UD h0 (by omega) aO λtX bn=>?_))⟩));rw[if_neg (by decide)];show wpS_bind (wpS_get ?_)
   cases UN:(pendingOf tX).back? with
   | none =>
    try dsimp only
    show wpS_bind (wpS_modify (wpS_pure ⟨_,_,Z,Ok.Jl bn _,?_,by omega⟩));change cj ((pendingOf tX).push _).toList 0 _;rw[a3U,Ok.pend bn];show hc.snoc (by omega)
   | some q =>
    obtain⟨s1,n1,g1⟩:=q;try dsimp only
    show wpS_bind (wpS_mono (wpS_forRange (I:=λ_ c bL=>c=(none,())/\∃p,Ok a₀ p bL/\cj p.toList 0 lo) ?_ (λ_ _ z=>z) ⟨Z,_,bn,hc⟩) ?_)
    .rintro y c bL _ _ ⟨rfl,p3,bn,gi⟩;show wpS_bind (wpS_get ?_);rw[bn.pend];by_cases h2:p3.size>1
     .rw[if_pos h2,getElem?_pos p3 (p3.size-2) (by omega)];generalize p3[p3.size-2]=q;obtain⟨u,v,fQ⟩:=q;try dsimp only
      split;.show wpS_pure ⟨Z,p3,bn,gi⟩
      .show wpS_bind (Cc h0 bn gi qf (by omega) λp4 ow bu tY _=>wpS_pure ⟨Z,p4,bu,tY⟩)
     .rw[if_neg h2];show wpS_pure ⟨Z,p3,bn,gi⟩
    .rintro c bL ⟨rfl,p3,bn,gi⟩;show wpS_bind (wpS_modify (wpS_bind (wpS_modify (wpS_pure ⟨_,_,Z,⟨bn.perm,bn.kind,bn.failed,Z⟩,?_,by omega⟩))));change cj (((pendingOf bL).modify _ _).push _).toList 0 _;rw[a3U,Array.toList_modify,bn.pend];show(cj.mod gi).snoc (by omega)
  .rw[if_neg Jm];show wpS_bind (wpS_get ?_)
   cases UN:(pendingOf tX).back? with
   | none =>
    try dsimp only
    show wpS_bind (wpS_modify (wpS_pure ⟨_,_,Z,Ok.Jl aO _,?_,by omega⟩));change cj ((pendingOf tX).push _).toList 0 _;rw[a3U,Ok.pend aO];show hc.snoc (by omega)
   | some q =>
    obtain⟨s1,n1,g1⟩:=q;try dsimp only
    show wpS_bind (wpS_mono (wpS_forRange (I:=λ_ c bL=>c=(none,())/\∃p,Ok a₀ p bL/\cj p.toList 0 lo) (Q:=λc bL=>c=(none,())/\∃p,Ok a₀ p bL/\cj p.toList 0 lo) ?_ (λ_ _ z=>z) ⟨Z,_,aO,hc⟩) ?_)
    .rintro y c bL _ _ ⟨rfl,p3,bn,gi⟩;show wpS_bind (wpS_get ?_);rw[bn.pend];by_cases h2:p3.size>1
     .rw[if_pos h2,getElem?_pos p3 (p3.size-2) (by omega)];generalize p3[p3.size-2]=q;obtain⟨u,v,fQ⟩:=q;try dsimp only
      split;.show wpS_pure ⟨Z,p3,bn,gi⟩
      .show wpS_bind (Cc h0 bn gi qf (by omega) λp4 ow bu tY _=>wpS_pure ⟨Z,p4,bu,tY⟩)
     .rw[if_neg h2];show wpS_pure ⟨Z,p3,bn,gi⟩
    .rintro c bL ⟨rfl,p3,bn,gi⟩;show wpS_bind (wpS_modify (wpS_bind (wpS_modify (wpS_pure ⟨_,_,Z,⟨bn.perm,bn.kind,bn.failed,Z⟩,?_,by omega⟩))));change cj (((pendingOf bL).modify _ _).push _).toList 0 _;rw[a3U,Array.toList_modify,bn.pend];show(cj.mod gi).snoc (by omega)
 case post =>
  rintro c ao ⟨lo,p,rfl,aG,hc,qf⟩;try dsimp only
  show wpS_bind (wpS_mono (wpS_forRange (I:=λ_ c bL=>c=(none,())/\∃p,Ok a₀ p bL/\cj p.toList 0 lo) (Q:=λc bL=>c=(none,())/\∃p,Ok a₀ p bL/\cj p.toList 0 lo) ?_ (λ_ _ z=>z) ⟨Z,_,aG,hc⟩) ?_)
  .rintro y c bL _ _ ⟨rfl,p3,bn,gi⟩;show wpS_bind (wpS_get ?_);show bn.pend▸?_;by_cases h2:p3.size<=1
   .rw[if_pos h2];show wpS_pure ⟨Z,p3,bn,gi⟩
   .rw[if_neg h2]
    have hi:∀(c:Prop) [Decidable c],(if c then p3.size-2-1 else p3.size-2)+1<p3.size:=λc _=>by
     by_cases hc:c;.rw[if_pos hc];omega
     .rw[if_neg hc];omega
    show wpS_bind (Cc h0 bn gi qf (hi _) λp4 ow bu tY _=>wpS_pure ⟨Z,p4,bu,tY⟩)
  .rintro c bL ⟨rfl,p3,bn,gi⟩;show wpS_pure (h _ bn.perm bn.failed)
end
def UO(hI:IntsAre vs ns){xs:Array Keyed}(hp:xs.Perm (pairsOf vs)):∃bq,IntsAre (xs.map (·.2)).toList bq/\bq.Perm ns:=by
 have hq:(xs.map (·.2)).toList.Perm vs:=by
  have h1:=(a4L.mp hp).map (·.2);have h2:(pairsOf vs).toList.map (·.2)=vs:=by rw[pairsOf_toList];show List.map_snd_zip<|a2D _
  rw[h2] at h1;rwa [Array.toList_map]
 show⟨_,intsAre_map _ λv hv=>hI.all v<|hq.mem_iff.mp hv,?_⟩;rw[<-hI.nums];show hq.map _
def UP(at_:s.heap.get? l=some (seqObj "list" vs.toArray n))(hI:IntsAre vs ns)(hz:vs.length<=sizeLine) (h:∀ out   bq ,IntsAre out.toList bq->bq.Perm ns->P (.done (.ret .none)) {s with heap:=sortedHeap s.heap l vs out}) : wpAny (model prog w) A (Builtin.«list.sort» ⟨[.ref l],[]⟩) P E s:=by
 rw[list_sort_plain];obtain⟨e1,iH⟩:∃e1,(s.heap.update l (Obj.mapSeq λ_=>#[])).get? l=some (seqObj "list" #[] e1):=⟨_,get?_update_seq at_ (λ_=>#[])⟩;show wpAny_bind (listItems_at at_ Z (wpAny_bind (listUpdate_at at_ Z (wpAny_bind (seqEpoch_at iH Z (wpAny_bind (wpAny_newTuple (wpAny_bind (wpAny_newList (wpAny_holding ?_))))))) (by omega) (by simp))));have xA:(((s.heap.update l (Obj.mapSeq λ_=>#[])).push (seqObj "tuple" vs.toArray 0)).push (seqObj "list" #[] 0)).get? l=some (seqObj "list" #[] e1):=by show a2y _ (a2y _ iH)
 try dsimp only
 have fin:∀ao:SortSt,(arrOf ao).Perm (pairsOf vs)->P (.done (.ret .none)) {s with heap:=sortedHeap s.heap l vs ((arrOf ao).map (·.2))}:=λao hp=>by
  obtain⟨bq,h1,h2⟩:=UO hI hp;show h _ bq h1 h2
 have big:∀ao:SortSt,(arrOf ao).Perm (pairsOf vs)->((arrOf ao).map (·.2)).size<=sizeLine+1:=λao hp=>by rw[Array.size_map,hp.size_eq,pairsOf_size];omega
 by_cases h2:vs.toArray.size<2
 .rw[if_pos h2,if_pos h2];show wpAny_bind (wpAny_pure (show wpAny _ _ _ _ _ _ from ?_));rw[StateT.run_pure];show wpAny_bind (wpAny_pure (wpAny_bind (seqEpoch_at xA Z (wpAny_bind (listUpdate_at xA Z ?_ (by simp) (big (SortSt.mk' general' (vs.toArray.zip vs.toArray) #[] 7 none) (a6b _)))))));simp only[bne_self_eq_false,a3B,if_false];show wpAny_pure (fin (SortSt.mk' general' (vs.toArray.zip vs.toArray) #[] 7 none) (a6b _))
 .rw[if_neg h2,if_neg h2]
  obtain⟨v1,v2,r,rfl⟩:∃v1 v2 r,vs=v1::v2::r:=by
   rcases vs with _ | ⟨v1,_ | ⟨v2,r⟩⟩;.simp at h2
   .simp at h2
   .show⟨v1,v2,r,Z⟩
  rw[keyKind_ints hI];show wpAny_bind (wpAny_pure (wpAny_bind (wpAny_mono (UM (Q:=λ_ ao=>(arrOf ao).Perm (pairsOf (v1::v2::r))/\failedOf ao=none) hI.intKeys ⟨a6b _,Z,Z,Z⟩ λao a1 a2=>⟨a1,a2⟩) ?_ λ_ _ e=>e)));rintro⟨⟨⟩,ao⟩ s' ⟨rfl,hp,hf⟩;show wpAny_bind (seqEpoch_at xA Z (wpAny_bind (listUpdate_at xA Z ?_ (by simp) (big ao hp))));rw[hf];simp only[bne_self_eq_false,a3B,if_false];show wpAny_pure (fin ao hp)
section
variable{s:Shared}
def UQ(K:PySem.W.KdlSrc prog w T r d n P OK)(hh:A.handled=none)(am:OK s.heap)(hn:n<=sizeLine) (h:∀h' tk acc c,(∀b o,s.heap.get? b=some o->h'.get? b=some o)->h'.get? s.heap.objs.size=some {cls:=.type "list",dict:=none,data:=.seq acc c,slots:=#[]}->ItemsOf P acc n->R (.ok (.ret (.ref s.heap.objs.size))) {s with heap:=h',toks:=tk}) : codeAny (model prog w) A (.builtin "proto.collect" ⟨[.ref r],[]⟩) R s:=by
 have lt:=K.there _ am;show codeAny_builtin PySem.F.entry_proto_collect ?_;show wpAny_bind<|wpAny_newObj_type<|wpAny_pure ⟨plainId_quiet PySem.F.plain_list_iadd _,codeAny_builtin PySem.F.entry_list_iadd ?_⟩;show PySem.W.kdl_extend K hh (K.keep _ _ am λb _ o e=>a2y _ e) _ (a3u lt.1) (a3u lt.2) _ 0 (a2F _ Z) (λh' tk acc c k hS dI=>h h' tk acc c (λb o e=>k b o (a2V<|a2C e)<|a2y _ e) hS dI) hn
def Jn(K:PySem.W.KdlSrc prog w T r d n P OK)(hh:A.handled=none)(am:OK s.heap)(hn:n<=sizeLine) (h:∀h' tk acc,(∀b o,s.heap.get? b=some o->h'.get? b=some o)->s.heap.objs.size<h'.objs.size->ItemsOf P acc n->Q acc.toList {s with heap:=h',toks:=tk}):wpAny (model prog w) A (collect (.ref r)) Q E s:=by
 show wpAny_bind<|wpAny_runValue<|UQ K hh am hn λh' tk acc c k hS dI=>?_;show wpAny_bind<|wpAny_load hS<|wpAny_pure<|h h' tk acc k (a2C hS) dI
def Jo(e:h.get? l=some (seqObj "list" vs.toArray c)) : (∃c',(sortedHeap h l vs out).get? l=some (seqObj "list" out c'))/\∀b o,b≠l->h.get? b=some o->(sortedHeap h l vs out).get? b=some o:=by
 constructor;.show⟨_,get?_update_seq (a2y _<|a2y _<|get?_update_seq e _) _⟩
 .show λb o hb q=>(a3r _ _ (Ne.symm hb)).trans<|a2y _<|a2y _ ?_;show(a3r _ _<|Ne.symm hb).trans q
def UR(K:PySem.W.KdlSrc prog w T r d n P OK)(hh:A.handled=none)(am:OK s.heap)(hn:n<=sizeLine)(hi:∀acc,ItemsOf P acc n->IntsAre acc.toList ns) (h:∀h' tk D c  out   bq ,(∀b o,s.heap.get? b=some o->h'.get? b=some o)->s.heap.objs.size<=D->h'.get? D=some (seqObj "list" out c)->IntsAre out.toList bq->bq.Perm ns->Q (.ref D) {s with heap:=h',toks:=tk}) : wpAny (model prog w) A (call (.builtin "sorted") [.ref r]) Q E s:=by
 show Calls.call_function_entry kind_sorted plain_sorted entry_sorted (args_sorted1 _) ?_;show wpAny_bind<|wpAny_pure<|wpAny_bind<|Jn K (by show hh) am hn λh1 tk acc k1 z1 dI=>?_;have hI:=hi acc dI;have hz:acc.toList.length<=sizeLine:=by rw[a3X,dI.1];show hn
 show wpAny_bind<|wpAny_newList ?_;have iH:(h1.push<|seqObj "list" _ 0).get? _=some (seqObj "list" acc.toList.toArray 0):=a2F _ Z;show wpAny_bind<|wpAny_holding<|wpAny_call_entry slot_list_sort ⟨_,iH,Z⟩ entry_list_sort (UP iH hI hz λout bq a1 a2=>⟨_,Z,?_⟩)<|args_list_sort _;obtain⟨⟨c',g1⟩,g2⟩:=Jo iH;show wpAny_pure ⟨_,Z,h _ _ _ c' out bq (λb o e=>?_) ?_ g1 a1 a2⟩
 .have e1:=k1 b o e;show g2 b o (a2V<|a2C e1)<|a2y _ e1
 .show a4D z1
end
end Srt
namespace L2
open PySem PySem.Spec PyProof.Rows
def US{vs:List (ax×Value)}{ns:List Int}(hk:vs.map (·.1)=ns.map Sum.inl)(h:ItemsOf (λi v=>∃k x,vs[i]?=some (k,x)/\(v_ P w).is k v=true) acc vs.length):IntsAre acc.toList ns:=by
 have hl:vs.length=ns.length:=by simpa using congrArg List.length hk
 have at_:∀(i:Nat)  v ,acc.toList[i]?=some v->∃n t,ns[i]?=some n/\v=Value.int n t:=λi v e=>by
  obtain⟨k,x,h1,h2⟩:=h.2 i v (by rw[<-a4K];show e);have h3:(vs.map (·.1))[i]?=some k:=by rw[a2E,h1];rfl
  rw[hk,a2E] at h3
  cases q:ns[i]? with
  | none=>rw[q] at h3;cases h3
  | some m =>
   rw[q] at h3;have h4:=a2J h3;subst h4;have h5:jJ (Sum.inl m) v=true:=h2;rcases F_ h5 with⟨i',t,e1,e2⟩ | ⟨y,t,e1,_⟩;.cases e1;show⟨m,t,Z,e2⟩
   .cases e1
 have all:∀v:Value,v∈acc.toList->∃n t,v=Value.int n t:=λv hv=>by
  obtain⟨i,hi⟩:=a3y hv;obtain⟨n,t,_,e⟩:=at_ i v hi;show⟨n,t,e⟩
 have hm:=intsAre_map _ all
 have e:acc.toList.map numOf=ns:=by
  apply a5h;intro i;rw[a2E]
  cases q:acc.toList[i]? with
  | none =>
   have:acc.size<=i:=by simpa using q
   have hs:=h.1;rw[a4q (by lia)];rfl
  | some v =>
   obtain⟨n,t,e1,e2⟩:=at_ i v q;rw[e1,e2];rfl
 rw[e] at hm;show hm
def UT(hc:X.calm=true):dw X (.builtin "sorted") (λxs H Q=>∃(a:Addr) (kvs:List (ax×V)) (ns:List Int),xs=[.ref a]/\Rd H a (.dK kvs)/\kvs.map (·.1)=ns.map Sum.inl/\ ∀ l  (bq:List Int),H l=none->bq.Perm ns->Q (.ref l) (ad H l (.lst (bq.map V.int)))):=by
 intro aa s σ H xs us Q I r h;obtain⟨a,kvs,ns,rfl,e,hk,q⟩:=h;obtain⟨u,rfl,ru⟩:=vals1 r;cases ru;obtain⟨z,hd,vs,aX,o,es,ep,ho,dd⟩:=jZ I.am e;have ia:vs.map (·.1)=ns.map Sum.inl:=by rw[<-aX.keys];show hk
 have hl:vs.length=ns.length:=by simpa using congrArg List.length ia
 show Srt.UR (a5r hd) (I.ok.hd hc) ⟨o,es,ho,dd⟩ (by rw[<-aX.length];show z) (λacc dI=>US ia dI) λh' tk D c out bq k hD hg hI hp=>?_;have hz:(bq.map V.int).length<=sizeLine:=by rw[a2x,hp.length_eq,<-hl,<-aX.length];show z
 show⟨.ref D,_,I.laid (o:=.lst _) k hD ⟨hz,out.toList,c,Hx hI,by simpa using hg⟩,Z,q D bq (I.am.fresh hD) hp⟩
end L2
namespace PySem
open Sem (wp)
def UU:typeLookup (.type "list") "keys"=pure none:=by kernel_rfl
def UV
  (hx:s.heap.get? a=some o) (hc:o.cls=.type "list") (qD:o.data=.seq xs k) (hd:o.dict=none) (UW:typeLookup (.type "list") name=pure none) (UX:(["__module__","__name__","__qualname__","__doc__","__annotations__"]:List Str).contains name=false) (hA:A.handled=none) (h:∀h' tk,(∀b ob,s.heap.get? b=some ob->h'.get? b=some ob)->Q none {s with heap:=h',toks:=tk}) (hsz:name.length+100<=sizeLine:=by size_fits) : wpAny (model prog w) A (getAttr? (.ref a) name) Q E s:=by
 obtain⟨c,dct,dat,sl⟩:=o;simp only at hc qD hd;subst hc qD hd;obtain⟨hp,g,d,tk,os⟩:=s;have hT:∀Jp,(⟨hp,g,d,Jp,os⟩:Shared).TypeIs (.ref a) "list":=λ_=>⟨_,hx,Z⟩;have f1:=sub_AttributeError;have f3:=F.slot_list_getattribute.lookup;have f4:=F.slot_list_getattribute.bind (.ref a);have f5:=am_list_getattr_none;unfold getAttr? getAttrBy? getAttrBy;repeat (any_goals (first | assumption | show hT _ | ((with_reducible change wpAny _ _ (call (Value.builtin "list.__getattribute__") _ _) _ _ _);show call_meets F.slot_list_getattribute (hT _) am_entry_list_getattribute (F.args_list_getattribute_2 _ _) (meets_getattribute_miss_list a xs k sl name _ UW UX hsz) ⟨hx,hA,λh' Jp e fN=>?_⟩) | wp_step))
 obtain⟨t',u',he⟩:=fN.there;change wpAny _ _ (getattributeRaised _ _ _ _ _ _ _) _ _ _;unfold getattributeRaised;repeat (any_goals (first | assumption | wp_step))
 show h _ _ fN.keeps
namespace F
def Jq:entryFor table "dict.update.loop"=some Builtin.«dict.update.loop»:=entryFor_of_tree (by kernel_rfl)
def xB:plainId "dict.update.loop"=true:=by decide
end F
section
variable{prog:Program}{w:World}{A:Around}{R:Result->Shared->Prop}{I:Addr}{fp wr:List Addr}{G:Array GenState->Array GenState->Prop}{n:Nat}{P:Nat->Value->Prop}{St:Nat->Shared->Prop}
variable{K:Type}[DecidableEq K]{knd:KeyKind prog w K}
def UY(rs:List (K×Value)):(merged [] rs).length<=rs.length:=by
 have gen:∀(rs kvs:List (K×Value)),(merged kvs rs).length<=kvs.length+rs.length:=by
  intro rs
  induction rs with
  | nil=>intro kvs;simp[merged]
  | cons p r ih =>
   intro kvs;have h:=ih (stored kvs p.1 p.2)
   have h2:(stored kvs p.1 p.2).length<=kvs.length+1:=by
    unfold stored;split <;> simp
   change(merged _ r).length<=_;simp only[a2P];lia
 simpa using gen rs []
def UZ(W:WalksS prog w A.in1 I fp wr G n P St)(S:Addr)(qq:S∉fp)(res:Value)(rs:List (K×Value))(hn:rs.length=n)(hz:n<=sizeLine)(s0:Shared) (jn:∀i v,P i v->∃k x,rs[i]?=some (k,x)/\∀h:Heap,(∀b o,b∉S::wr->s0.heap.get? b=some o->h.get? b=some o)->∃t o c aL,v=.ref t/\h.get? t=some o/\o.cls=.type "tuple"/\o.data=.seq #[aL,x] c/\knd.is k aL=true) : ∀ k i   tk   s ,n-i=k->i<=n->St i s->(∀b o,b∉S::wr->s0.heap.get? b=some o->s.heap.get? b=some o)-> s.heap.DictOf knd S (merged [] (rs.take i))-> (∀s',Moved (S::wr) G s s'->s'.heap.DictOf knd S (merged [] rs)->R (.ok (.ret res)) s')-> codeAny (model prog w) A (.builtin "dict.update.loop" ⟨[.ref S,.ref I,.int (i:Int) tk,res],[]⟩) R s:=by
 have Jr:S∉wr:=λh=>qq (W.sub _ h);have tZ:∀b∈wr,b∈S::wr:=λb hb=>a2G _ hb;intro k
 induction k with
 | zero =>
  intro i tk s hk hi eT h0 hS hR;have mD:i=n:=by lia
  show codeAny_builtin F.Jq ?_;show (Around.under_plainId F.xB _)▸?_;show wpAny_bind (W.done s _ _ (mD▸eT) λs' hm=>?_);change wpAny _ A.in1 (Builtin.Dict.addKeywords S []>>=λ_=>ret res) _ _ s';show wpAny_bind ?_;unfold Builtin.Dict.addKeywords;change wpAny _ A.in1 (pure ()) _ _ s';show wpAny_pure (wpAny_pure (hR s' (hm.mono tZ) ?_));rw[mD,a3f (by lia)] at hS;obtain⟨o,es,ep,ho,aY⟩:=hS;show⟨o,es,ep,hm.heap S _ Jr ho,aY⟩
 | succ k ih =>
  intro i tk s hk hi eT h0 hS hR;have aJ:i<n:=by lia
  show codeAny_builtin F.Jq ?_;show (Around.under_plainId F.xB _)▸?_;change wpAny _ A.in1 (pyNext (.ref I)>>=_) _ _ s;show wpAny_bind (W.item i s _ _ aJ eT λv s' hP U3 hm=>?_);have Js:∀b o,b∉S::wr->s0.heap.get? b=some o->s'.heap.get? b=some o:=λb o hb e=>hm.heap b o (λz=>hb (tZ b z)) (h0 b o hb e);obtain⟨k',x,hr,ht⟩:=jn i v hP;obtain⟨t,o,c,aL,rfl,ho,hc,hd,iE⟩:=ht s'.heap Js
  have oa:s'.heap.DictOf knd S (merged [] (rs.take i)):=by
   obtain⟨o,es,ep,ho,aY⟩:=hS;show⟨o,es,ep,hm.heap S _ Jr ho,aY⟩
  have hT:s'.TypeIs (.ref t) "tuple":=⟨o,ho,hc⟩
  have bE:(merged [] (rs.take i)).length<=sizeLine:=by
   have:=UY (rs.take i);rw[a3a] at this;lia
  show wpAny_bind (wpAny_holding (wpAny_bind (wpAny_tryCatch ?_)));unfold Builtin.Dict.pairItems;show wpAny_bind (wpAny_typeOf hT (wpAny_ite_split (λ_=>?_) (λhU=>absurd (by decide) hU)));repeat (any_goals (first | assumption | wp_step))
  show hd▸?_;show wpAny_pure (wpAny_pure ?_);change wpAny _ _ (holding [aL,x] (dictSet S aL x)) _ _ _;show wpAny_holding (wpAny_dictSet_pairs iE oa (λh' hD U4=>(wpAny_pure ⟨plainId_quiet F.xB _,?_⟩)) bE);have ei:rawInt ((i:Int)+1)=rawInt ((i+1:Nat):Int):=by push_cast;rfl
  show ei▸?_;have Cd:∀b o,b≠S->s'.heap.get? b=some o->h'.get? b=some o:=λb o hb e=>(U4.2 b hb).trans e;show ih (i+1) _ _ (by lia) aJ (W.frame _ s' _ _ U3 (a5w _) λb hb o e=>Cd b o (λh:b=S=>qq (by rw[<-h];show hb)) e) (λb o hb e=>Cd b o (λh:b=S=>hb (by rw[h];show a2Y)) (Js b o hb e)) ?_ λsh U5 U6=>?_
  .rw[merged_take_succ [] rs i (k',x) hr];show hD
  .show hR sh (Moved.trans W.gtrans ((hm.mono tZ).then_heap (a5w _) λb o hb e=>(Cd b o (λh:b=S=>hb (by rw[h];show a2Y)) e)) U5) U6
end
section
variable{prog:Program}{w:World}{A:Around}{E:Value->Shared->Prop}{s:Shared}
variable{K:Type}[DecidableEq K]{knd:KeyKind prog w K}
def U7(hh:A.handled=none)(hl:s.heap.get? l=some {cls:=.type "list",data:=.seq items c})(hz:items.size<=sizeLine)(rs:List (K×Value))(hn:rs.length=items.size) (jn:∀(i:Nat) v,items[i]?=some v->∃k x,rs[i]?=some (k,x)/\∃t o c aL,v=.ref t/\s.heap.get? t=some o/\o.cls=.type "tuple"/\o.data=.seq #[aL,x] c/\knd.is k aL=true) (hQ:∀h' tk,h'.DictOf knd s.heap.objs.size (merged [] rs)->(∀b o,s.heap.get? b=some o->h'.get? b=some o)->Q (.ref s.heap.objs.size) {s with heap:=h',toks:=tk}) : wpAny (model prog w) A (call (.type "dict") [.ref l]) Q E s:=by
 show callType_codes (Q₁:=λobj bf=>obj=.ref s.heap.objs.size/\bf={s with heap:=s.heap.push {cls:=.type "dict",data:=.dict #[]}}) F.kt_called_dict (F.kt_typeCall_dict_1 _) F.entry_dict_init (kt_code_dict_new _ ⟨Z,Z⟩) ?_;rintro obj bf ⟨rfl,rfl⟩;have mh:(s.heap.push {cls:=.type "dict",data:=.dict #[]}).DictOf knd s.heap.objs.size []:=Heap.DictOf.new s.heap;have bY:(s.heap.push {cls:=.type "dict",data:=.dict #[]}).get? l=some {cls:=.type "list",data:=.seq items c}:=a2y _ hl;have Jt:l<s.heap.objs.size:=a2C hl;show⟨mh.typeIs,F.args_dict_init_2 _ _,?_⟩;show wpAny_bind ?_;show wpAny_bind (wpAny_notOrdered_dict mh.typeIs ?_);show wpAny_pure ?_;change wpAny _ _ (Builtin.Dict.updateFrom "dict.__init__" s.heap.objs.size (.ref l) [] .none) _ _ _;show wpAny_bind (wpAny_typeOf ⟨_,bY,Z⟩ ?_);rw[if_pos (by decide)];show wpAny_bind (UV bY Z Z Z UU (by decide) (by simpa using hh) λh1 tk1 k1=>(wpAny_ite_split (λ_=>?_) (λhU=>absurd Z hU)));show wpAny_bind (wpAny_rule ?_);have aS:=k1 _ _ bY;show wpAny_bind (wpAny_pyIter_list ⟨_,aS,Z,c,Z⟩ (wpAny_pure ⟨plainId_quiet F.xB _,?_⟩));have U8:(s.heap.push {cls:=.type "dict",data:=.dict #[]}).get? s.heap.objs.size=some {cls:=.type "dict",data:=.dict #[]}:=a2F _ Z;have U9:=k1 _ _ U8;have jt:s.heap.objs.size<h1.objs.size:=a2C U9;have lI:l≠h1.objs.size:=a2V (Nat.lt_trans Jt jt)
 have qq:s.heap.objs.size∉[h1.objs.size,l]:=by
  simp only[a2B,a2Q,or_false,not_or];show⟨a2V jt,a3u Jt⟩
 have U':A.in1.in1.handled=none:=by simpa using hh
 have W:=(Walks.list (prog:=prog) (w:=w) U' h1.objs.size l lI items).toS
 have keep:∀b o,s.heap.get? b=some o->b∉s.heap.objs.size::[h1.objs.size]:=λb o e z=>by
  have hb:=a2C e;simp only[a2B,a2Q,or_false] at z;rcases z with z | z;.rw[z] at hb;show a3w _ hb
  .rw[z] at hb;show a3w _ (Nat.lt_trans hb jt)
 show UZ (knd:=knd) W s.heap.objs.size qq .none rs hn hz s (λi v hv=>?_) items.size 0 0 _ (by lia) (a3q _) ⟨⟨_,a2F _ Z,Z,Z⟩,⟨_,a2y _ aS,Z,c,Z⟩⟩ (λb o _ e=>a2y _ (k1 _ _ (a2y _ e))) ?_ λs' hm hS=>?_
 .obtain⟨k,x,hr,t,o,c',aL,e1,e2,e3,e4,e5⟩:=jn i v hv;show⟨k,x,hr,λh hk=>⟨t,o,c',aL,e1,hk t o (keep t o e2) e2,e3,e4,e5⟩⟩
 .obtain⟨o,es,ep,ho,aY⟩:=mh;show⟨o,es,ep,a2y _ (k1 _ _ ho),aY⟩
 .rw[Moved.eq_with hm];show⟨Z,hQ s'.heap s'.toks hS λb o e=>hm.heap b o (keep b o e) (a2y _ (k1 _ _ (a2y _ e)))⟩
end
end PySem
namespace Me
def look(f:List (Int×Int))(k:Int):Option Int:=(f.find? λq=>decide (q.1=k)).map (·.2)
def put(f:List (Int×Int))(k v:Int):List (Int×Int) := if (f.any λp=>decide (p.1=k))=true then f.map (λp=>if p.1=k then (p.1,v) else p) else f++[(k,v)]
def eG(f:List (Int×Int))(k n:Int):List (Int×Int):=put f k ((look f k).getD 0+n)
def cF(p:Int×Int)(w:Int)(n:Nat)(acc:List (Int×Int)):List (Int×Int):=(List.range n).foldl (λacc (d:Nat)=>eG acc (p.1+(d:Int)*w) p.2) acc
def fU(f:List (Int×Int))(b:Nat)(w:Int):List (Int×Int):=f.foldl (λacc p=>cF p w b acc) []
def aT(b:Nat)(ws:List Int):List (Int×Int):=ws.foldl (λf w=>fU f b w) [(0,1)]
abbrev keys(f:List (Int×Int)):List Int:=f.map (·.1)
def mE(p:Int×Int)(w:Int)(n:Nat)(acc:List (Int×Int)):cF p w (n+1) acc=eG (cF p w n acc) (p.1+(n:Int)*w) p.2:=by
 unfold cF;rw[a5C,a4u];rfl
def Ju{f:List (Int×Int)}(h:f[i]?=some p):fU (f.take (i+1)) b w=cF p w b (fU (f.take i) b w):=by
 unfold fU;rw[a2I,h,a4u];rfl
def Jv{ws:List Int}(h:ws[i]?=some w):aT b (ws.take (i+1))=fU (aT b (ws.take i)) b w:=by
 unfold aT;rw[a2I,h,a4u];rfl
def Jw(f:List (Int×Int))(k v:Int):keys (f.map λp=>if p.1=k then (p.1,v) else p)=keys f:=by
 rw[keys,a3v];apply a3C;intro p _;change(if p.1=k then (p.1,v) else p).1=p.1;split <;> rfl
def Jx:(keys f).Nodup->(keys (put f k v)).Nodup:=by
 intro nd;unfold put;split;.rw[Jw];show nd
 .rename_i h
  have hn:=λz=>h<|by
   obtain⟨p,hp,e⟩:=a2N.mp z;show a5s.mpr ⟨p,hp,by simpa using e⟩
  rw[keys,a3e];show List.nodup_append.mpr ⟨nd,by simp,λa ha b hb=>?_⟩;have:b=k:=by simpa using hb
  rw[this];show λz=>hn (z▸ha)
def Va(h:∀x∈keys f,lo<=x/\x<=hi)(hk:lo<=k/\k<=hi):∀x∈keys (put f k v),lo<=x/\x<=hi:=by
 unfold put;split;.rw[Jw];show h
 .intro x hx;rw[keys,a3e] at hx;rcases a3j.mp hx with hx | hx;.show h x hx
  .simp_all
structure Ok(f:List (Int×Int))(m:Int):Prop where
 nd:(keys f).Nodup
 bd:∀x∈keys f,-m<=x/\x<=m
theorem Ok.put(o:Ok f m)(h : -m<=k/\k<=m):Ok (put f k v) m:=⟨Jx o.nd,Va o.bd h⟩
def Ok.nil:Ok [] m:=⟨by simp[keys],λx h=>by simp[keys] at h⟩
def Ce{d b:Nat}(hx : -m<=x/\x<=m)(hw : -9<=w/\w<=9)(hb:b<=16)(hd:d<b) : -(m+135)<=x+(d:Int)*w/\x+(d:Int)*w<=m+135:=by
 have d0:(0:Int)<=d:=by lia
 have a1:=a4f hw.2 d0;have a2:=a4f hw.1 d0;lia
theorem Cf{f:List (Int×Int)}{m w:Int}{p:Int×Int}{b:Nat}(hp : -m<=p.1/\p.1<=m)(hw : -9<=w/\w<=9)(hb:b<=16)(o:Ok f (m+135)):∀n,n<=b->Ok (cF p w n f) (m+135)
 | 0,_=>o
 | n+1,h=>by
  rw[mE];show(Cf hp hw hb o n (by lia)).put<|Ce hp hw hb<|by lia
theorem xC{f:List (Int×Int)}{m w:Int}{b:Nat}(o:Ok f m)(hw : -9<=w/\w<=9)(hb:b<=16):∀i,Ok (fU (f.take i) b w) (m+135)
 | 0=>Ok.nil
 | i+1=>by
  cases h:f[i]? with
  | none =>
   rw[a2I,h];simpa using xC o hw hb i
  | some p =>
   rw[Ju h];show Cf (o.bd p.1<|a2N.mpr ⟨p,a2A h,Z⟩) hw hb (xC o hw hb i) b<|a2D _
def Vb(o:Ok f m)(hw : -9<=w/\w<=9)(hb:b<=16):Ok (fU f b w) (m+135):=by
 have:=xC o hw hb f.length;rwa [a2M] at this
theorem xD{b:Nat}{ws:List Int}(hw:∀w∈ws,-9<=w/\w<=9)(hb:b<=16):∀i:Nat,Ok (aT b (ws.take i)) (135*i)
 | 0 => ⟨by simp[aT, keys], λx h => by have : x = 0 := by simpa [aT] using h
                                       lia⟩
 | i+1=>by
  cases h:ws[i]? with
  | none =>
   rw[a2I,h];have o:=xD hw hb i;simp only[Option.toList_none,a3H];show⟨o.nd,λx hx=>by have:=o.bd x hx;lia⟩
  | some w =>
   rw[Jv h];have o:=Vb (xD hw hb i) (hw w<|a2A h) hb;have e:(135* (i+1:Nat) )=135*(i:Int)+135:=by lia
   show o
def xE(hw:∀w∈ws,-9<=w/\w<=9)(hb:b<=16):Ok (aT b ws) (135*ws.length):=by
 have:=xD hw hb ws.length;rwa [a2M] at this
theorem Jy{α:Type}[DecidableEq α]:∀ {l m:List α},l.Nodup->(∀x∈l,x∈m)->l.length<=m.length
 | [],_,_,_=>a3q _
 | x::l,m,nd,h=>by
  have hx:=h x (by simp);have hn:=(a3g.mp nd).1;have:=Jy (a3g.mp nd).2 λy hy=>(List.mem_erase_of_ne (show y≠x from λe=>hn (by show e▸?_;show hy))).mpr<|h y<|a2G _ hy;rw[List.length_erase_of_mem hx] at this;have hp:=a3T hx;simp only[a2P];lia
def Ok.len{m:Nat}(o:Ok f m):f.length<=2*m+1:=by
 have h:=Jy (m:=(List.range (2*m+1)).map λ(i:Nat)=>(i:Int)-m) o.nd λx hx=>by
  have:=o.bd x hx;show a2N.mpr ⟨(x+m).toNat,a5d.mpr<|by lia,by lia⟩
 simpa [keys] using h
theorem oB:∀ {g:List (Int×Int)} {p:Int×Int},(keys g).Nodup->p∈g->look g p.1=some p.2
 | [],_,_,h=>by simp at h
 | q::g,p,nd,h=>by
  have hn:q.1∉keys g:=(a3g.mp nd).1;have Vc:=(a3g.mp nd).2;rcases a2B.mp h with rfl | h;.simp[look,a3O]
  .have aZ:¬ q.1=p.1:=λe=>hn<|by rw[e];show a2N.mpr ⟨p,h,Z⟩
   have:=oB Vc h;simpa [look,aZ] using this
def Vd(nd:(keys f).Nodup){ns:List Int}(h:ns.Perm (keys f)):(ns.map λn=>(n,(look f n).getD 0)).Perm f:=by
 have h1:=h.map λn=>(n,(look f n).getD 0)
 have e:(keys f).map (λn=>(n,(look f n).getD 0))=f:=by
  rw[keys,a3v];conv=>rhs;rw[<-List.map_id f]
  apply a3C;intro p hp;change(p.1,(look f p.1).getD 0)=p;rw[oB nd hp];rfl
 rw[e] at h1;show h1
def Jz(h:k∉keys f):put f k v=f++[(k,v)]:=by
 unfold put;rw[if_neg];intro z;obtain⟨p,hp,e⟩:=a5s.mp z;show h<|a2N.mpr ⟨p,hp,by simpa using e⟩
def xF(f more:List (Int×Int)):List (Int×Int):=more.foldl (λacc p=>put acc p.1 p.2) f
theorem JA:∀(more f:List (Int×Int)),(keys (f++more)).Nodup->xF f more=f++more
 | [],f,_=>by simp[xF]
 | p::r,f,nd=>by
  have hp:p.1∉keys f:=by grind
  change xF (put f p.1 p.2) r=_;rw[Jz hp,JA r _ (by simpa using nd)];simp
end Me
namespace L2
open PySem PySem.Spec PyProof.Rows
theorem Paired.at{bs:List β}{i:Nat}{a:α}(h:Paired R as bs)(e:as[i]?=some a):∃b,bs[i]?=some b/\R a b:=by
 induction h generalizing i with
 | nil=>simp at e
 | cons r _ ih =>
  cases i with
  | zero=>simp_all
  | succ i =>
   simp_all
abbrev oC(H:Hp)(ts:List Addr)(kvs:List (ax×V)):Prop:=Paired (λ(t:Addr) (p:ax×V)=>H t=some (.tup [kV p.1,p.2])) ts kvs
theorem JB{P:Program}{w:World}{H:Hp}{h:Heap}(ok:bC P w H h):∀ {ts:List Addr} {kvs:List (ax×V)} {af:List Value},oC H ts kvs->az (ts.map V.ref) af-> ∃rs:List (ax×Value),KV kvs rs/\Paired (λ(u:Value) (r:ax×Value)=>∃t o c aL,u=.ref t/\h.get? t=some o/\o.cls=.type "tuple"/\o.data=.seq #[aL,r.2] c/\(v_ P w).is r.1 aL=true) af rs
 | [],_,_,.nil,r=>by cases r;show⟨[],.nil,.nil⟩
 | t::ts,p::kvs,af,.cons e hp,r=>by
  cases r with
  | cons r0 rr =>
   cases r0;obtain⟨rs,a,b⟩:=JB ok hp rr;obtain⟨_,mf,rv,tu⟩:=ok t _ e;obtain⟨u1,u2,rfl,r1,r2⟩:=rv.two
   obtain⟨o,c,ho,hc,hd⟩:∃o c,h.get? t=some o/\o.cls=.type "tuple"/\o.data=.seq #[u1,u2] c:=by
    obtain⟨o,ho,hc,c,hd⟩:=tu;show⟨o,c,ho,hc,hd⟩
   show⟨(p.1,u2)::rs,.cons ⟨Z,r2⟩ a,.cons ⟨t,o,c,u1,Z,ho,hc,hd,jo r1⟩ b⟩
def Ve(hc:X.calm=true):dw X (.type "dict") (λxs H Q=>∃l ts kvs,xs=[.ref l]/\H l=some (.lst (ts.map V.ref))/\oC H ts kvs/\ ∀p,H p=none->Q (.ref p) (ad H p (.dK (gI [] kvs)))):=by
 intro aa s σ H xs us Q I r h;obtain⟨l,ts,kvs,rfl,e,hp,q⟩:=h;obtain⟨u,rfl,ru⟩:=vals1 r;cases ru;obtain⟨z,af,n,rv,e1⟩:=I.am l _ e;obtain⟨rs,hk,hr⟩:=JB I.am hp rv;have bE:=hr.length.symm;have hz:af.length<=sizeLine:=by rw[<-rv.length];show z
 show U7 (knd:=v_ _ X.w) (I.ok.hd hc) e1 (by show hz) rs (by show bE) (λi v hv=>?_) λh' tk dd k=>?_
 .obtain⟨b,hb,t,o,c,aL,x1,x2,x3,x4,x5⟩:=Paired.at hr (by simpa using hv);show⟨b.1,b.2,hb,t,o,c,aL,x1,x2,x3,x4,x5⟩
 .have hm:=BT kvs [];have hkl:=hk.length;show⟨.ref _,_,I.laid k (a2D _)<|tj ?_ (beq_eq_false_iff_ne.mpr<|Ne.symm<|a2V I.big) (KV.merge hk .nil) dd,Z,q _<|I.am.fresh<|a2D _⟩;simp only[a6a] at hm;lia
def aH(f:List (Int×Int)):List (ax×V):=f.map λp=>(Sum.inl p.1,V.int p.2)
def Vf(f:List (Int×Int))(k:Int):b8 (aH f) (Sum.inl k)=(Me.look f k).map V.int:=by
 induction f with
 | nil=>rfl
 | cons p r ih =>
  by_cases e:p.1=k
  .have h1:b8 (aH (p::r)) _=some _:=xg (by change Sum.inl p.1=Sum.inl k;rw[e]);rw[h1];simp[Me.look,a3O,e]
  .have h1:b8 (aH (p::r)) _=b8 (aH r) _:=xh (by show λz=>e<|Sum.inl.inj z);rw[h1,ih];simp[Me.look,a3O,e]
def JC(f:List (Int×Int))(k v:Int):dZ (aH f) (Sum.inl k) (V.int v)=aH (Me.put f k v):=by
 have e:((aH f).any λkv=>decide (kv.1=Sum.inl k))=f.any λp=>decide (p.1=k):=by
  rw[aH,List.any_map];congr 1;funext p;by_cases z:p.1=k;.simp[z]
  .simp_all
 unfold dZ Me.put;rw[e];split
 .rw[aH,a3v,aH,a3v];apply a3C;intro p _;change(if (Sum.inl p.1)=Sum.inl k then (Sum.inl p.1,V.int v) else (Sum.inl p.1,V.int p.2))=(Sum.inl (if p.1=k then (p.1,v) else p).1,V.int (if p.1=k then (p.1,v) else p).2);by_cases z:p.1=k;.rw[if_pos (by rw[z]),if_pos z]
  .simp_all
 .simp[aH]
theorem JD:∀(more f:List (Int×Int)),gI (aH f) (aH more)=aH (Me.xF f more)
 | [],f=>rfl
 | p::r,f=>by
  change gI (dZ _ (Sum.inl p.1)<|V.int p.2) (aH r)=_;rw[JC,JD r];rfl
def Cg(hc:X.calm=true):dw X (.builtin "sum") (λxs H Q=>∃(p:Addr) (ns:List Int),xs=[.ref p]/\ag X.K H p (ns.map V.int)/\Q (.int ns.sum) H):=by
 intro aa s σ H xs us Q I r h;obtain⟨p,ns,rfl,hq,q⟩:=h;obtain⟨u,rfl,rx⟩:=vals1 r;cases rx;obtain⟨af,rv,pl,hz⟩:=I.list hq;have hl:=pl.isList;have aJ:p<s.heap.objs.size:=by obtain⟨_,e,_⟩:=hl;show a2C e
 have hn:af.toArray.size=ns.length:=by rw[a2S,<-rv.length,a2x]
 show call_sum_walkG (wpAny_pyIter_list hl (⟨_,_,_,_,_,_,λi=>(ns[i]?).getD 0,Z,Walks.list (A:=X.A.in1) (I.ok.hd hc) s.heap.objs.size p (a2V aJ) af.toArray,⟨⟨_,a2F _ Z,Z,Z⟩,hl.push _⟩,λb bO=>?_,λi v hP=>?_,λh' tk t' hk=>?_⟩))
 .rw[a3h];rcases a2B.mp bO with rfl | bO;.show a3K _
  .have e:b=p:=by simpa using bO
   rw[e];show a3S aJ
 .have hv:af[i]?=some v:=by simpa using hP
  cases eb:ns[i]? with
  | none =>
   simp_all
  | some b =>
   obtain⟨u,hu,ru⟩:=rv.get (by rw[a2E,eb];rfl);rw[hu] at hv;cases hv;obtain⟨t,rfl⟩:=ru;show⟨t,by simp[eb]⟩
 .rw[hn,sF ns ns.length (a2D _),a2M];show⟨.int _,H,(show Inv X aa σ H {s with heap:=h',toks:=tk} from seen I hk),⟨_,Z⟩,q⟩
inductive JE(Q:VK)(x:V)(H1:Hp):Prop
 | mk:∀a kvs,∀ns:List Int,(x=.ref a)->(H1 a=some (.dK kvs))->(kvs.map (·.2)=ns.map V.int)->(Q (.int ns.sum) H1)->JE Q x H1
def Vg(td:TE):TE:=fun σ H Q=>td σ H (JE Q)
def Vh{p1 q1 bo cK:Pos}(hc:X.calm=true)(mj:X.mg "sum"=none)(A3:Gl X "sum")(ho:PE X o td)(su:attributeBase o "values" X.env (eval o X.env)=eval o X.env:=by rfl)(hline:(bo.endLine==cK.line)=true:=by rfl) : PE X (.Call (.Name "sum" p1) [.Call (.Attribute o "values" bo) [] [] cK] [] q1) (Vg td):=by
 show λaa s σ H Q I h=>wpAny_Call_Name_kw (jd I A3 mj boot_sum ?_);show PyProof.Rows.callWith_builtin1 ?_ Z Z;change wpAny _ _ (spliced ((false,eval (.Call (.Attribute o "values" bo) [] [] cK) X.env)::backTo q1 (starEach [] X.env))) _ _ s;show Calls.spliced_cons (wpAny_Call_method0_late su hline (ar (ho aa s σ H _ I h) λv s1 ⟨x,H1,I1,r1,a,kvs,ns,ex,he,kU,q⟩=>?_));subst ex;obtain rfl:v=Value.ref a:=r1;obtain⟨t1,t2,_⟩:=BW I1 (.inl ⟨kvs,.inl he⟩);obtain⟨z,hd,vs,aX,dd⟩:=mw I1.am he;show⟨"dict","dict.values",PySem.F.plainAttrs_dict,PySem.F.slot_dict_values,PySem.F.type_dict_values,t1,t2,Calls.callWith_builtin Z (PySem.evalArgs_none ?_)⟩;show call_meetsIn PySem.F.slot_dict_values dd.typeIs PySem.F.entry_dict_values (PySem.F.args_dict_values_1 _) (meets_dict_values (v_ X.prog X.w) a hd) ⟨⟨_,dd⟩,(Calls.spliced_nil ?_)⟩;obtain⟨ob,es,ep,xG,aY⟩:=dd;have Vi:=a2y {cls:=.type "dict_values",data:=.fields #[.ref a]} xG;have hl:=aX.length;have Vj:kvs.length=ns.length:=by simpa using congrArg List.length kU
 have KS:=PySem.W.kdl_values (prog:=X.prog) (w:=X.w) (r:=s1.heap.objs.size) (d:=a) (ep:=ep) (kvs:=vs) (knd:=v_ X.prog X.w);have am:(s1.heap.push {cls:=.type "dict_values",data:=.fields #[.ref a]}).IsValuesView s1.heap.objs.size a/\(s1.heap.push {cls:=.type "dict_values",data:=.fields #[.ref a]}).DictAt (v_ X.prog X.w) a vs ep:=⟨⟨_,a2F _ Z,Z,Z⟩,⟨ob,es,Vi,aY⟩⟩;show call_sum_walkG ?_;obtain⟨oI,St,bS,W,st⟩:=KS.iter X.A.in1 {s1 with heap:=s1.heap.push {cls:=.type "dict_values",data:=.fields #[.ref a]}} (I1.ok.hd hc) am;show bS _ _ ⟨_,_,_,_,_,_,λi=>(ns[i]?).getD 0,Z,W,st,λb hb=>?_,λi v hv=>?_,λh' tk t' hk=>?_⟩
 .change b<(Heap.push _ oI).objs.size;rw[a3h];rcases a2B.mp hb with e | hb;.rw[e];show a3K _
  .rw[a2Z.mp hb];show a3S (KS.there _ am).2
 .obtain⟨k',e1⟩:=hv;have hi:i<kvs.length:=by rw[hl];show(a2z.mp e1).1
  obtain⟨u',JF,ru⟩:=KV.at aX (i:=i) (p:=kvs[i]) (by simp[hi]);rw[e1] at JF;have eu:v=u':=congrArg Prod.snd (a2J JF);have e2:(kvs.map (·.2))[i]?=(ns.map V.int)[i]?:=by rw[kU]
  have e3:(kvs.map (·.2))[i]?=some (kvs[i]).2:=by simp[hi]
  have e4:(ns.map V.int)[i]?=some (V.int ns[i]):=by simp[show i<ns.length by omega]
  rw[e3,e4] at e2;have e5:=a2J e2;rw[e5] at ru;obtain⟨t,rfl⟩:=ru;show⟨t,?_⟩;rw[eu];have e6:ns[i]?=some ns[i]:=a2T (show i<ns.length by omega);change Value.int ns[i] t=Value.int ((ns[i]?).getD 0) t;rw[e6];rfl
 .rw[<-hl,Vj,sF ns ns.length (a2D _),a2M]
  have lq:∀b o,s1.heap.get? b=some o->h'.get? b=some o:=λb o e=>hk b o (λhI=>absurd (a2C e) (by
   rw[a2Z.mp hI];change ¬ (s1.heap.push _).objs.size<_;rw[a3h];omega)) (a2y _ (a2y _ e));show⟨.int _,H1,I1.kept (t':=tk) (h':=h') lq,⟨_,Z⟩,q⟩
end L2
namespace Hv
open PySem L2
def Vk(K:PySem.W.Frag)(hK:X.K=K)(hc:X.calm=true):dw X (.builtin "sum") (λxs H Q=>∃(p:Addr) (ns:List Int),xs=[.ref p]/\ag K H p (ns.map V.int)/\Q (.int ns.sum) H):=by
 subst hK;show Cg hc
def xI:aI ["frame","n","figures","weighted"] ["frame","n"] (f_ oh):=⟨Z,Z,Z,by decide,Z,by decide,by decide⟩
def JG(F:ay K "part_sums" "part_sums" oh f fd)(T:Txt mg)(D8:ai P w K mg base 8 "figures_of" ["frame","n"] og)(DC:ai P w K mg base 1 "cut_by_parts" ["frame","row"] oq):av P w K mg base aE 9 f fd ["frame","n"] ou:=by
 show F.ok xI λak A outer s H vs Q E hr h=>?_
 .obtain⟨g,a,c,b,ps,ws,n,rfl,G,hn,k⟩:=h;have nd:=xI.nd;have ok:=G.ok;have tK:=ok.sum;have b2:=ok.b2;have cz:=ok.cz;have l4:=ok.l4;have fh:List.Nodup (["figure","weight"]:List Str):=by decide
  have a2j:=Ma.SY (n:=n) (L:=ps.sum) (by lia:0<b) cz ok.wr;show⟨_,b_ (j_ 2 (m_ D8 hr (by rfl) (a_ (pv 0) (a_ (pv 1) d_)))) (b_ (HV (i:=3) (fr:=[]) nd Z (Or.inl Z) (qk (sc:=f_ oh) (NX:=["frame","n","figures","weighted"]) (k:=2) (fr:=[]) Z Z (by decide)) (ql (sc:=f_ oh) (NX:=["frame","n","figures","weighted"]) Z (by decide)) Z (Ib (by rfl) T.zip (pv 2) (ce (pv 0) h_)) (λcl C s H fp=>sL K Z Z (W_ (u_ 0 (hN:=fh)) (W_ (u_ 1 (hN:=fh)) p7))) Ba (λcl C s H fp=>O_) (λcl C s H fp=>o_ jh (pv 0) (pv 1)) (by rfl)) (g_ (k_ (P_ (f_ oh) ["frame","n","figures","weighted"] [] [] Z (B_ (m_ DC hr.mo (by rfl) (a_ (pv 0) (a_ (pv 3) d_)))) (λcl C s H fp=>O_) (λcl C s H fp=>p_ (Vk K Z Z) (by rfl) T.sum boot_sum (a_ (pv 0) d_)) (by decide))))),⟨_,Z,_,Z,g,a,c,b,ps,ws,n,Z,G,hn,λr H1 Ch s1 h1=>?_⟩⟩;have G1:=G.keep s1;show⟨_,Z,_,Z,_,_,_,_,Z,Z,aP.of G1.tp,Z,r,c,Z,Z,⟨_,ag.of h1⟩,⟨_,ag.of G1.hw⟩,SR (K:=K) (a:=r) (b:=c) (xs:=aA (Ma.aB b n ps.sum ps.sum)) (ys:=ws.map V.int) (λi zs H'=>zs=((Ma.b6 b n ps.sum ws).take i).map V.int/\ae H1 H') (by simp[aA,Ma.R_,ok.wl]) ⟨by simp,ae.refl _⟩ (λi zs H' _ p=>⟨ag.of (p.2 _ _ h1),ag.of (p.2 _ _ G1.hw)⟩) (λi zs H' hi p=>bT (by rw[p.1,a2x,a3a];simp[aA,Ma.R_] at hi;lia)) ?_ ?_⟩
  .rintro i x y zs H' t hx hy ⟨rfl,s2⟩ ht
   obtain⟨d,hd,rfl⟩:∃d:Nat,(Ma.aB b n ps.sum ps.sum)[i]?=some d/\x=.int d:=by
    rw[aA,a2E] at hx
    cases e:(Ma.aB b n ps.sum ps.sum)[i]? with
    | none=>rw[e] at hx;cases hx
    | some d=>rw[e] at hx;show⟨d,Z,(a2J hx).symm⟩
   obtain⟨x,hw,rfl⟩:∃x:Int,ws[i]?=some x/\y=.int x:=by
    rw[a2E] at hy
    cases e:ws[i]? with
    | none=>rw[e] at hy;cases hy
    | some d=>rw[e] at hy;show⟨d,Z,(a2J hy).symm⟩
   have Vl:=ok.wr x (a2A hw);show⟨t,_,Z,aP.of c_,Z,_,_,Z,_,_,Z,Z,_,Z,_,Z,_,_,Z,Z,.inr ⟨by lia,by lia⟩,?_,D_ s2 (s2.free ht)⟩;rw[a2I,Ma.SX hd hw];simp
  rintro zs H' ⟨rfl,s2⟩ wl iG;have e1:(aA (Ma.aB b n ps.sum ps.sum)).length=(Ma.b6 b n ps.sum ws).length:=by rw[Ma.A8 _ _ _ _ ok.wl];simp[aA,Ma.R_]
  show e1▸a2M▸?_;have s3:ae H1 (ad H' wl (.lst ((Ma.b6 b n ps.sum ws).map V.int))):=D_ s2 (s2.free iG);have G3:=G1.keep s3;show⟨_,Z,_,Z,g,a,c,b,ps,ws,wl,Ma.b6 b n ps.sum ws,Z,G3,c_,λpl qs H4 s4 cy rows=>⟨pl,Z,⟨_,ag.of cy⟩,z_ (K:=K) (a:=pl) (xs:=qs.map V.ref) (λi ys H5=>ys=((Ma.gH ps (Ma.b6 b n ps.sum ws)).take i).map V.int/\H4=H5) ⟨by simp,Z⟩ (λi ys H5 _ p=>by show p.2▸?_;show ag.of cy) ?_ ?_⟩⟩
  .rintro i x ys H5 hx ⟨rfl,rfl⟩
   obtain⟨q,hq,rfl⟩:∃q,qs[i]?=some q/\x=.ref q:=by
    rw[a2E] at hx
    cases e:qs[i]? with
    | none=>rw[e] at hx;cases hx
    | some d=>rw[e] at hx;show⟨d,Z,(a2J hx).symm⟩
   obtain⟨row,bJ,Vm⟩:=tL rows hq;have hm:=a2A bJ;have bE:=Paired.length rows;have jr:=(a2z.mp hq).1;rw[Ma.X_] at bE;show⟨bT (by rw[a2x,a3a];lia),_,Z,q,row,Z,ag.of Vm,?_,Z⟩
   .have e:(Ma.gH ps (Ma.b6 b n ps.sum ws))[i]?=some row.sum:=by unfold Ma.gH;rw[a2E,bJ];rfl
    rw[a2I,e];simp
  .rintro ys H5 ⟨rfl,rfl⟩ r2 gK;have bE:=Paired.length rows;have e:(qs.map V.ref).length=(Ma.gH ps (Ma.b6 b n ps.sum ws)).length:=by rw[Ma.A7,a2x,bE,Ma.X_]
   rw[e,a2M];have S:=(s1.trans s3).trans s4;show k r2 _ (S.free gK) (D_ S (S.free gK)) c_
def qK(zs:List Int):Int:=Ma.bA zs-Ma.aQ zs
abbrev oE(b n:Nat)(ps:List Nat)(ws:List Int):List Int:=Ma.gH ps (Ma.b6 b n ps.sum ws)
def Ci(ok:dY b ps ws):0<(oE b n ps ws).length:=by
 have:=ok.l2;rw[Ma.A7];omega
inductive xJ(vs:List V)(H:Hp)(Q:VK)(aq:XK):Prop
 | mk:∀f a c b ps ws,∀n:Nat,(vs=[.ref f,.int n])->(aV H f a c b ps ws)->(n<b ^ ps.sum)->(∀H',ae H H'->Q (.int (qK (oE b n ps ws))) H')->xJ vs H Q aq
def xK:aI ["frame","n","totals"] ["frame","n"] (f_ wJ):=⟨Z,Z,Z,by decide,Z,by decide,by decide⟩
def Vn(F:ay K "misses_by" "misses_by" wJ f fd)(T:Txt mg)(DP:ai P w K mg base 9 "part_sums" ["frame","n"] ou):av P w K mg base aE 10 f fd ["frame","n"] xJ:=by
 show F.ok xK λak A outer s H vs Q E hr h=>?_
 .obtain⟨g,a,c,b,ps,ws,n,rfl,G,hn,k⟩:=h;show⟨_,b_ (j_ 2 (hN:=xK.nd)<|m_ DP hr (by rfl)<|a_ (pv 0)<|a_ (pv 1) d_) <|g_<|k_<|o_ gA (p_ (BN Z) (by rfl) T.max boot_max<|a_ (pv 2) d_)<|p_ (xa Z) (by rfl) T.min boot_min<|a_ (pv 2) d_,⟨_,Z,_,Z,g,a,c,b,ps,ws,n,Z,G,hn,λr H1 _ s1 h1=>?_⟩⟩;show⟨_,Z,r,_,Z,ag.of h1,Ci G.ok,_,Z,r,_,Z,ag.of h1,Ci G.ok,_,_,Z,Z,k H1 s1⟩
def Vo{k:Nat}:fO xs none (some (k:Int))=xs.take k:=by
 unfold fO;rw[HT.Hf,HT.vY,a4o,a4F];rcases a5Y k _ with h | h;.rw[a4h h]
 .rw[a5W h,a3f (a2D _),a3f h]
def JH(H:Hp)(s:Addr):Prop:=∃g c k:Int,H s=some (.lst [.int g,.int c,.int k])
inductive oG(K:PySem.W.Frag)(vs:List V)(H:Hp)(Q:VK)(aq:XK):Prop
 | mk:∀(a:Addr) (ns:List Int) (k:Nat),(vs=[.ref a,.int k])->(ag K H a (ns.map V.int))->(k<=1000)->(∀c:Int,Q (.int c) H)->oG K vs H Q aq
def Vp:aI ["script","k"] ["script","k"] (f_ BI):=⟨Z,Z,Z,by decide,Z,by decide,by decide⟩
def Vq(F:ay K "_law_cell" "_law_cell" BI f fd)(T:Txt mg):av P w K mg base aE 1 f fd ["script","k"] (oG K):=by
 show F.ok Vp λak A outer s H vs Q E hr h=>?_
 .obtain⟨a,ns,j,rfl,hS,hj,k⟩:=h;show⟨_,b_ (C_ (r_ r6 (pv 1) (eV T.len (by rfl)<|pv 0)<|bx _) (g_<|k_<|bH (pv 0)<|pv 1) q_) <|g_<|k_<|o_ Q_ (o_ Q_ (o_ jh (o_ jh h_<|pv 1)<|pv 1)<|o_ jh h_<|pv 1) h_,⟨_,Z,_,Z,a,_,Z,.inl hS,_,_,Z,Z,_,Z,kX (λh=>?_) (λ_=>?_)⟩⟩
  .have h':j<ns.length:=by
    have:=of_decide_eq_true h;rw[a2x] at this;lia
   show⟨_,Z,_,Z,a,_,_,_,Z,Z,hS,J_ (v:=V.int ns[j])<|by simp[h'],k _⟩
  .show⟨_,Z,_,_,Z,Z,.inl ⟨by decide,by decide⟩,_,Z,_,_,Z,Z,.inr ⟨by lia,by lia⟩,_,Z,_,_,Z,Z,.inl ⟨by decide,by decide⟩,_,_,Z,Z,_,_,Z,Z,k _⟩
theorem boot_dict:bootBuiltins "dict"=some (.type "dict"):=PyProof.Rows.boot_dict
theorem boot_sorted:bootBuiltins "sorted"=some (.builtin "sorted"):=PyProof.Rows.boot_sorted
def Cj{i:Nat}(h:(aH f)[i]?=some (k,v)):∃p:Int×Int,f[i]?=some p/\k=Sum.inl p.1/\v=.int p.2:=by
 rw[aH,a2E] at h
 cases e:f[i]? with
 | none=>rw[e] at h;cases h
 | some p =>
  simp_all
def oH(h:Rd H a (.dK (aH f))):iI H a (.int k) ((Me.look f k).map V.int):=.inl ⟨aH f,Sum.inl k,h,Z,(Vf f k).symm⟩
def xL(o:Option Int):(o.map V.int).getD (.int 0)=.int (o.getD 0):=by simp
def Ck(h:H a=some (.dK (aH f)))(hl:f.length<=100000):qB H a (.int k) (.int v) (ad H a (.dK (aH (Me.put f k v)))):=by
 rw[<-JC];show qB.k (k:=Sum.inl k) h<|bT<|by rw[aH,a2x];lia
inductive xM(vs:List V)(H:Hp)(Q:VK)(aq:XK):Prop
 | mk:∀(a:Addr) (f:List (Int×Int)) (b:Nat) (w:Int) (m:Nat),(vs=[.ref a,.int b,.int w])->(H a=some (.dK (aH f)))->(Me.Ok f m)->(m<=1000)->(b<=16)->((-9<=w/\w<=9))->(∀p H',H p=none->ae H H'->H' p=some (.dK (aH (Me.fU f b w)))->Q (.ref p) H')->xM vs H Q aq
def JI:aI ["ways","base","weight","longer","total","figure","reached"] ["ways","base","weight"] (f_ Bj):=⟨Z,Z,Z,by decide,Z,by decide,by decide⟩
def Vr(F:ay K "with_one_more_figure" "with_one_more_figure" Bj f fd)(T:Txt mg):av P w K mg base aE 1 f fd ["ways","base","weight"] xM:=by
 show F.ok JI λak A outer s H vs Q E hr h=>?_
 .obtain⟨a,f,b,wt,m,rfl,ha,ok,hm,hb,hw,k⟩:=h;have nd:=JI.nd;have hu:=nX hr;show⟨_,b_ (j_ 3 tD) (b_ (Z_ PassesOwn.never Z (tO (pv 0)) (u_ 4) (g_ (Z_ PassesOwn.never Z (kH (by rfl) T.range (a_ (pv 1) d_)) (u_ 5) (b_ (j_ 6 (o_ Q_ (pv 4) (o_ jh (pv 5) (pv 2)))) (g_ (tq hu (pv 3) (pv 6) (o_ Q_ (xk hu (pv 3) (pv 6) h_ ⟨Z,Z,Z,Z⟩) (qC hu (pv 0) (pv 4) (λ_ _=>rfl))) Z)))))) (tM (g_ (k_ (pv 3))))),?_⟩;intro l hl;have xN:a≠l:=l_ ha hl;show⟨_,Z,a,aH f,Z,(by rw[i_ xN];show ha),λo=>tP (λi σ H2=>∃v4 v5 v6,σ=[some (.ref a),some (.int b),some (.int wt),some (.ref l),v4,v5,v6]/\H2 a=some (.bV o (.dK (aH f)))/\Kp [a] H H2/\H2 l=some (.dK (aH (Me.fU (f.take i) b wt)))) ⟨none,none,none,Z,c_,sQ (sQ Kp.refl (.inr hl)) (.inl (by simp)),?_⟩ (λi σ H2 _ h=>by obtain⟨_,_,_,_,z,_⟩:=h;show z) ?_ ?_⟩;.rw[i_ xN.symm,c_];rfl
  .rintro i kk v σ H2 hk ⟨v4,v5,v6,rfl,fa,kp,aS⟩;obtain⟨p,hp,rfl,rfl⟩:=Cj hk;have pm:=a2A hp;have pb:=ok.bd p.1 (a2N.mpr ⟨p,pm,Z⟩);have o0:=Me.xC ok hw hb i;show⟨_,Z,_,Z,by lia,by lia,nO (λd σ H3=>∃v5 v6,σ=[some (.ref a),some (.int b),some (.int wt),some (.ref l),some (.int p.1),v5,v6]/\H3 a=some (.bV o (.dK (aH f)))/\Kp [a] H H3/\H3 l=some (.dK (aH (Me.cF p wt d (Me.fU (f.take i) b wt))))) ⟨v5,v6,Z,fa,kp,aS⟩ ?_ ?_⟩
   .rintro d σ H3 hd ⟨v5,v6,rfl,xO,Cl,dR⟩;have f7:d<b:=by lia
    have od:=Me.Cf pb hw hb o0 d (by lia);have bE:=Me.Ok.len (by push_cast;show od);show⟨_,Z,_,Z,_,Z,_,_,Z,Z,.inr ⟨by lia,by lia⟩,_,_,Z,Z,(⟨_,Z,l,Z,.inl ⟨_,.inl dR⟩,_,Z,_,oH (.inl dR),_,Z,_,Z,a,.int p.2,Z,?_,_,_,xL _,Z,_,Z,_,Z,l,_,Z,Ck dR (by lia),?_⟩)⟩
    .have z:=oH (k:=p.1) (.inr ⟨o,xO⟩);rw[Me.oB ok.nd pm] at z;show z
    .show⟨_,_,Z,?_,sQ Cl (.inr hl),?_⟩;.rw[i_ xN];show xO
     .rw[c_,Me.mE];have e0:(0:Int)+(d:Int)=(d:Int):=a4v _;rw[e0];rfl
   .rintro σ H3 ⟨v5,v6,rfl,xO,Cl,dR⟩;show⟨_,_,_,Z,xO,Cl,?_⟩;have eb:(b:Int).toNat=b:=by lia
    rw[eb] at dR;rw[Me.Ju hp];show dR
  .rintro σ H2 ⟨v4,v5,v6,rfl,fa,kp,aS⟩;have el:(aH f).length=f.length:=by rw[aH,a2x]
   rw[el,a2M] at aS
   show⟨a,o,aH f,fa,(λo' u z=>by
    have z':H a=some (.bV o' u):=z;rw[ha] at z';cases z'),_,Z,k l _ hl (λx ob e=>?_) (by rw[i_ xN.symm];show aS)⟩;by_cases hx:x=a;.rw[hx,c_,<-ha,<-hx];show e
   .rw[i_ hx];show kp x ob e (by simpa using hx)
def JJ(s:ae H H')(h:oC H ts kvs):oC H' ts kvs:=Paired.jK h λ_ _ e=>s _ _ e
def Vs(h:H t=some (.tup [kV p.1,p.2]))(q:oC H ts kvs):oC H (ts++[t]) (kvs++[p]):=by
 induction q with
 | nil=>show .cons h .nil
 | cons h0 _ ih=>show .cons h0 ih
inductive ub(vs:List V)(H:Hp)(Q:VK)(aq:XK):Prop
 | mk:∀(b:Nat) (r:Addr) (ws:List Int),(vs=[.int b,.ref r])->(H r=some (.lst (ws.map V.int)))->(b<=16)->((∀x∈ws,-9<=x/\x<=9))->(ws.length<=6)->(∀p H' g,H p=none->ae H H'->H' p=some (.dK (aH g))->g.Perm (Me.aT b ws)->Q (.ref p) H')->ub vs H Q aq
def JK{ws:List Int}(hw:∀x∈ws,-9<=x/\x<=9)(hb:b<=16):Me.Ok (Me.aT b (ws.take i)) ((135*i:Nat):Int):=by
 have h:=Me.xD hw hb i;show h
def JL:aI ["base","weights","ways","weight"] ["base","weights"] (f_ wK):=⟨Z,Z,Z,by decide,Z,by decide,by decide⟩
def Vt(F:ay K "ways_of_weights" "ways_of_weights" wK f fd)(T:Txt mg)(oJ:mg "dict"=none)(mF:mg "sorted"=none)(DO:ai P w K mg base 1 "with_one_more_figure" ["ways","base","weight"] xM) : av P w K mg base aE 2 f fd ["base","weights"] ub:=by
 show F.ok JL λak A outer s H vs Q E hr h=>?_
 .obtain⟨b,r,ws,rfl,bJ,hb,hw,bE,k⟩:=h;have nd:=JL.nd;have hu:=nX hr;show⟨_,b_ (j_ 2 (IB (xj h_ h_ Iy) Z Z (by simp) (by decide))) (b_ (Z_ PassesOwn.never Z (B_ (pv 1)) (u_ 3) (g_ (j_ 2 (m_ DO hr (by rfl) (a_ (pv 2) (a_ (pv 0) (a_ (pv 3) d_))))))) (g_ (k_ (G_ (Ve Z) (by rfl) oJ boot_dict (a_ (P_ (f_ wK) ["base","weights","ways","weight"] ["ways"] [2] Z (B_ (p_ (UT Z) (by rfl) mF boot_sorted (a_ (pv 2) d_))) (λcl C s H fp=>O_) (λcl C s H fp=>gX (a_ (pv 0) (a_ (qC hu (pv 1) (pv 0) (λ_ _=>rfl)) d_))) (by decide)) d_))))),?_⟩;intro p0 mG;show⟨c_,[(Sum.inl 0,.int 1)],Z,by decide,?_⟩;have s0:ae H (ad (ad H p0 (.dK [])) p0 (.dK (gI [] [(Sum.inl 0,V.int 1)]))):=D_ (e_ mG) mG;have u0:(ad (ad H p0 (.dK [])) p0 (.dK (gI [] [(Sum.inl 0,V.int 1)]))) p0=some (.dK (aH [(0,1)])):=c_;generalize ad (ad H p0 (.dK [])) p0 (.dK (gI [] [(Sum.inl 0,V.int 1)]))=H0 at s0 u0⊢;show⟨_,Z,r,Z,⟨_,ag.of (s0 _ _ bJ)⟩,kI (K:=K) (a:=r) (xs:=ws.map V.int) (λi σ H2=>∃p v3,σ=[some (.int b),some (.ref r),some (.ref p),v3]/\ae H H2/\H p=none/\H2 p=some (.dK (aH (Me.aT b (ws.take i))))) ⟨p0,none,Z,s0,mG,u0⟩ (λi σ H2 _ h=>by obtain⟨_,_,_,s2,_⟩:=h;show ag.of (s2 _ _ bJ)) ?_ ?_⟩
  .rintro i x σ H2 hx ⟨p,v3,rfl,s2,np,hp⟩;have jr:i<ws.length:=by have:=(a2z.mp hx).1;simpa using this
   obtain⟨y,hy,rfl⟩:∃y:Int,ws[i]?=some y/\x=.int y:=by
    rw[a2E] at hx
    cases e:ws[i]? with
    | none=>rw[e] at hx;cases hx
    | some d=>rw[e] at hx;show⟨d,Z,(a2J hx).symm⟩
   show⟨_,Z,_,Z,_,Z,p,_,b,y,135*i,Z,hp,JK hw hb,by lia,hb,hw y (a2A hy),λp' H3 Vu s3 j8=>⟨p',_,Z,s2.trans s3,s2.free Vu,?_⟩⟩;rw[Me.Jv hy];show j8
  rintro σ H2 ⟨p,v3,rfl,s2,np,hp⟩
  have oW:Me.Ok (Me.aT b ws) ((135*ws.length:Nat):Int):=by
   have:=JK (i:=ws.length) hw hb;rwa [a2M] at this
  rw[a2x,a2M] at hp;have Vv:=oW.len;generalize Me.aT b ws=W at hp oW Vv k;show⟨_,Z,p,aH W,Me.keys W,Z,.inl hp,by simp[aH,Me.keys],λl bq hl Cm=>?_⟩;have s3:=e_ (o:=.lst (bq.map V.int)) hl;have u3:(ad H2 l (.lst (bq.map V.int))) l=some (.lst (bq.map V.int)):=c_;generalize ad H2 l (.lst (bq.map V.int))=H3 at s3 u3⊢;have j8:=s3 _ _ hp;have hnl:bq.length=W.length:=by rw[Cm.length_eq];simp[Me.keys]
  show⟨l,Z,⟨_,ag.of u3⟩,z_ (K:=K) (a:=l) (xs:=bq.map V.int) (λi ys H'=>∃ts,ys=ts.map V.ref/\ts.length=i/\ae H3 H'/\oC H' ts (aH ((bq.take i).map λn=>(n,(Me.look W n).getD 0)))) ⟨[],Z,Z,ae.refl _,.nil⟩ (λi ys H' _ h=>by obtain⟨_,_,_,s',_⟩:=h;show ag.of (s' _ _ u3)) ?_ ?_⟩
  .rintro i x ys H' hx ⟨ts,rfl,cw,s',pa⟩;have jr:i<bq.length:=by have:=(a2z.mp hx).1;simpa using this
   obtain⟨n,hn,rfl⟩:∃n:Int,bq[i]?=some n/\x=.int n:=by
    rw[a2E] at hx
    cases e:bq[i]? with
    | none=>rw[e] at hx;cases hx
    | some d=>rw[e] at hx;show⟨d,Z,(a2J hx).symm⟩
   obtain⟨q,hq,eq⟩:=a2N.mp (Cm.mem_iff.mp (a2A hn));have JM:Me.look W n=some q.2:=by rw[<-eq];show Me.oB oW.nd hq
   show⟨bT (by rw[a2x];lia),_,Z,_,Z,_,Z,p,.int q.2,Z,?_,sz (by simp),λt ht=>⟨ts++[t],by simp,by simp[cw],s'.trans (e_ ht),?_⟩⟩
   .have z:=oH (k:=n) (.inl (s' _ _ j8));rw[JM] at z;show z
   .rw[a2I,hn];have e2:aH ((bq.take i++(some n).toList).map λn=>(n,(Me.look W n).getD 0))=aH ((bq.take i).map λn=>(n,(Me.look W n).getD 0))++[(Sum.inl n,V.int q.2)]:=by simp[aH,JM]
    rw[e2];show Vs (p:=(Sum.inl n,V.int q.2)) c_ (JJ (e_ ht) pa)
  rintro ys H' ⟨ts,rfl,cw,s',pa⟩ l2 aS;rw[a2x,a2M] at pa;have hg:=Me.Vd oW.nd Cm;have Vw:(Me.keys (bq.map λn=>(n,(Me.look W n).getD 0))).Nodup:=(hg.map Prod.fst).nodup_iff.mpr oW.nd;show⟨l2,ts,_,Z,c_,JJ (e_ aS) pa,λq hq=>?_⟩
  have em:gI [] (aH (bq.map λn=>(n,(Me.look W n).getD 0)))=aH (bq.map λn=>(n,(Me.look W n).getD 0)):=by
   have z:=JD (bq.map λn=>(n,(Me.look W n).getD 0)) [];rw[Me.JA _ [] (by simpa using Vw)] at z;show z
  rw[em];have S:=s2.trans (s3.trans (s'.trans (e_ (o:=.lst (ts.map V.ref)) aS)));show k q _ _ (S.free hq) (S.trans (e_ hq)) c_ hg
end Hv
namespace Me
abbrev dm(f:List (Int×Int)):Int:=(f.map (·.2)).sum
def Vx(h:k∉keys f):(f.map λp=>if p.1=k then (p.1,v) else p)=f:=by
 induction f with
 | nil=>rfl
 | cons p f ih =>
  have h1:p.1≠k:=λz=>h<|by simp[keys,z]
  have h2:=λz=>h<|a2G _ z;rw[a2X,ih h2,if_neg h1]
def Vy(h:a∉keys f):put ((a,x)::f) a v=(a,v)::f:=by
 unfold put;rw[if_pos (by simp),a2X,Vx h,if_pos Z]
def Vz(h:a≠k):put ((a,x)::f) k v=(a,x)::put f k v:=by
 unfold put;have e:(((a,x)::f).any λp=>decide (p.1=k))=f.any λp=>decide (p.1=k):=by simp[h]
 rw[e];split;.rw[a2X,if_neg h]
 .rfl
def qL:look ((a,x)::f) a=some x:=by simp[look]
def qM(h:a≠k):look ((a,x)::f) k=look f k:=by simp[look,h]
def xP(h:a∉keys f):eG ((a,x)::f) a n=(a,x+n)::f:=by
 unfold eG;rw[qL,Vy h];rfl
def xQ(h:a≠k):eG ((a,x)::f) k n=(a,x)::eG f k n:=by
 unfold eG;rw[qM h,Vz h]
theorem JN{k n:Int}:∀ {f:List (Int×Int)},(keys f).Nodup->dm (eG f k n)=dm f+n
 | [],_=>by simp[eG,put,look,dm]
 | (a,x)::f,nd=>by
  have lu:=(a3g.mp nd).1;have fh:=(a3g.mp nd).2;by_cases e:a=k
  .subst e;rw[xP lu];simp only[dm,a2X,a3d];lia
  .have ih:=JN (k:=k) (n:=n) fh;rw[xQ e];simp only[dm,a2X,a3d] at ih⊢;lia
theorem JO{k n:Int}(hn:0<=n):∀ {f:List (Int×Int)},(keys f).Nodup->(∀p∈f,0<=p.2)->∀p∈eG f k n,0<=p.2
 | [],_,_=>by
  intro p hp;have:p=(k,0+n):=by simpa [eG,put,look] using hp
  rw[this];lia
 | (a,x)::f,nd,h=>by
  have lu:=(a3g.mp nd).1;have fh:=(a3g.mp nd).2;have hx:=h (a,x) (by simp);have hf:∀p∈f,0<=p.2:=λp hp=>h p<|by simp[hp]
  by_cases e:a=k
  .subst e;rw[xP lu];intro p hp;rcases a2B.mp hp with rfl | hp;.lia
   .show hf p hp
  .rw[xQ e];intro p hp;rcases a2B.mp hp with rfl | hp;.show hx
   .show JO hn fh hf p hp
def JP(nd:(keys f).Nodup):(keys (eG f k n)).Nodup:=Jx nd
structure Tw(f:List (Int×Int))(t:Int):Prop where
 nd:(keys f).Nodup
 nn:∀p∈f,0<=p.2
 tt:dm f=t
def Tw.add(o:Tw f t)(hn:0<=n):Tw (eG f k n) (t+n):=⟨JP o.nd,JO hn o.nd o.nn,by rw[JN o.nd,o.tt]⟩
theorem Tw.cF{f:List (Int×Int)}{t w:Int}{p:Int×Int}(o:Tw f t)(hp:0<=p.2):∀n:Nat,Tw (cF p w n f) (t+n*p.2)
 | 0=>by
  have e:t+ (0:Nat) *p.2=t:=by simp
  rw[e];show o
 | n+1=>by
  have e:t+ (n+1:Nat) *p.2=(t+n*p.2)+p.2:=by push_cast;rw[a6f];lia
  rw[mE,e];show(Tw.cF o hp n).add hp
theorem Tw.more{b:Nat}{w:Int}:∀ {f:List (Int×Int)} {acc:List (Int×Int)} {t:Int},Tw acc t->(∀p∈f,0<=p.2)->Tw (f.foldl (λacc p=>Me.cF p w b acc) acc) (t+b*dm f)
 | [],acc,t,o,_=>by
  have e:t+ b *dm []=t:=by simp[dm]
  rw[e];show o
 | p::f,acc,t,o,h=>by
  have e:t+ b *dm (p::f)=(t+b*p.2)+b*dm f:=by
   simp only[dm,a2X,a3d];rw[a6g];lia
  rw[e,a2W];show Tw.more (o.cF (h p<|by simp) b)<|λq hq=>h q<|by simp[hq]
def Tw.one(o:Tw f t):Tw (fU f b w) (b*t):=by
 have z:Tw [] 0:=⟨by simp[keys],λp hp=>by simp at hp,Z⟩;have h:=Tw.more (b:=b) (w:=w) z o.nn;rw[o.tt] at h;have e: 0 +b*t=b*t:=by lia
 rw[e] at h;show h
theorem JQ(b:Nat):∀(ws:List Int) (f:List (Int×Int)) (t:Int),Tw f t->Tw (ws.foldl (λf w=>fU f b w) f) ((b:Int) ^ ws.length*t)
 | [],f,t,o=>by
  simp_all
 | w::ws,f,t,o=>by
  have e: b  ^ (w::ws).length*t= b  ^ ws.length*(b*t):=by rw[a2P,Int.pow_succ,a4T]
  rw[e];show JQ b ws _ _ o.one
def xR(b:Nat)(ws:List Int):Tw (aT b ws) ((b:Int) ^ ws.length):=by
 have z:Tw [(0,1)] 1:=⟨by simp[keys],λp hp=>by simp_all,Z⟩;have h:=JQ b ws _ _ z;rw[a6e] at h;show h
theorem JR:∀ {f:List (Int×Int)},(∀p∈f,0<=p.2)->0<=dm f/\∀p∈f,p.2<=dm f
 | [],_=>⟨by simp[dm],λp hp=>by simp at hp⟩
 | q::f,h=>by
  obtain⟨i1,i2⟩:=JR (f:=f) λp hp=>h p<|by simp[hp]
  have hq:=h q (by simp);have e:dm (q::f)=q.2+dm f:=by simp[dm]
  rw[e];show⟨by lia,λp hp=>?_⟩;rcases a2B.mp hp with rfl | hp;.lia
  .have:=i2 p hp;lia
def JS(hb:b<=16)(hl:ws.length<=6)(k:Int):0<=(look (aT b ws) k).getD 0/\(look (aT b ws) k).getD 0<=16777216:=by
 have o:=xR b ws;obtain⟨h0,h1⟩:=JR o.nn;rw[o.tt] at h1;have hm:=a2U (a5H hb _) (a4N (by decide) hl);have iP:((b:Int) ^ ws.length)<=16777216:=by grind
 cases e:(aT b ws).find? λq=>decide (q.1=k) with
 | none =>
  rw[look,e];show⟨by decide,by decide⟩
 | some q =>
  have hq:=a3A e;rw[look,e];show⟨o.nn q hq,a4P (h1 q hq) iP⟩
def JT(h:f.Perm g)(nd:(keys g).Nodup)(k:Int):look f k=look g k:=by
 have VA:=(h.map _).nodup_iff.mpr nd
 cases e:g.find? λq=>decide (q.1=k) with
 | none =>
  have e2:f.find? (λq=>decide (q.1=k))=none:=by
   rw[List.find?_eq_none] at e⊢;show λx hx=>e x<|h.mem_iff.mp hx
  rw[look,look,e,e2]
 | some q =>
  have hq:=a3A e;have hk:q.1=k:=by simpa using a4X e
  rw[<-hk,oB nd hq,oB VA (h.mem_iff.mpr hq)]
def dq(b:Nat)(rows:List (List Int))(t:Int):Int:=rows.foldl (λm row=>m*(look (aT b row) t).getD 0) 1
def VB{rows:List (List Int)}(h:rows[i]?=some row):dq b (rows.take (i+1)) t=dq b (rows.take i) t*(look (aT b row) t).getD 0:=by
 unfold dq;rw[a2I,h,a4u];rfl
def eI(b:Nat)(rows:List (List Int))(ks:List Int):List (Int×Int):=(ks.filter λk=>decide (0<dq b rows k)).map λk=>(k,dq b rows k)
def VC(b:Nat)(rows:List (List Int))(ks:List Int):keys (eI b rows ks)=ks.filter λk=>decide (0<dq b rows k):=by
 rw[keys,eI,a3v];show List.map_id' _
def VD(h:ks.Perm ls):(eI b rows ks).Perm (eI b rows ls):=(h.filter _).map _
def VE(b:Nat)(rows:List (List Int))(ks:List Int):(eI b rows ks).length<=ks.length:=by
 rw[eI,a2x];show List.length_filter_le _ _
def VF{ks:List Int}(nd:ks.Nodup)(h:ks[i]?=some k)(hp:0<dq b rows k):eI b rows (ks.take (i+1))=put (eI b rows (ks.take i)) k (dq b rows k):=by
 have hk:k∉keys (eI b rows<|ks.take i):=λz=>by
  rw[VC] at z;have z1:=(a5z.mp z).1;obtain⟨j,hj⟩:=List.mem_iff_getElem?.mp z1;rw[List.getElem?_take] at hj;split at hj
  .have:=(List.getElem?_inj (by have:=(a2z.mp hj).1;show this) nd).mp (hj.trans h.symm);lia
  .cases hj
 rw[Jz hk,eI,a2I,h,List.filter_append,a3e];congr 1;change([k].filter _).map _=_;rw[List.filter_cons_of_pos (by simpa using hp)];rfl
def VG{ks:List Int}(h:ks[i]?=some k)(hp:¬ 0<dq b rows k):eI b rows (ks.take (i+1))=eI b rows (ks.take i):=by
 rw[eI,eI,a2I,h,List.filter_append,a3e];change _++([k].filter _).map _=_;rw[List.filter_cons_of_neg (by simpa using hp)];simp
end Me
namespace Hv
open PySem L2
abbrev qN(H:Hp)(b:Nat)(qs:List Addr)(rows:List (List Int)):Prop:=Paired (λq row=>∃g,H q=some (.dK (aH g))/\g.Perm (Me.aT b row)) qs rows
def qN.keep(s:ae H H')(h:qN H b qs rows):qN H' b qs rows:=L2.Paired.jK h λq row ⟨g,e,p⟩=>⟨g,s _ _ e,p⟩
abbrev JU(H:Hp)(b:Nat)(qs:List Addr)(rows:List (List Int)):Prop:=Paired (λq row=>∃g,Rd H q (.dK (aH g))/\g.Perm (Me.aT b row)) qs rows
inductive uc(vs:List V)(H:Hp)(Q:VK)(aq:XK):Prop
 | mk:∀f a c b ps ws,(vs=[.ref f])->(aV H f a c b ps ws)->(∀(p:Addr) (qs:List Addr) (H':Hp),ae H H'->H p=none->H' p=some (.lst (qs.map V.ref))->qN H' b qs (Ma.aW ps ws)->Q (.ref p) H')->uc vs H Q aq
inductive xS(vs:List V)(H:Hp)(Q:VK)(aq:XK):Prop
 | mk:∀(p:Addr) (qs:List Addr) (b:Nat) (rows:List (List Int)) (t:Int),(vs=[.ref p,.int t])->(H p=some (.lst (qs.map V.ref)))->(JU H b qs rows)->(b<=16)->((∀row∈rows,(∀x∈row,-9<=x/\x<=9)/\row.length<=6))->(Q (.int (Me.dq b rows t)) H)->xS vs H Q aq
def VH:aI ["frame"] ["frame"] (f_ wL):=⟨Z,Z,Z,by decide,Z,by decide,by decide⟩
def VI(F:ay K "ways_of_parts" "ways_of_parts" wL f fd)(T:Txt mg)(DC:ai P w K mg base 1 "cut_by_parts" ["frame","row"] oq)(DV:ai P w K mg base 2 "ways_of_weights" ["base","weights"] ub) : av P w K mg base aE 3 f fd ["frame"] uc:=by
 show F.ok VH λak A outer s H vs Q E hr h=>?_
 .obtain⟨g,a,c,b,ps,ws,rfl,G,k⟩:=h;show⟨_,g_ (k_ (P_ (f_ wL) ["frame"] ["frame"] [0] Z (B_ (m_ DC hr.mo (by rfl) (a_ (pv 0) (a_ (ce (pv 0) h_) d_)))) (λcl C s H fp=>O_) (λcl C s H fp=>m_ DV hr (by rfl) (a_ (Ii K Z (pv 1) h_) (a_ (pv 0) d_))) (by decide))),⟨_,Z,_,Z,_,_,_,_,Z,Z,aP.of G.tp,Z,g,a,c,b,ps,ws,c,ws,Z,G,G.hw,λp qs H2 s2 hp rows=>?_⟩⟩;have G2:=G.keep s2
  have lv:qs.length=ps.length:=by
   have e:=rows.length;rw[e,Ma.X_]
  have l4:=G.ok.l4;show⟨p,Z,⟨_,ag.of hp⟩,z_ (K:=K) (λi ys H'=>∃ts,ys=ts.map V.ref/\ts.length=i/\ae H2 H'/\qN H' b ts ((Ma.aW ps ws).take i)) ⟨[],Z,Z,ae.refl _,.nil⟩ (λi ys H' _ h=>by obtain⟨_,_,_,s',_⟩:=h;show ag.of (s' _ _ hp)) ?_ ?_⟩
  .rintro i x ys H' hx ⟨ts,rfl,cw,s',wa⟩;have jr:i<qs.length:=by have:=(a2z.mp hx).1;simpa using this
   obtain⟨q,hq,rfl⟩:∃q:Addr,qs[i]?=some q/\x=.ref q:=by
    rw[a2E] at hx
    cases e:qs[i]? with
    | none=>rw[e] at hx;cases hx
    | some d=>rw[e] at hx;show⟨d,Z,(a2J hx).symm⟩
   obtain⟨row,hj,bJ⟩:=tL rows hq;show⟨bT (by rw[a2x];lia),_,Z,_,_,_,_,Z,Z,aP.of (G2.keep s').tp,Z,_,Z,b,q,row,Z,s' _ _ bJ,G.ok.cz,λx hx=>G.ok.wr x (Ma.qt (a2A hj) x hx),Ma.qu (λp hp=>(G.ok.pr p hp).2) (a2A hj),λp' H3 gg np s3 j8 hg=>⟨ts++[p'],by simp,by simp[cw],s'.trans s3,?_⟩⟩;rw[a2I,hj];show Paired.snoc (wa.keep s3) ⟨gg,j8,hg⟩
  .rintro ys H' ⟨ts,rfl,cw,s',wa⟩ l hl;have e:(qs.map V.ref).length=(Ma.aW ps ws).length:=by rw[a2x,Ma.X_];show lv
   rw[e,a2M] at wa;have sl:=e_ (o:=.lst (ts.map V.ref)) hl;show k l ts _ (s2.trans (s'.trans sl)) (s2.free (s'.free hl)) c_ (wa.keep sl)
def JV:aI ["ways_by_part","total","many","ways"] ["ways_by_part","total"] (f_ Bk):=⟨Z,Z,Z,by decide,Z,by decide,by decide⟩
def VJ(F:ay K "ways_with" "ways_with" Bk f fd):av P w K mg base aE 1 f fd ["ways_by_part","total"] xS:=by
 show F.ok JV λak A outer s H vs Q E hr h=>?_
 .obtain⟨p,qs,b,rows,t,rfl,hp,wa,hb,iQ,k⟩:=h;have nd:=JV.nd;have hu:=nX hr;show⟨_,b_ (j_ 2 h_) (b_ (Z_ PassesOwn.never Z (B_ (pv 0)) (u_ 3) (g_ (j_ 2 (o_ jh (pv 2) (xk hu (pv 3) (pv 1) h_ ⟨Z,Z,Z,Z⟩))))) (g_ (k_ (pv 2)))),(⟨_,Z,p,Z,⟨_,ag.of hp⟩,kI (K:=K) (a:=p) (xs:=qs.map V.ref) (λi σ H'=>∃v3,σ=[some (.ref p),some (.int t),some (.int (Me.dq b (rows.take i) t)),v3]/\H=H') ⟨none,Z,Z⟩ (λi σ H' _ h=>by obtain⟨_,_,e⟩:=h;rw[<-e];show ag.of hp) ?_ ?_⟩)⟩
  .rintro i x σ H' hx ⟨v3,rfl,rfl⟩
   obtain⟨q,hq,rfl⟩:∃q:Addr,qs[i]?=some q/\x=.ref q:=by
    rw[a2E] at hx
    cases e:qs[i]? with
    | none=>rw[e] at hx;cases hx
    | some d=>rw[e] at hx;show⟨d,Z,(a2J hx).symm⟩
   obtain⟨row,hj,g,hg,perm⟩:=tL wa hq;obtain⟨hw,hl⟩:=iQ row (a2A hj);have ud:=Me.xE hw hb;obtain⟨v0,v1⟩:=Me.JS hb hl t;have JW:=Me.JT perm ud.nd t;have cm:vS (Me.dq b (rows.take i) t) ((Me.look g t).getD 0):=by rw[JW];show .inr ⟨by lia,by lia⟩
   show⟨_,Z,_,Z,q,Z,.inl ⟨_,hg⟩,_,Z,_,oH hg,Me.dq b (rows.take i) t,(Me.look g t).getD 0,Z,xL _,cm,some (.ref q),?_,Z⟩;rw[Me.VB hj,<-JW];rfl
  .rintro σ H' ⟨v3,rfl,rfl⟩;have e:(qs.map V.ref).length=rows.length:=by rw[a2x];show wa.length
   rw[e,a2M];show⟨_,Z,k⟩
inductive xT(vs:List V)(H:Hp)(Q:VK)(aq:XK):Prop
 | mk:∀f a c b ps ws,(vs=[.ref f])->(aV H f a c b ps ws)->(∀(p:Addr) (g:List (Int×Int)) (H':Hp),H p=none->ae H H'->H' p=some (.dK (aH g))->(∃row,(Ma.aW ps ws)[0]?=some row/\g.Perm (Me.eI b (Ma.aW ps ws) (Me.keys (Me.aT b row))))->Q (.ref p) H')->xT vs H Q aq
def JX(G:aV H f a c b ps ws):∀row∈Ma.aW ps ws,(∀x∈row,-9<=x/\x<=9)/\row.length<=6 := λrow hr=>⟨λx hx=>G.ok.wr x<|Ma.qt hr x hx,Ma.qu (λp hp=>(G.ok.pr p hp).2) hr⟩
def JY:aI ["frame","ways_by_part","even","total","many"] ["frame"] (f_ Bl):=⟨Z,Z,Z,by decide,Z,by decide,by decide⟩
def VL(F:ay K "even_by_sums" "even_by_sums" Bl f fd)(D5:ai P w K mg base 5 "need_frame" ["thing"] fS)(DP:ai P w K mg base 3 "ways_of_parts" ["frame"] uc) (DW:ai P w K mg base 1 "ways_with" ["ways_by_part","total"] xS):av P w K mg base aE 6 f fd ["frame"] xT:=by
 show F.ok JY λak A outer s H vs Q E hr h=>?_
 .obtain⟨g,a,c,b,ps,ws,rfl,G,k⟩:=h;have nd:=JY.nd;have hu:=nX hr;show⟨_,b_ (t_ (m_ D5 hr (by rfl) (a_ (pv 0) d_))) (b_ (j_ 1 (m_ DP hr.mo (by rfl) (a_ (pv 0) d_))) (b_ (j_ 2 tD) (b_ (Z_ PassesOwn.never Z (tO (bH (pv 1) h_)) (u_ 3) (b_ (j_ 4 (m_ DW hr.mo (by rfl) (a_ (pv 1) (a_ (pv 3) d_)))) (g_ (C_ (r_ r9 (pv 4) h_ (bx _)) (g_ (tq hu (pv 2) (pv 3) (pv 4) Z)) q_)))) (tM (g_ (k_ (pv 2))))))),⟨_,Z,g,a,c,b,ps,ws,Z,G,λH1 s1=>?_⟩⟩;have G1:=G.keep s1;show⟨_,Z,g,a,c,b,ps,ws,Z,G1,λp qs H2 s2 hp cZ wa=>?_⟩;intro l hl;obtain⟨row,bJ⟩:∃row,(Ma.aW ps ws)[0]?=some row:=⟨(Ma.aW ps ws)[0]'(by rw[Ma.X_];have:=G.ok.l2;lia),by simp⟩;obtain⟨q,hq⟩:∃q,qs[0]?=some q:=⟨qs[0]'(by have e:qs.length=(Ma.aW ps ws).length:=wa.length;rw[e,Ma.X_];have:=G.ok.l2;lia),by simp⟩;obtain⟨lx,JZ,g0,j9,perm⟩:=tL wa hq;have er:lx=row:=by rw[bJ] at JZ;show(a2J JZ).symm
  subst er;obtain⟨VM,nY⟩:=JX G lx (a2A bJ);have ud:=Me.xE VM G.ok.cz;have wln:=Me.Ok.len (by push_cast at ud⊢;show ud);have VN:(Me.keys g0).Nodup:=(perm.map _).nodup_iff.mpr ud.nd;have hgl:g0.length<=2000:=by rw[perm.length_eq];lia
  have s3:ae H2 (ad H2 l (.dK [])):=e_ hl;have lv:q≠l:=l_ j9 hl;have cy:p≠l:=l_ cZ hl;have VO:q≠p:=Ao j9 cZ (by intro z;cases z);have l3:(ad H2 l (.dK [])) l=some (.dK (aH [])):=c_;generalize ad H2 l (.dK [])=H3 at s3 l3⊢;have q3:=s3 _ _ j9;have p3:=s3 _ _ cZ;have wn:cv (qs.map V.ref) 0=some (.ref q):=J_ (by rw[a2E,hq];rfl);show⟨_,Z,p,_,0,.ref q,Z,Z,ag.of p3,wn,q,aH g0,Z,q3,λo=>tP (λi σ H'=>∃v3 v4,σ=[some (.ref g),some (.ref p),some (.ref l),v3,v4]/\H' q=some (.bV o (.dK (aH g0)))/\(∀x ob,x≠q->x≠l->H3 x=some ob->H' x=some ob)/\H' l=some (.dK (aH (Me.eI b (Ma.aW ps ws) ((Me.keys g0).take i))))) ⟨none,none,Z,c_,λx ob hx _ e=>by rw[i_ hx];show e,by rw[i_ lv.symm,l3];rfl⟩ (λi σ H' _ h=>by obtain⟨_,_,_,z,_⟩:=h;show z) ?_ ?_⟩
  .rintro i kk v σ H' hk ⟨v3,v4,rfl,fq,kp,cW⟩;obtain⟨pr,qO,rfl,rfl⟩:=Cj hk;have J0:(Me.keys g0)[i]?=some pr.1:=by rw[Me.keys,a2E,qO];rfl
   have p':=kp p _ VO.symm cy p3
   have wr:JU H' b qs (Ma.aW ps ws):=L2.Paired.jK wa λq1 a2k ⟨g1,e1,J1⟩=>by
    by_cases e:q1=q
    .subst e;have eg:aH g1=aH g0:=by rw[e1] at j9;injection j9 with j9;injection j9
     show⟨g1,.inr ⟨o,by rw[eg];show fq⟩,J1⟩
    .show⟨g1,.inl (kp q1 _ e (l_ e1 hl) (s3 _ _ e1)),J1⟩
   have bE:=Me.VE b (Ma.aW ps ws) ((Me.keys g0).take i);have VP:((Me.keys g0).take i).length<=2000:=by rw[a3a,Me.keys,a2x];lia
   show⟨_,Z,_,Z,p,qs,b,Ma.aW ps ws,pr.1,Z,p',wr,G.ok.cz,JX G,⟨_,Z,_,_,Z,Z,_,Z,kX (λh=>?_) (λh=>?_)⟩⟩
   .have h':0<Me.dq b (Ma.aW ps ws) pr.1:=of_decide_eq_true h;show⟨_,Z,_,Z,_,Z,l,_,Z,Ck cW (by lia),_,_,Z,?_,λx ob h1 h2 e=>?_,?_⟩;.rw[i_ lv];show fq
    .rw[i_ h2];show kp x ob h1 h2 e
    .rw[c_,Me.VF VN J0 h']
   .have h':¬ 0<Me.dq b (Ma.aW ps ws) pr.1:=λz=>h (decide_eq_true z);show⟨_,_,Z,fq,kp,?_⟩;rw[Me.VG J0 h'];show cW
  .rintro σ H' ⟨v3,v4,rfl,fq,kp,cW⟩;have el:(aH g0).length=(Me.keys g0).length:=by rw[aH,Me.keys,a2x,a2x]
   rw[el,a2M] at cW;have S3:=s1.trans (s2.trans s3);have lH:H l=none:=s1.free (s2.free hl);show⟨q,o,aH g0,fq,(λo' u z=>?_),_,Z,k l _ _ lH (λx ob e=>?_) (by rw[i_ lv.symm];show cW) ⟨lx,bJ,Me.VD (perm.map _)⟩⟩
   .have z':H q=some (.bV o' u):=z;have:=S3 _ _ z';rw[q3] at this;cases this
   .by_cases hx:x=q
    .have:=S3 _ _ e;rw[hx] at this;rw[hx,c_,<-this,q3]
    .rw[i_ hx];show kp x ob hx (l_ e lH) (S3 _ _ e)
end Hv
namespace Me
abbrev gv(f:List (Int×Int))(k:Int):Int:=(look f k).getD 0
theorem Cn{k n j:Int}:∀ {f:List (Int×Int)},(keys f).Nodup->gv (eG f k n) j=gv f j+if k=j then n else 0
 | [],_=>by
  by_cases e:k=j <;> simp[gv,eG,put,look,e]
 | (a,x)::f,nd=>by
  have lu:=(a3g.mp nd).1;have fh:=(a3g.mp nd).2;by_cases e:a=k
  .subst e;rw[xP lu];by_cases h:a=j
   .subst h;rw[gv,gv,qL,qL,if_pos Z];rfl
   .rw[gv,gv,qM h,qM h,if_neg h];lia
  .rw[xQ e];by_cases h:a=j
   .subst h;rw[gv,gv,qL,qL,if_neg (λz=>e z.symm)];lia
   .have ih:=Cn (k:=k) (n:=n) (j:=j) fh;rw[gv,gv,qM h,qM h];show ih
def J2(nd:(keys f).Nodup)(hn:0<=n):gv f j<=gv (eG f k n) j:=by
 rw[Cn nd];split <;> lia
theorem ly{p:Int×Int}{w:Int}{acc:List (Int×Int)}(nd:(keys acc).Nodup):∀n:Nat,(keys (cF p w n acc)).Nodup
 | 0=>nd
 | n+1=>by rw[mE];show JP<|ly nd n
theorem Co{p:Int×Int}{w j:Int}{acc:List (Int×Int)}(nd:(keys acc).Nodup)(hp:0<=p.2):∀n:Nat,gv acc j<=gv (cF p w n acc) j
 | 0=>a4C _
 | n+1=>by
  rw[mE];show a4P (Co nd hp n) (J2 (ly nd n) hp)
theorem J3{p:Int×Int}{w:Int}{acc:List (Int×Int)}(nd:(keys acc).Nodup)(hp:0<=p.2):∀n:Nat,gv acc p.1+p.2<=gv (cF p w (n+1) acc) p.1
 | 0=>by
  rw[mE];have e:p.1+ (0:Nat) *w=p.1:=by simp
  rw[e,Cn (ly nd 0),if_pos Z];show a4C _
 | n+1=>by
  rw[mE];show a4P (J3 nd hp n) (J2 (ly nd (n+1)) hp)
theorem J4{b:Nat}{w j:Int}:∀ {f acc:List (Int×Int)},(keys acc).Nodup->(∀p∈f,0<=p.2)->gv acc j<=gv (f.foldl (λacc p=>cF p w b acc) acc) j
 | [],_,_,_=>a4C _
 | p::f,acc,nd,h=>by
  show a4P (Co nd (h p<|by simp) b)<|J4 (ly nd b) λq hq=>h q<|by simp[hq]
theorem J5{b:Nat}{w:Int}{p:Int×Int}:∀ {f acc:List (Int×Int)},(keys acc).Nodup->(∀p∈f,0<=p.2)->p∈f->gv acc p.1+p.2<=gv (f.foldl (λacc p=>cF p w (b+1) acc) acc) p.1
 | [],_,_,_,hp=>by simp at hp
 | q::f,acc,nd,h,hp=>by
  rw[a2W];rcases a2B.mp hp with rfl | hp;.show a4P (J3 nd (h p<|by simp) b)<|J4 (ly nd _) λq hq=>h q<|by simp[hq]
  .have h1:=Co (w:=w) (j:=p.1) nd (h q<|by simp) (b+1);have h2:=J5 (w:=w) (b:=b) (ly (p:=q) (w:=w) nd (b+1)) (λq hq=>h q<|by simp[hq]) hp;lia
def J6(h:1<=gv f k):(k,gv f k)∈f:=by
 cases e:f.find? λq=>decide (q.1=k) with
 | none =>
  have z:gv f k=0:=by rw[gv,look,e];rfl
  lia
 | some q =>
  have hq:=a3A e;have hk:q.1=k:=by simpa using a4X e
  have z:gv f k=q.2:=by rw[gv,look,e];rfl
  rw[z,<-hk];show hq
theorem J7{b:Nat}:∀(ws:List Int) (f:List (Int×Int)) (t:Int),Tw f t->1<=gv f 0->1<=gv (ws.foldl (λf w=>fU f (b+1) w) f) 0
 | [],_,_,_,h=>h
 | w::ws,f,t,o,h=>by
  show J7 ws _ _ o.one ?_;have:=J5 (w:=w) (b:=b) (acc:=[]) (by simp[keys]) o.nn (J6 h);have e:gv [] 0=0:=rfl;unfold fU;lia
def VQ(hb:1<=b)(ws:List Int):1<=gv (aT b ws) 0:=by
 obtain⟨c,rfl⟩:∃c,b=c+1:=⟨b-1,by lia⟩;show J7 ws [(0,1)] 1 ⟨by simp[keys],λp hp=>by simp_all,Z⟩<|by decide
def VR(b:Nat)(row:List Int)(t:Int):0<=(look (aT b row) t).getD 0:=by
 have o:=xR b row
 cases e:(aT b row).find? λq=>decide (q.1=t) with
 | none=>rw[look,e];show a4C _
 | some q=>rw[look,e];show o.nn q<|a3A e
theorem J8{b:Nat}{t:Int}:∀(rows:List (List Int)) (m:Int),0<=m->0<=rows.foldl (λm row=>m*(look (aT b row) t).getD 0) m
 | [],_,h=>h
 | row::rows,m,h=>by
  show J8 rows _<|Int.mul_nonneg h<|VR b row t
theorem J9{b:Nat}{t:Int}:∀(rows:List (List Int)),rows.foldl (λm row=>m*(look (aT b row) t).getD 0) 0=0
 | []=>rfl
 | row::rows=>by
  rw[a2W,a5J];show J9 _
def xU(h:t∉keys f):look f t=none:=by
 cases e:f.find? λq=>decide (q.1=t) with
 | none=>rw[look,e];rfl
 | some q =>
  exfalso;show h<|a2N.mpr ⟨q,a3A e,by simpa using a4X e⟩
def VS(h:rows[0]?=some row)(ht:t∉keys (aT b row)):dq b rows t=0:=by
 cases rows with
 | nil=>cases h
 | cons r rows =>
  have e:=a2J h;subst e;unfold dq;rw[a2W,xU ht];show J9 _
def Ka{l m:List Int}(h:l.Perm m):l.sum=m.sum:=by
 induction h with
 | nil=>rfl
 | cons x _ ih=>rw[a3d,a3d,ih]
 | swap x y l=>simp only[a3d];lia
 | trans _ _ a b=>show a.trans b
def VT(h:f.Perm g):dm f=dm g:=Ka (h.map _)
end Me
namespace Mq
def sm(f:Int->Int)(a:Int):Nat->Int
 | 0=>0
 | n+1=>sm f a n+f (a+n)
theorem ue(f:Int->Int)(a:Int)(n:Nat):∀m:Nat,sm f a (n+m)=sm f a n+sm f (a+n) m
 | 0=>by simp[sm]
 | m+1=>by
  rw[<-a4x,sm,sm,ue f a n m];have e:a+ (n+m:Nat) =a+n+m:=by push_cast;lia
  rw[e];lia
theorem iR{f:Int->Int}{a:Int}:∀ {n:Nat},(∀t,a<=t->t<a+n->f t=0)->sm f a n=0
 | 0,_=>rfl
 | n+1,h=>by
  rw[sm,iR λt h1 h2=>h t h1<|by push_cast;lia,h _ (by lia) (by push_cast;lia)];rfl
theorem lA{f g:Int->Int}{a:Int}:∀ {n:Nat},(∀t,a<=t->t<a+n->f t=g t)->sm f a n=sm g a n
 | 0,_=>rfl
 | n+1,h=>by
  rw[sm,sm,lA λt h1 h2=>h t h1<|by push_cast;lia,h _ (by lia) (by push_cast;lia)]
def Kb{a h:Int}{n m:Nat}(hf:∀t,h<t->f t=0)(hn:h<a+n)(hm:h<a+m):sm f a n=sm f a m:=by
 have aL:∀ {n m:Nat},n<=m->h<a+n->sm f a n=sm f a m:=λ{n m} iO hn=>by
  obtain⟨k,rfl⟩:=Nat.exists_eq_add_of_le iO;rw[ue,iR (n:=k) λt h1 _=>hf t<|by lia];lia
 rcases a5Y n m with z | z;.show aL z hn
 .show(aL z hm).symm
def VU{a b:Int}{n m:Nat}(h1:a<=b)(h2:b+m<=a+n)(z1:∀t,a<=t->t<b->g t=0)(z2:∀t,b+m<=t->t<a+n->g t=0):sm g a n=sm g b m:=by
 obtain⟨k,rfl⟩:∃k:Nat,b=a+k:=⟨(b-a).toNat,by lia⟩;obtain⟨r,rfl⟩:∃r:Nat,n=k+(m+r):=⟨n-k-m,by lia⟩;rw[ue,ue,iR λt h1 h2=>z1 t h1 h2,iR (n:=r) λt h1 h2=>z2 t (by lia)<|by push_cast;lia];lia
def pr(fs:List (Int->Int))(a:Int)(n:Nat):Int:=fs.foldl (λm f=>m*sm f a n) 1
def VW{fs:List (Int->Int)}:fs.foldl (λm f=>m*sm f a n) 0=0:=by
 induction fs with
 | nil=>rfl
 | cons f r ih=>simpa using ih
def uf(hf:f∈fs)(h:sm f a n=0):pr fs a n=0:=by
 have aL:∀(fs:List _)  c ,f∈fs->fs.foldl (λm f=>m*sm f a n) c=0:=λfs=>by
  induction fs with
  | nil=>intro c h;simp at h
  | cons q r ih =>
   intro c hq;rcases a2B.mp hq with rfl | hq;.rw[a2W,h,Int.mul_zero];show VW
   .show ih _ hq
 show aL fs 1 hf
def Kc(h:∀f∈fs,sm f a n=sm f b m):pr fs a n=pr fs b m:=by
 have aL:∀(fs:List _)  c ,(∀f∈fs,sm f a n=sm f b m)->fs.foldl (λm f=>m*sm f a n) c=fs.foldl (λq f=>q*sm f b m) c:=λfs=>by
  induction fs with
  | nil=>intro c _;rfl
  | cons q r ih =>
   simp_all
 show aL fs 1 h
def eL(fs:List (Int->Int))(d:Nat)(t:Int):Int:=pr fs t (d+1)-pr fs (t+1) d
def VX{d r:Nat}{t dS fH:Int}(hs:∀f∈fs,∀u,fH<u->f u=0)(ht:dS<=t)(hr:(r:Int)=d\/(fH-dS<=r/\fH-dS<=d)):eL fs d t=eL fs r t:=by
 rcases hr with hr | ⟨h1,h2⟩;.rw[show d=r by lia]
 .unfold eL;rw[Kc (m:=r+1) λf hf=>Kb (hs f hf) (by push_cast;lia)<|by push_cast;lia, Kc (n:=d) (m:=r) λf hf=>Kb (hs f hf) (by lia)<|by lia]
def VY(hf:f∈fs)(h:∀u,last<u->f u=0)(ht:last<t):eL fs d t=0:=by
 unfold eL;rw[uf hf (iR λu h1 _=>h u<|by lia),uf hf (iR λu h1 _=>h u<|by lia)];rfl
def VZ{d:Nat}{f:Int->Int}(hf:f∈fs)(h:∀u,u<l->f u=0)(ht:t+d<l):eL fs d t=0:=by
 unfold eL;rw[uf hf (iR λu _ h2=>h u<|by push_cast at h2;lia),uf hf (iR λu _ h2=>h u<|by lia)];rfl
def V0{d:Nat}{fl fg:Int->Int}(hs:∀f∈fs,∀u,fH<u->f u=0)(hl:fl∈fs)(cW:∀u,u<oK->fl u=0)(hg:fg∈fs)(qj:∀u,qP<u->fg u=0) (o1:dS<=oK) (o2:qP<=fH) (o3:dS<=fH) (o4:dS<=qP) (o5:oK<=fH) {r:Nat} (hr:(r:Int)=if fH-dS<d then fH-dS else d)  (Kd:first=if oK-r>dS then oK-r else dS) : sm (eL fs d) dS (fH-dS+1).toNat=sm (eL fs r) first (qP-first+1).toNat:=by
 have gK:(r:Int)=d\/(fH-dS<=r/\fH-dS<=d):=by split at hr <;> lia
 have e:sm _ dS (fH-dS+1).toNat=sm _ dS (fH-dS+1).toNat:=lA λt h1 _=>VX hs h1 gK;rw[e];have up:∀t,qP<t->eL fs r t=0:=λt h=>VY hg qj h;have dn:∀t,t+r<oK->eL fs r t=0:=λt h=>VZ hl cW h;have f1:dS<=first:=by rw[Kd];split <;> lia
 have f2:∀t,dS<=t->t<first->t+r<oK:=λt a b=>by rw[Kd] at b;split at b <;> lia
 by_cases hc:first<=qP+1;.show VU f1 (by lia) (λt a b=>dn t<|f2 t a b) λt a b=>up t<|by lia
 .rw[iR λt a b=>?_,iR λt a b=>up t<|by lia];by_cases q:t<first;.show dn t<|f2 t a q
  .show up t<|by lia
end Mq
namespace Me
def fw(b:Nat)(row:List Int):Int->Int:=λt=>gv (aT b row) t
def oN(b:Nat)(rows:List (List Int)):List (Int->Int):=rows.map (fw b)
def Cq(b:Nat)(row:List Int):Int:=Ma.aQ (keys (aT b row))
def Cr(b:Nat)(row:List Int):Int:=Ma.bA (keys (aT b row))
def ke(b:Nat)(rows:List (List Int)):List Int:=rows.map (Cq b)
def oO(b:Nat)(rows:List (List Int)):List Int:=rows.map (Cr b)
def xV(b:Nat)(rows:List (List Int))(d:Nat):Int:=Mq.sm (Mq.eL (oN b rows) d) (Ma.aQ (ke b rows)) (Ma.bA (oO b rows)-Ma.aQ (ke b rows)+1).toNat
def Cs(hb:1<=b)(row:List Int):0<(keys (aT b row)).length:=by
 have h:=J6 (VQ hb row);have: 0 ∈keys _:=a2N.mpr ⟨_,h,Z⟩;show a3T this
theorem Ke{f:Int->Int}(h:∀t,0<=f t/\f t<=16777216)(a:Int):∀n:Nat,0<=Mq.sm f a n/\Mq.sm f a n<=16777216*n
 | 0=>⟨a4C _,a4C _⟩
 | n+1=>by
  have ih:=Ke h a n;have:=h (a+n);simp only[Mq.sm];push_cast;lia
end Me
namespace Me
structure fV(g:List (Int×Int)):Prop where
 ne:0<(keys g).length
 nd:(keys g).Nodup
 bd:∀k∈keys g,-810<=k/\k<=810
 val:∀t,0<=gv g t/\gv g t<=16777216
def bN(gs:List (List (Int×Int))):List Int:=gs.map λg=>Ma.aQ (keys g)
def cf(gs:List (List (Int×Int))):List Int:=gs.map λg=>Ma.bA (keys g)
def fG(gs:List (List (Int×Int))):List (Int->Int):=gs.map λg t=>gv g t
def oP(gs:List (List (Int×Int)))(d:Nat):Int:=Mq.sm (Mq.eL (fG gs) d) (Ma.aQ (bN gs)) (Ma.bA (cf gs)-Ma.aQ (bN gs)+1).toNat
def V1(o:fV g)(h:t<Ma.aQ (keys g)):gv g t=0:=by
 have n:t∉keys g:=λz=>by
  have:=(Ma.E_ _ o.ne).2 t z;lia
 unfold gv;rw[xU n];rfl
def Kf(o:fV g)(h:Ma.bA (keys g)<t):gv g t=0:=by
 have n:t∉keys g:=λz=>by
  have:=(Ma.H_ _ o.ne).2 t z;lia
 unfold gv;rw[xU n];rfl
def xW(o:fV g) : -810<=Ma.aQ (keys g)/\Ma.aQ (keys g)<=Ma.bA (keys g)/\Ma.bA (keys g)<=810:=by
 have h1:=o.bd _ (Ma.E_ _ o.ne).1;have h2:=o.bd _ (Ma.H_ _ o.ne).1;have h3:=(Ma.E_ _ o.ne).2 _ (Ma.H_ _ o.ne).1;lia
def Ct(aZ:0<gs.length)(hg:∀g∈gs,fV g) : -810<=Ma.aQ (bN gs)/\Ma.aQ (bN gs)<=Ma.bA (bN gs)/\Ma.bA (bN gs)<=Ma.bA (cf gs)/\Ma.aQ (bN gs)<=Ma.aQ (cf gs)/\Ma.aQ (cf gs)<=Ma.bA (cf gs)/\Ma.bA (cf gs)<=810:=by
 have nl:0<(bN gs).length:=by rw[bN,a2x];show aZ
 have nh:0<(cf gs).length:=by rw[cf,a2x];show aZ
 obtain⟨m1,m2⟩:=Ma.E_ _ nl;obtain⟨m3,m4⟩:=Ma.H_ _ nl;obtain⟨m5,m6⟩:=Ma.E_ _ nh;obtain⟨m7,m8⟩:=Ma.H_ _ nh;obtain⟨rl,fW,V2⟩:=a2N.mp m3;obtain⟨rg,ug,V3⟩:=a2N.mp m5;obtain⟨r1,Ch,er1⟩:=a2N.mp m1;obtain⟨r7,V4,er7⟩:=a2N.mp m7;have a1:=xW (hg r1 Ch);have a2:=xW (hg rl fW);have a3:=xW (hg rg ug);have a4:=xW (hg r7 V4);have b1:=m8 _ (a2N.mpr ⟨rl,fW,Z⟩);have b2:=m2 _ (a2N.mpr ⟨rg,ug,Z⟩);show⟨by lia,m2 _ m3,by lia,by lia,m6 _ m7,by lia⟩
def V5(aZ:0<gs.length)(hg:∀g∈gs,fV g){d r:Nat}(hr:(r:Int)=if Ma.bA (cf gs)-Ma.aQ (bN gs)<d then Ma.bA (cf gs)-Ma.aQ (bN gs) else d) (hf:first=if Ma.bA (bN gs)-r>Ma.aQ (bN gs) then Ma.bA (bN gs)-r else Ma.aQ (bN gs)) : Mq.sm (Mq.eL (fG gs) r) first (Ma.aQ (cf gs)-first+1).toNat=oP gs d:=by
 have nl:0<(bN gs).length:=by rw[bN,a2x];show aZ
 have nh:0<(cf gs).length:=by rw[cf,a2x];show aZ
 have B:=Ct aZ hg;obtain⟨m1,m2⟩:=Ma.E_ _ nl;obtain⟨m3,m4⟩:=Ma.H_ _ nl;obtain⟨m5,m6⟩:=Ma.E_ _ nh;obtain⟨m7,m8⟩:=Ma.H_ _ nh;obtain⟨rl,fW,V2⟩:=a2N.mp m3;obtain⟨rg,ug,V3⟩:=a2N.mp m5
 show(Mq.V0 (λf hf u hu=>by
   obtain⟨g,oQ,rfl⟩:=a2N.mp hf;show Kf (hg g oQ)<|by have:=m8 _ (a2N.mpr ⟨g,oQ,Z⟩);lia)
  (a2N.mpr ⟨rl,fW,Z⟩) (λu hu=>V1 (hg rl fW)<|by lia) (a2N.mpr ⟨rg,ug,Z⟩) (λu hu=>Kf (hg rg ug)<|by lia) (by lia) (by lia) (by lia) (by lia) (by lia) hr hf).symm
end Me
namespace L2
open PySem PySem.Spec PyProof.Rows
def xX{vs:List (ax×Value)}{ns:List Int}(hk:vs.map (·.1)=ns.map Sum.inl){i:Nat}(h:∃k x,vs[i]?=some (k,x)/\(v_ P w).is k v=true):∃n t,ns[i]?=some n/\v=Value.int n t:=by
 obtain⟨k,x,h1,h2⟩:=h;have h3:(vs.map (·.1))[i]?=some k:=by rw[a2E,h1];rfl
 rw[hk,a2E] at h3
 cases q:ns[i]? with
 | none=>rw[q] at h3;cases h3
 | some m =>
  rw[q] at h3;have h4:=a2J h3;subst h4;have h5:jJ (Sum.inl m) v=true:=h2;rcases F_ h5 with⟨i',t,e1,e2⟩ | ⟨y,t,e1,_⟩;.cases e1;show⟨m,t,Z,e2⟩
  .cases e1
def V6(hc:X.calm=true):dw X (.builtin "max") (λxs H Q=>∃(a:Addr) (kvs:List (ax×V)) (ns:List Int),xs=[.ref a]/\Rd H a (.dK kvs)/\kvs.map (·.1)=ns.map Sum.inl/\0<ns.length/\Q (.int (Ma.bA ns)) H):=by
 intro aa s σ H xs us Q I r h;obtain⟨a,kvs,ns,rfl,e,hk,aZ,q⟩:=h;obtain⟨u,rfl,ru⟩:=vals1 r;cases ru;obtain⟨z,hd,vs,aX,o,es,ep,ho,dd⟩:=jZ I.am e;have ia:vs.map (·.1)=ns.map Sum.inl:=by rw[<-aX.keys];show hk
 have hn:vs.length=ns.length:=by simpa using congrArg List.length ia
 have KS:=a5r (ep:=ep) (kvs:=vs) (knd:=v_ X.prog X.w) hd
 have jn:∀(i:Nat)  v ,(∃k x,vs[i]?=some (k,x)/\(v_ X.prog X.w).is k v=true)->∃t,v=.int ((λi=>(ns[i]?).getD 0) i) t:=λi v hP=>by
  obtain⟨n,t,e,rfl⟩:=xX ia hP;show⟨t,by simp[e]⟩
 obtain⟨oI,St,bS,W,st⟩:=KS.iter X.A.in1 s (I.ok.hd hc) ⟨o,es,ho,dd⟩;show call_max_walk<|bS _ _ ⟨_,_,_,_,_,_,_,Z,W,st,λb bO=>?_,by omega,CmpOf.ints_gt (λi=>(ns[i]?).getD 0) jn,λv h' tk hP hk=>?_⟩
 .rw[a3h];rcases a2B.mp bO with rfl | bO;.show a3K _
  .rw[a2Z.mp bO];show a3S<|a2C ho
 .rw[hn] at hP;have ab:=argBest_gt (λi=>(ns[i]?).getD 0) (ns.length-1);obtain⟨n,t,e,rfl⟩:=xX ia hP
  have em:=Ma.Ig (a2A e) λm hm=>by
   obtain⟨j,hj⟩:=a3y hm;have mv:=(a2z.mp hj).1;have a2:=ab.2 j (by omega);simp only[hj,e,a5q] at a2;show a2
  subst em;show⟨.int _,H,I.kept<|λb o e=>hk b o (λhI=>absurd (a2C e)<|by rw[a2Z.mp hI];show a3w _)<|a2y _ e,⟨_,Z⟩,q⟩
def V7(hc:X.calm=true):dw X (.builtin "min") (λxs H Q=>∃(a:Addr) (kvs:List (ax×V)) (ns:List Int),xs=[.ref a]/\Rd H a (.dK kvs)/\kvs.map (·.1)=ns.map Sum.inl/\0<ns.length/\Q (.int (Ma.aQ ns)) H):=by
 intro aa s σ H xs us Q I r h;obtain⟨a,kvs,ns,rfl,e,hk,aZ,q⟩:=h;obtain⟨u,rfl,ru⟩:=vals1 r;cases ru;obtain⟨z,hd,vs,aX,o,es,ep,ho,dd⟩:=jZ I.am e;have ia:vs.map (·.1)=ns.map Sum.inl:=by rw[<-aX.keys];show hk
 have hn:vs.length=ns.length:=by simpa using congrArg List.length ia
 have KS:=a5r (ep:=ep) (kvs:=vs) (knd:=v_ X.prog X.w) hd
 have jn:∀(i:Nat)  v ,(∃k x,vs[i]?=some (k,x)/\(v_ X.prog X.w).is k v=true)->∃t,v=.int ((λi=>(ns[i]?).getD 0) i) t:=λi v hP=>by
  obtain⟨n,t,e,rfl⟩:=xX ia hP;show⟨t,by simp[e]⟩
 obtain⟨oI,St,bS,W,st⟩:=KS.iter X.A.in1 s (I.ok.hd hc) ⟨o,es,ho,dd⟩;show call_min_walk<|bS _ _ ⟨_,_,_,_,_,_,_,Z,W,st,λb bO=>?_,by omega,CmpOf.ints_lt (λi=>(ns[i]?).getD 0) jn,λv h' tk hP hk=>?_⟩
 .rw[a3h];rcases a2B.mp bO with rfl | bO;.show a3K _
  .rw[a2Z.mp bO];show a3S<|a2C ho
 .rw[hn] at hP;have ab:=argBest_lt (λi=>(ns[i]?).getD 0) (ns.length-1);obtain⟨n,t,e,rfl⟩:=xX ia hP
  have em:=Ma.Ih (a2A e) λm hm=>by
   obtain⟨j,hj⟩:=a3y hm;have mv:=(a2z.mp hj).1;have a2:=ab.2 j (by omega);simp only[hj,e,a5q] at a2;show a2
  subst em;show⟨.int _,H,I.kept<|λb o e=>hk b o (λhI=>absurd (a2C e)<|by rw[a2Z.mp hI];show a3w _)<|a2y _ e,⟨_,Z⟩,q⟩
end L2
namespace Hv
open PySem L2
def ju(f:Int->Int)(lo:Int)(n:Nat):List V:=(List.range (n+1)).map λk=>V.int (Mq.sm f lo k)
def V8(f:Int->Int)(lo:Int)(n:Nat):(ju f lo n).length=n+1:=by simp[ju]
def Kg(f:Int->Int)(lo:Int)(n:Nat):ju f lo (n+1)=ju f lo n++[.int (Mq.sm f lo (n+1))]:=by
 unfold ju;rw[a5C,a3e];rfl
def Kh(h:k<=n):(ju f lo n)[k]?=some (.int (Mq.sm f lo k)):=by
 unfold ju;rw[a2E,List.getElem?_range (by lia)];rfl
def V9(f:Int->Int)(lo:Int):∀n:Nat,cv (ju f lo n) (-1)=some (.int (Mq.sm f lo n))
 | 0=>AH [] _
 | n+1=>by rw[Kg];show AH _ _
theorem uh{α β:Type}{R:α->β->Prop}:∀ {as:List α} {bs:List β},Paired R as bs->∀ {i:Nat} {a:α},as[i]?=some a->∃b,bs[i]?=some b/\R a b
 | _,_,.cons h t,0,a,e=>by cases e;show⟨_,Z,h⟩
 | _,_,.cons h t,i+1,a,e=>by
  obtain⟨b,h1,h2⟩:=uh t e;show⟨b,by show h1,h2⟩
inductive xY(vs:List V)(H:Hp)(Q:VK)(aq:XK):Prop
 | mk:∀(q:Addr) (g:List (Int×Int)) (lo hi:Int),(vs=[.ref q,.int lo,.int hi])->(H q=some (.dK (aH g)))->(-5000<=lo)->(lo<=5000)->(-5000<=hi)->(hi<=5000)->(∀r H',H r=none->ae H H'->H' r=some (.lst (ju (Me.gv g) lo (hi+1-lo).toNat))->Q (.ref r) H')->xY vs H Q aq
abbrev ui(H:Hp)(lo:Int)(n:Nat)(rs:List Addr)(rows:List (List (Int×Int))):Prop:=Paired (λr row=>H r=some (.lst (ju (λt=>Me.gv row t) lo n))) rs rows
def ui.keep(s:ae H H')(h:ui H lo n rs rows):ui H' lo n rs rows:=L2.Paired.jK h λq row e=>s _ _ e
abbrev qQ(H:Hp)(qs:List Addr)(gs:List (List (Int×Int))):Prop:=Paired (λq g=>H q=some (.dK (aH g))) qs gs
def qQ.keep(h:qQ H qs gs)(s:ae H H'):qQ H' qs gs:=L2.Paired.jK h λq g e=>s _ _ e
inductive xZ(vs:List V)(H:Hp)(Q:VK)(aq:XK):Prop
 | mk:∀(p:Addr) (rs:List Addr) (rows:List (List (Int×Int))) (lo:Int) (n s e:Nat),(vs=[.ref p,.int s,.int e])->(H p=some (.lst (rs.map V.ref)))->(ui H lo n rs rows)->((∀row∈rows,Me.fV row))->(n<=20000)->(s<=e)->(e<=n)->(Q (.int (Mq.pr (Me.fG rows) (lo+s) (e-s))) H)->xZ vs H Q aq
def Ki:aI ["ways","low","high","counts","total"] ["ways","low","high"] (f_ Bo):=⟨Z,Z,Z,by decide,Z,by decide,by decide⟩
def V'(F:ay K "running_counts" "running_counts" Bo f fd)(T:Txt mg):av P w K mg base aE 1 f fd ["ways","low","high"] xY:=by
 show F.ok Ki λak A outer s H vs Q E hr h=>?_
 .obtain⟨q,g,lo,hi,rfl,hq,a1,a2,a3,a4,k⟩:=h;have nd:=Ki.nd;have hu:=nX hr;show⟨_,b_ (j_ 3<|x_<|a_ h_ d_) <|b_ (Z_ PassesOwn.never Z (QN (by rfl) T.range<|a_ (pv 1)<|a_ (o_ Q_ (pv 2) h_) d_) (u_ 4) <|g_<|t_<|dh PySem.F.plainAttrs_list PySem.F.slot_list_append PySem.F.type_list_append kS (pv 3)<|a_ (o_ Q_ (bH (pv 3)<|rX rY h_)<|xk hu (pv 0) (pv 4) h_ ⟨Z,Z,Z,Z⟩) d_) <|g_ (k_ (pv 3)),⟨sz (by simp),λr cE=>?_⟩⟩;have s0:=e_ (o:=.lst [.int 0]) cE;show⟨_,Z,_,Z,_,_,Z,Z,_,_,Z,⟨by lia,by lia,by lia,by lia⟩,(nO (n:=(hi+1-lo).toNat) (λi σ H2=>∃v4,σ=[some (.ref q),some (.int lo),some (.int hi),some (.ref r),v4]/\ae H H2/\H2 r=some (.lst (ju (Me.gv g) lo i))) ⟨none,Z,s0,c_⟩ ?_ ?_)⟩
  .rintro i σ H2 cY ⟨v4,rfl,s2,h2⟩;show⟨_,Z,.inl ⟨Z,_,ag.of h2⟩,_,Z,1,Z,?_⟩;have e1:=V9 (Me.gv g) lo i;show sP h2 e1 ⟨_,Z,q,Z,.inl ⟨_,.inl (s2 _ _ hq)⟩,_,Z,_,oH (.inl (s2 _ _ hq)),_,_,Z,xL _,⟨r,_,_,Z,Z,h2,bT (by rw[V8];lia),_,Z,D_ s2 cE,?_⟩⟩;rw[c_,Kg];rfl
  .rintro σ H2 ⟨v4,rfl,s2,h2⟩;show⟨_,Z,k r H2 cE s2 h2⟩
def Cu{qs:List Addr}{i:Nat}(hx:(qs.map V.ref)[i]?=some x):∃q:Addr,qs[i]?=some q/\x=.ref q:=by
 rw[a2E] at hx
 cases e:qs[i]? with
 | none=>rw[e] at hx;cases hx
 | some d=>rw[e] at hx;show⟨d,Z,(a2J hx).symm⟩
def Wa(f:Int->Int)(lo:Int)(h:s<=e):Mq.sm f lo e-Mq.sm f lo s=Mq.sm f (lo+s) (e-s):=by
 obtain⟨k,rfl⟩:=Nat.exists_eq_add_of_le h;rw[Mq.ue,a4A];lia
def Wb{rows:List (List (Int×Int))}(h:rows[i]?=some row)(a:Int)(n:Nat):Mq.pr (Me.fG (rows.take (i+1))) a n=Mq.pr (Me.fG (rows.take i)) a n*Mq.sm (λt=>Me.gv row t) a n:=by
 unfold Mq.pr Me.fG;rw[a2I,h];simp
def Kj:aI ["running_by_part","start","end","many","running"] ["running_by_part","start","end"] (f_ Bp):=⟨Z,Z,Z,by decide,Z,by decide,by decide⟩
def Wc(F:ay K "ways_within" "ways_within" Bp f fd):av P w K mg base aE 1 f fd ["running_by_part","start","end"] xZ:=by
 show F.ok Kj λak A outer s H vs Q E hr h=>?_
 .obtain⟨p,rs,rows,lo,n,st,e,rfl,hp,ra,iQ,hn,Wd,hen,k⟩:=h;have nd:=Kj.nd;show⟨_,b_ (j_ 3 h_) (b_ (Z_ PassesOwn.never Z (B_ (pv 0)) (u_ 4) (g_ (j_ 3 (o_ jh (pv 3) (o_ gA (bH (pv 4) (pv 2)) (bH (pv 4) (pv 1))))))) (g_ (k_ (pv 3)))),(⟨_,Z,p,Z,⟨_,ag.of hp⟩,kI (K:=K) (a:=p) (xs:=rs.map V.ref) (λi σ H'=>∃v4,σ=[some (.ref p),some (.int st),some (.int e),some (.int (Mq.pr (Me.fG (rows.take i)) (lo+st) (e-st))),v4]/\H=H') ⟨none,Z,Z⟩ (λi σ H' _ h=>by obtain⟨_,_,e⟩:=h;rw[<-e];show ag.of hp) ?_ ?_⟩)⟩
  .rintro i x σ H' hx ⟨v4,rfl,rfl⟩
   obtain⟨q,hq,rfl⟩:∃q:Addr,rs[i]?=some q/\x=.ref q:=by
    rw[a2E] at hx
    cases e:rs[i]? with
    | none=>rw[e] at hx;cases hx
    | some d=>rw[e] at hx;show⟨d,Z,(a2J hx).symm⟩
   obtain⟨row,hj,bJ⟩:=uh ra hq;have hl:=iQ row (a2A hj);have bd:=Me.Ke hl.val (lo+st) (e-st);show⟨_,Z,_,Z,_,Z,sP bJ (J_ (Kh (by lia))) ⟨_,Z,_,Z,sP bJ (J_ (Kh (by lia))) ⟨_,_,Z,Z,?_⟩⟩⟩;show (Wa _ _ Wd)▸?_;show⟨_,_,Z,Z,.inr ⟨by lia,by lia⟩,some (.ref q),?_,Z⟩;rw[Wb hj];rfl
  .rintro σ H' ⟨v4,rfl,rfl⟩;have el:(rs.map V.ref).length=rows.length:=by rw[a2x];show ra.length
   rw[el,a2M];show⟨_,Z,k⟩
inductive uj(vs:List V)(H:Hp)(Q:VK)(aq:XK):Prop
 | mk:∀(p:Addr) (qs:List Addr) (rows:List (List (Int×Int))) (d:Nat),(vs=[.ref p,.int d])->(H p=some (.lst (qs.map V.ref)))->(qQ H qs rows)->(0<rows.length)->(rows.length<=4)->((∀row∈rows,Me.fV row))->(∀H',ae H H'->Q (.int (Me.oP rows d)) H')->uj vs H Q aq
def Kk:aI ["ways_by_part","width","leasts","greatests","reach","first","last","running_by_part","count","start","end"] ["ways_by_part","width"] (f_ qx):=⟨Z,Z,Z,by decide,Z,by decide,by decide⟩
def We(F:ay K "count_spread_within" "count_spread_within" qx f fd)(T:Txt mg)(DR:ai P w K mg base 1 "running_counts" ["ways","low","high"] xY)(DW:ai P w K mg base 1 "ways_within" ["running_by_part","start","end"] xZ) : av P w K mg base aE 2 f fd ["ways_by_part","width"] uj:=by
 show F.ok Kk λak A outer s H vs Q E hr h=>?_
 .obtain⟨p,qs,rows,d,rfl,hp,wa,aZ,h4,iQ,k⟩:=h;have nd:=Kk.nd;show⟨_,b_ (wD (f_ qx) ["ways_by_part","width","leasts","greatests","reach","first","last","running_by_part","count","start","end"] [] [] (i:=2) nd Z (Or.inl Z) Z (B_ (pv 0)) (λcl C s H fp=>O_) (λcl C s H fp=>p_ (V7 Z) (by rfl) T.min boot_min (a_ (pv 0) d_)) (by decide) (by rfl)) (b_ (wD (f_ qx) ["ways_by_part","width","leasts","greatests","reach","first","last","running_by_part","count","start","end"] [] [] (i:=3) nd Z (Or.inl Z) Z (B_ (pv 0)) (λcl C s H fp=>O_) (λcl C s H fp=>p_ (V6 Z) (by rfl) T.max boot_max (a_ (pv 0) d_)) (by decide) (by rfl)) (b_ (j_ 4 (p_ (GU Z) (by rfl) T.min boot_min (a_ (pv 1) (a_ (o_ gA (p_ (BN Z) (by rfl) T.max boot_max (a_ (pv 3) d_)) (p_ (xa Z) (by rfl) T.min boot_min (a_ (pv 2) d_))) d_)))) (b_ (j_ 5 (p_ (GT Z) (by rfl) T.max boot_max (a_ (p_ (xa Z) (by rfl) T.min boot_min (a_ (pv 2) d_)) (a_ (o_ gA (p_ (BN Z) (by rfl) T.max boot_max (a_ (pv 2) d_)) (pv 4)) d_)))) (b_ (j_ 6 (p_ (xa Z) (by rfl) T.min boot_min (a_ (pv 3) d_))) (b_ (wD (f_ qx) ["ways_by_part","width","leasts","greatests","reach","first","last","running_by_part","count","start","end"] ["first","last","reach"] [5,6,4] (i:=7) nd Z (Or.inl Z) Z (B_ (pv 0)) (λcl C s H fp=>O_) (λcl C s H fp=>m_ DR hr (by rfl) (a_ (pv 0) (a_ (pv 1) (a_ (o_ Q_ (pv 2) (pv 3)) d_)))) (by decide) (by rfl)) (b_ (j_ 8 h_) (b_ (Z_ PassesOwn.never Z (kH (by rfl) T.range (a_ (o_ Q_ (o_ gA (pv 6) (pv 5)) h_) d_)) (u_ 9) (b_ (j_ 10 (o_ Q_ (o_ Q_ (pv 9) (pv 4)) h_)) (g_ (QD (i:=8) nd Z (Or.inl Z) (o_ gA (m_ DW hr (by rfl) (a_ (pv 7) (a_ (pv 9) (a_ (pv 10) d_)))) (m_ DW hr (by rfl) (a_ (pv 7) (a_ (o_ Q_ (pv 9) h_) (a_ (pv 10) d_))))) QF)))) (g_ (k_ (pv 8)))))))))),?_⟩;have lv:qs.length=rows.length:=wa.length;show⟨_,Z,p,Z,⟨_,ag.of hp⟩,z_ (K:=K) (a:=p) (xs:=qs.map V.ref) (λi ys H2=>ys=(Me.bN (rows.take i)).map V.int/\H=H2) ⟨Z,Z⟩ (λi ys H2 _ h=>by show h.2▸?_;show ag.of hp) ?_ ?_⟩
  .rintro i x ys H2 hx ⟨rfl,rfl⟩;obtain⟨q,hq,rfl⟩:=Cu hx;have jr:i<qs.length:=(a2z.mp hq).1;obtain⟨g,hj,hg⟩:=uh wa hq;have kl:=(iQ g (a2A hj)).ne;show⟨bT (by simp[Me.bN];lia),_,Z,q,aH g,Me.keys g,Z,.inl hg,by simp[aH,Me.keys],kl,?_,Z⟩;rw[a2I,hj];simp[Me.bN]
  rintro ys H2 ⟨rfl,rfl⟩ l1 h1;rw[a2x,lv,a2M];have s1:=e_ (o:=.lst ((Me.bN rows).map V.int)) h1;have u1:ad H l1 (.lst ((Me.bN rows).map V.int)) l1=some (.lst ((Me.bN rows).map V.int)):=c_;generalize ad H l1 (.lst ((Me.bN rows).map V.int))=H1 at s1 u1⊢;have kg:=s1 _ _ hp;have Wf:=wa.keep s1;show⟨_,Z,p,Z,⟨_,ag.of kg⟩,z_ (K:=K) (a:=p) (xs:=qs.map V.ref) (λi ys H2=>ys=(Me.cf (rows.take i)).map V.int/\H1=H2) ⟨Z,Z⟩ (λi ys H2 _ h=>by rw[<-h.2];show ag.of kg) ?_ ?_⟩
  .rintro i x ys H2 hx ⟨rfl,rfl⟩;obtain⟨q,hq,rfl⟩:=Cu hx;have jr:i<qs.length:=(a2z.mp hq).1;obtain⟨g,hj,hg⟩:=uh Wf hq;have kl:=(iQ g (a2A hj)).ne;show⟨bT (by simp[Me.cf];lia),_,Z,q,aH g,Me.keys g,Z,.inl hg,by simp[aH,Me.keys],kl,?_,Z⟩;rw[a2I,hj];simp[Me.cf]
  rintro ys H2 ⟨rfl,rfl⟩ l2 h2;rw[a2x,lv,a2M];have s2:=s1.trans (e_ (o:=.lst ((Me.cf rows).map V.int)) h2);have u2:ad H1 l2 (.lst ((Me.cf rows).map V.int)) l2=some (.lst ((Me.cf rows).map V.int)):=c_;have qR:=e_ (o:=.lst ((Me.cf rows).map V.int)) h2 _ _ u1;generalize ad H1 l2 (.lst ((Me.cf rows).map V.int))=H2 at s2 u2 qR⊢;have nl:0<(Me.bN rows).length:=by rw[Me.bN,a2x];show aZ
  have nh:0<(Me.cf rows).length:=by rw[Me.cf,a2x];show aZ
  have B:=Me.Ct aZ iQ;obtain⟨B1,B2,B3,B4,B5,B6⟩:=B;show⟨_,Z,_,Z,l2,_,Z,ag.of u2,nh,_,Z,l1,_,Z,ag.of qR,nl,_,_,Z,Z,_,_,Z,?_⟩;try dsimp only
  obtain⟨r,cE⟩:∃r:Nat,(r:Int)=if Ma.bA (Me.cf rows)-Ma.aQ (Me.bN rows)<(d:Int) then Ma.bA (Me.cf rows)-Ma.aQ (Me.bN rows) else (d:Int):=⟨(if Ma.bA (Me.cf rows)-Ma.aQ (Me.bN rows)<(d:Int) then Ma.bA (Me.cf rows)-Ma.aQ (Me.bN rows) else (d:Int)).toNat,by split <;> lia⟩;show cE▸?_;have rb:(r:Int)<=1620:=by split at cE <;> lia
  show⟨_,Z,l1,_,Z,ag.of qR,nl,_,Z,l1,_,Z,ag.of qR,nl,_,Z,_,_,Z,Z,_,_,Z,?_⟩;try dsimp only
  generalize hf:(if Ma.bA (Me.bN rows)-(r:Int)>Ma.aQ (Me.bN rows) then Ma.bA (Me.bN rows)-(r:Int) else Ma.aQ (Me.bN rows))=first;have fb : -2430<=first/\first<=810:=by rw[<-hf];split <;> lia
  show⟨_,Z,l2,_,Z,ag.of u2,nh,?_⟩;generalize j9:Ma.aQ (Me.cf rows)=last;rw[j9] at B4 B5;have cZ:=s2 _ _ hp;have Wg:=wa.keep s2;obtain⟨n,hn⟩:∃n:Nat,n=(last+(r:Int)+1-first).toNat:=⟨_,Z⟩;show⟨_,Z,p,Z,⟨_,ag.of cZ⟩,z_ (K:=K) (a:=p) (xs:=qs.map V.ref) (λi ys H3=>∃ts,ys=ts.map V.ref/\ts.length=i/\ae H2 H3/\ui H3 first n ts (rows.take i)) ⟨[],Z,Z,ae.refl _,.nil⟩ (λi ys H3 _ h=>by obtain⟨_,_,_,s',_⟩:=h;show ag.of (s' _ _ cZ)) ?_ ?_⟩
  .rintro i x ys H3 hx ⟨ts,rfl,cw,s3,ra⟩;obtain⟨q,hq,rfl⟩:=Cu hx;have jr:i<qs.length:=(a2z.mp hq).1;obtain⟨g,hj,hg⟩:=uh Wg hq;show⟨bT (by rw[a2x];lia),_,Z,_,Z,_,Z,_,Z,_,_,Z,Z,q,g,first,last+(r:Int),Z,s3 _ _ hg,by lia,by lia,by lia,by lia,λr' H4 Kl s4 h4=>⟨ts++[r'],by simp,by simp[cw],s3.trans s4,?_⟩⟩;rw[a2I,hj];rw[<-hn] at h4;show Paired.snoc (ra.keep s4) h4
  rintro ys H3 ⟨ts,rfl,cw,s3,ra⟩ l3 h3;rw[a2x,lv,a2M] at ra;have s4:=(s2.trans s3).trans (e_ (o:=.lst (ts.map V.ref)) h3);have Cv:=ra.keep (e_ (o:=.lst (ts.map V.ref)) h3);have u3:ad H3 l3 (.lst (ts.map V.ref)) l3=some (.lst (ts.map V.ref)):=c_;generalize ad H3 l3 (.lst (ts.map V.ref))=H4 at s4 Cv u3⊢;show⟨_,Z,_,Z,_,_,Z,Z,_,_,Z,Z,_,Z,by lia,by lia,?_⟩;have en:(last-first+1).toNat=(Ma.aQ (Me.cf rows)-first+1).toNat:=by rw[j9]
  show nO (lo:=0) (n:=(last-first+1).toNat) (λi σ H5=>∃v9 bP,σ=[some (.ref p),some (.int d),some (.ref l1),some (.ref l2),some (.int r),some (.int first),some (.int last),some (.ref l3),some (.int (Mq.sm (Mq.eL (Me.fG rows) r) first i)),v9,bP]/\H4=H5) ⟨none,none,?_,Z⟩ ?_ ?_;.rfl
  .rintro i σ H5 hi ⟨v9,bP,rfl,rfl⟩;show⟨_,Z,_,Z,_,_,Z,Z,_,_,Z,Z,?_⟩;try dsimp only
   show⟨_,Z,_,Z,_,Z,_,Z,l3,ts,rows,first,n,i,i+r+1,?_,u3,Cv,iQ,by lia,by lia,by lia,?_⟩
   .change[V.ref l3,V.int (0+(i:Int)),V.int (0+(i:Int)+(r:Int)+1)]=_;rw[a4v];push_cast;rfl
   show⟨_,Z,_,Z,_,_,Z,Z,_,Z,l3,ts,rows,first,n,i+1,i+r+1,?_,u3,Cv,iQ,by lia,by lia,by lia,?_⟩
   .change[V.ref l3,V.int (0+(i:Int)+1),V.int (0+(i:Int)+(r:Int)+1)]=_;rw[a4v];push_cast;rfl
   show⟨_,_,Z,Z,_,_,Z,Z,some (.int (0+(i:Int))),some (.int (0+(i:Int)+(r:Int)+1)),?_,Z⟩;have e1:i+r+1-i=r+1:=by lia
   have e2:i+r+1-(i+1)=r:=by lia
   have e3:first+((i+1:Nat):Int)=first+(i:Int)+1:=by push_cast;lia
   rw[e1,e2,e3];rfl
  .rintro σ H5 ⟨v9,bP,rfl,rfl⟩;show⟨_,Z,?_⟩;rw[en,Me.V5 aZ iQ cE hf.symm];show k _ s4
end Hv
namespace Ma
def num(b:Nat)(ds:List Nat):Nat:=ds.foldl (λx d=>x*b+d) 0
def Wh(b d:Nat)(l:List Nat):num b (l++[d])=num b l*b+d:=by
 unfold num;rw[a4u];rfl
def Km{ds:List Nat}(h:ds[i]?=some d):num b (ds.take (i+1))=num b (ds.take i)*b+d:=by
 rw[a2I,h];show Wh b d _
def a2l(b n L:Nat):Nat:=num b (aB b n L L).reverse
def Wi(hb:0<b)(hn:n<b ^ L):num b (aB b n L L)=n:=by
 have:∀i,i<=L->num b ((aB b n L L).take i)=n / b ^ (L-i):=by
  intro i
  induction i with
  | zero=>intro _;rw[List.take_zero,a4F,a4R hn];rfl
  | succ i ih =>
   intro hi;have cY:i<L:=hi;have g:(aB b n L L)[i]?=some (n / b ^ (L-1-i) % b):=by simp[aB,cY]
   rw[Km g,ih (by lia)];have e1:L-i=(L-1-i)+1:=by lia
   have e2:L-(i+1)=L-1-i:=by lia
   rw[e1,e2,a4c,<-a3L,a3N];show a4Y _ _
 have h:=this L (a2D _);rw[a4w,a4E,a5U,a3f (by rw[R_];show a2D _)] at h;show h
end Ma
namespace Hv
open PySem L2
def Cw{i:Nat}(h:(aA ds)[i]?=some x):∃y:Nat,ds[i]?=some y/\x=.int (y:Int):=by
 simp only[aA,a2E] at h
 cases e:ds[i]? with
 | none=>rw[e] at h;cases h
 | some d=>rw[e] at h;show⟨d,Z,(a2J h).symm⟩
inductive ya(vs:List V)(H:Hp)(Q:VK)(aq:XK):Prop
 | mk:∀(b:Nat) (r:Addr) (ds:List Nat),(vs=[.int b,.ref r])->(b<=16)->(H r=some (.lst (aA ds)))->(Q (.int ((Ma.num b ds:Nat):Int)) H)->ya vs H Q aq
def Kn:aI ["base","figures","number","figure"] ["base","figures"] (f_ Br):=⟨Z,Z,Z,by decide,Z,by decide,by decide⟩
def Wj(F:ay K "number_of" "number_of" Br f fd):av P w K mg base aE 1 f fd ["base","figures"] ya:=by
 show F.ok Kn λak A outer s H vs Q E hr h=>?_
 .obtain⟨b,r,ds,rfl,hb,hd,k⟩:=h;have nd:=Kn.nd;show⟨_,b_ (j_ 2 h_) <|b_ (Z_ PassesOwn.never Z (B_<|pv 1) (u_ 3)<|g_<|j_ 2<|o_ Q_ (o_ jh (pv 2)<|pv 0)<|pv 3) <|g_<|k_<|pv 2,(⟨_,Z,r,Z,⟨_,ag.of hd⟩,kI (K:=K) (a:=r) (xs:=aA ds) (λi σ H'=>H=H'/\∃v3,σ=[some (.int b),some (.ref r),some (.int ((Ma.num b (ds.take i):Nat):Int)),v3]) ⟨Z,none,Z⟩ (λi σ H' _ h=>by rw[<-h.1];show ag.of hd) ?_ ?_⟩)⟩
  .rintro i x σ H' hx ⟨rfl,v3,rfl⟩;obtain⟨y,hy,rfl⟩:=Cw hx;show⟨_,Z,_,Z,_,_,Z,Z,.inr ⟨by lia,by lia⟩,_,Z,_,_,Z,Z,Z,some<|.int  y ,?_⟩;rw[Ma.Km hy];rfl
  .rintro σ H' ⟨rfl,v3,rfl⟩;show⟨_,Z,?_⟩;have e:(aA ds).length=ds.length:=by simp[aA]
   rw[e,a2M];show k
end Hv
namespace L2
open PySem PySem.Spec PyProof.Rows
abbrev dB(h:Heap)(T:Addr)(a b c:Value):Prop:=h.get? T=some {cls:=.type "tuple",data:=.seq #[a,b,c]}
def Wk(a b c:Value):checkTypeCall "zip" ⟨[a,b,c],[]⟩=pure ():=by kernel_rfl
def Wl(a b c:Value):checkBuiltinCall "zip.__new__" ⟨[.type "zip",a,b,c],[]⟩=pure ():=by kernel_rfl
def Wm(a b c d:Value):argsOk "object.__init__" ⟨[a,b,c,d],[]⟩:=by unfold argsOk;kernel_rfl
structure Zd(z TI TO i1 i2 i3 l1 l2 l3:Addr):Prop where
 nd:[z,TI,TO,i1,i2,i3].Nodup
 f1:l1∉[z,TO,i1,i2,i3]
 f2:l2∉[z,TO,i1,i2,i3]
 f3:l3∉[z,TO,i1,i2,i3]
def Cy(hT:dB s.heap T a b c) (h:∀h',h'.get? T=some {cls:=.type "tuple",data:=.seq ((#[a,b,c]:Array Value).setIfInBounds k x)}->Heap.SameBut T s.heap h'->Q () {s with heap:=h'}) : wpAny (model prog w) A (updateSeq T (·.setIfInBounds k x)) Q E s:=by
 show wpAny_updateSeq hT Z<|h _ ?_<|a5I ..;rw[a3Y _ hT Z];simp[Obj.mapSeq]
def Wn{z TI TO i1 i2 i3 l1 l2 l3:Addr}{Q:Value->Shared->Prop}(D:Zd z TI TO i1 i2 i3 l1 l2 l3) (hz:IsZip s.heap z TI TO .none) (gj:dB s.heap TI (.ref i1) (.ref i2) (.ref i3)) (kh:dB s.heap TO a b c) (h1:s.heap.IsListIter i1 l1 k1) (h2:s.heap.IsListIter i2 l2 k2) (h3:s.heap.IsListIter i3 l3 k3) (bY:s.heap.IsList l1 xs) (aS:s.heap.IsList l2 ys) (dR:s.heap.IsList l3 zs) (hx:xs[k1]?=some x) (hy:ys[k2]?=some y) (hu:zs[k3]?=some u) (hQ:∀h',IsZip h' z TI TO (rawInt s.heap.objs.size)->dB h' TO x y u->h'.IsListIter i1 l1 (k1+1)->h'.IsListIter i2 l2 (k2+1)->h'.IsListIter i3 l3 (k3+1)->dB h' s.heap.objs.size x y u->h'.objs.size=s.heap.objs.size+1-> (∀c o,c∉[z,TO,i1,i2,i3]->s.heap.get? c=some o->h'.get? c=some o)->Q (.ref s.heap.objs.size) {s with heap:=h'}) : wpAny (model prog w) A (Builtin.«zip.__next__» ⟨[.ref z],[]⟩) (λfin s'=>∃v,fin=.done (.ret v)/\Q v s') E s:=by
 have nd:=D.nd;simp only[a3g,a2B,a2Q,or_false,not_or,not_false_eq_true,a5M,and_true] at nd;obtain⟨⟨yb,mH,mI,qS,qT⟩,⟨TITO,TIi1,TIi2,Cz⟩,⟨TOi1,TOi2,uk⟩,⟨i12,oR⟩,oS⟩:=nd;have f1:=D.f1;have f2:=D.f2;have f3:=D.f3;simp only[a2B,a2Q,or_false,not_or] at f1 f2 f3;obtain⟨l1z,Wo,Wp,Wq,Wr⟩:=f1;obtain⟨l2z,l2TO,l2i1,a2m,a2n⟩:=f2;obtain⟨Ws,Wt,Wu,Wv,a2o⟩:=f3;change wpAny _ _ (field (.ref z) 2>>=_) _ _ _;show wpAny_bind (wpAny_field hz Z (x:=.bool false) Z ?_);show wpAny_bind (wpAny_field hz Z Z (wpAny_bind (wpAny_seqItems gj Z ?_)));show wpAny_bind ?_;show wpAny_bind (wpAny_field hz Z Z (wpAny_pure ?_));show wpAny_bind (wpAny_rule ?_);show wpAny_bind (wpAny_field hz Z Z (wpAny_bind (wpAny_setField_rec hz (by simp) λH1 jt s1=>?_)));replace jt:IsZip H1 z TI TO .ellipsis:=jt;show wpAny_bind ?_;show wpAny_bind (wpAny_bind (wpAny_onRaise ?_));show wpAny_bind (wpAny_nextOf_list_item (h1.extBut s1.extBut (Ne.symm mI)) (bY.extBut s1.extBut l1z) hx λH2 q2 s2=>wpAny_pure ?_);have t2:dB H2 TO a b c:=s2.extBut _ _ TOi1 (s1.extBut _ _ (Ne.symm mH) kh);show wpAny_bind (wpAny_seqItems t2 Z (wpAny_bind (Cy t2 λH3 t3 s3=>?_)));replace t3:dB H3 TO x b c:=t3;show wpAny_bind (wpAny_letGo (wpAny_pure (wpAny_bind (wpAny_bind (wpAny_onRaise ?_)))));have oV:∀c o,c≠z->c≠TO->c≠i1->s.heap.get? c=some o->H3.get? c=some o:=λc o c1 c2 c3 e=>s3.extBut _ _ c2 (s2.extBut _ _ c3 (s1.extBut _ _ c1 e));show wpAny_bind (wpAny_nextOf_list_item (h2.at λo e=>oV _ o (Ne.symm qS) (Ne.symm TOi2) (Ne.symm i12) e) (Heap.IsList.at aS λo e=>oV _ o l2z l2TO l2i1 e) hy λH4 q4 s4=>wpAny_pure ?_);have t4:dB H4 TO x b c:=s4.extBut _ _ TOi2 t3;show wpAny_bind (wpAny_seqItems t4 Z (wpAny_bind (Cy t4 λH5 t5 s5=>?_)));replace t5:dB H5 TO x y c:=t5;show wpAny_bind (wpAny_letGo (wpAny_pure (wpAny_bind (wpAny_bind (wpAny_onRaise ?_)))));change wpAny _ _ (Builtin.SmallTypes.nextOf (.ref i3)>>=_) _ _ _;have um:∀c o,c≠z->c≠TO->c≠i1->c≠i2->s.heap.get? c=some o->H5.get? c=some o:=λc o c1 c2 c3 c4 e=>s5.extBut _ _ c2 (s4.extBut _ _ c4 (oV c o c1 c2 c3 e));show wpAny_bind (wpAny_nextOf_list_item (h3.at λo e=>um _ o (Ne.symm qT) (Ne.symm uk) (Ne.symm oR) (Ne.symm oS) e) (Heap.IsList.at dR λo e=>um _ o Ws Wt Wu Wv e) hu λH6 q6 s6=>wpAny_pure ?_);have t6:dB H6 TO x y c:=s6.extBut _ _ uk t5;show wpAny_bind (wpAny_seqItems t6 Z (wpAny_bind (Cy t6 λH7 t7 s7=>?_)));replace t7:dB H7 TO x y u:=t7;show wpAny_bind (wpAny_letGo (wpAny_pure (wpAny_pure (wpAny_bind (wpAny_seqItems t7 Z ?_)))));show wpAny_bind (wpAny_newTuple ?_);have hsz:H7.objs.size=s.heap.objs.size:=by rw[s7.1,s6.1,s5.1,s4.1,s3.1,s2.1,s1.1]
 have z3:IsZip H3 z TI TO .ellipsis:=s3.extBut _ _ mH (s2.extBut _ _ mI jt);have z7:IsZip H7 z TI TO .ellipsis:=s7.extBut _ _ mH (s6.extBut _ _ qT (s5.extBut _ _ mH (s4.extBut _ _ qS z3)))
 have Ww:∀c o,c∉[z,TO,i1,i2,i3]->s.heap.get? c=some o->H7.get? c=some o:=λc o hc e=>by
  simp only[a2B,a2Q,or_false,not_or] at hc;obtain⟨c1,c2,c3,c4,c5⟩:=hc;show s7.extBut _ _ c2 (s6.extBut _ _ c5 (um c o c1 c2 c3 c4 e))
 have r1:H7.IsListIter i1 l1 (k1+1):=q2.at λo e=>s7.extBut _ _ (Ne.symm TOi1) (s6.extBut _ _ oR (s5.extBut _ _ (Ne.symm TOi1) (s4.extBut _ _ i12 (s3.extBut _ _ (Ne.symm TOi1) e))));have r2:H7.IsListIter i2 l2 (k2+1):=q4.at λo e=>s7.extBut _ _ (Ne.symm TOi2) (s6.extBut _ _ oS (s5.extBut _ _ (Ne.symm TOi2) e));have r3:H7.IsListIter i3 l3 (k3+1):=q6.at λo e=>s7.extBut _ _ (Ne.symm uk) e;have uo:z<H7.objs.size:=a2C z7;change wpAny _ _ (Builtin.SmallTypes.ownedTupleHandOut (.ref z) (.ref H7.objs.size)>>=_) _ _ _;show wpAny_bind ?_;unfold Builtin.SmallTypes.ownedTupleHandOut;have z8:IsZip (H7.push {cls:=.type "tuple",data:=.seq #[x,y,u]}) z TI TO .ellipsis:=a2y _ z7;show wpAny_bind (wpAny_setField_rec z8 (by simp) λH8 w8 s8=>?_);replace w8:IsZip H8 z TI TO (rawInt H7.objs.size):=w8;show wpAny_setField_rec w8 (by simp) λH9 w9 s9=>?_;replace w9:IsZip H9 z TI TO (rawInt H7.objs.size):=w9;have up:∀c o,c≠z->H7.get? c=some o->H9.get? c=some o:=λc o c1 e=>s9.extBut _ _ c1 (s8.extBut _ _ c1 (a2y _ e));have t9:dB H9 H7.objs.size x y u:=s9.extBut _ _ (a3u uo) (s8.extBut _ _ (a3u uo) (a2F _ Z));have zz:H9.objs.size=H7.objs.size+1:=by rw[s9.1,s8.1,a3h]
 rw[hsz] at w9 t9 zz;show wpAny_pure ⟨_,Z,?_⟩;change Q (.ref H7.objs.size) _;rw[hsz];show hQ H9 w9 (up _ _ (Ne.symm mH) t7) (r1.at λo e=>up _ o (Ne.symm mI) e) (r2.at λo e=>up _ o (Ne.symm qS) e) (r3.at λo e=>up _ o (Ne.symm qT) e) t9 zz λc o hc e=>up c o (λq=>hc (by simp[q])) (Ww c o hc e)
def Wx{z TI TO i1 i2 i3 l1 l2 l3:Addr}(hh:A.handled=none)(D:Zd z TI TO i1 i2 i3 l1 l2 l3) (hz:IsZip s.heap z TI TO .none) (gj:dB s.heap TI (.ref i1) (.ref i2) (.ref i3)) (kh:dB s.heap TO a b c) (h1:s.heap.IsListIter i1 l1 k1) (bY:s.heap.IsList l1 xs) (ki:xs[k1]?=none) (hE:∀h' e,(∀c o,c∉[z,TO,i1,i2,i3]->s.heap.get? c=some o->h'.get? c=some o)->(∃o,h'.get? e=some o/\o.cls=.type "StopIteration")->E (.ref e) {s with heap:=h'}) : wpAny (model prog w) A (Builtin.«zip.__next__» ⟨[.ref z],[]⟩) Q E s:=by
 have nd:=D.nd;simp only[a3g,a2B,a2Q,or_false,not_or,not_false_eq_true,a5M,and_true] at nd;obtain⟨⟨yb,mH,mI,qS,qT⟩,⟨TITO,TIi1,TIi2,Cz⟩,⟨TOi1,TOi2,uk⟩,⟨i12,oR⟩,oS⟩:=nd;have f1:=D.f1;simp only[a2B,a2Q,or_false,not_or] at f1;obtain⟨l1z,Wo,Wp,Wq,Wr⟩:=f1;change wpAny _ _ (field _ 2>>=_) _ _ _;show wpAny_bind<|wpAny_field hz Z (x:=.bool _) Z ?_;show wpAny_bind<|wpAny_field hz Z Z (wpAny_bind (wpAny_seqItems gj Z ?_));show wpAny_bind ?_;show wpAny_bind<|wpAny_field hz Z Z<|wpAny_pure ?_;show wpAny_bind<|wpAny_rule ?_;show wpAny_bind<|wpAny_field hz Z Z (wpAny_bind (wpAny_setField_rec hz (by simp) λH1 jt s1=>?_));show wpAny_bind ?_;show wpAny_bind<|wpAny_bind<|wpAny_onRaise ?_;show wpAny_bind<|wpAny_nextOf_list_end hh (h1.extBut s1.extBut<|Ne.symm mI) (bY.extBut s1.extBut l1z) ki λH2 e s2 he=>?_;obtain⟨oe,oX,uq⟩:=he;have gJ:=s2 _ _ mI jt;have CA:e≠z:=λx=>by grind
 show wpAny_setField_rec gJ (by simp) λH3 _ s3=>hE H3 e (λc o hc x=>?_) ⟨oe,s3.extBut _ _ CA oX,uq⟩;simp only[a2B,a2Q,or_false,not_or] at hc;show s3.extBut _ _ hc.1<|s2 _ _ hc.2.2.1<|s1.extBut _ _ hc.1 x
def Wy{z TI TO i1 i2 i3 l1 l2 l3:Addr}(D:Zd z TI TO i1 i2 i3 l1 l2 l3) (hz:IsZip s.heap z TI TO .none) (gj:dB s.heap TI (.ref i1) (.ref i2) (.ref i3)) (kh:dB s.heap TO a b c) (h1:s.heap.IsListIter i1 l1 k1) (h2:s.heap.IsListIter i2 l2 k2) (h3:s.heap.IsListIter i3 l3 k3) (bY:s.heap.IsList l1 xs) (aS:s.heap.IsList l2 ys) (dR:s.heap.IsList l3 zs) (hx:xs[k1]?=some x) (hy:ys[k2]?=some y) (hu:zs[k3]?=some u) (hQ:∀h',IsZip h' z TI TO (rawInt s.heap.objs.size)->dB h' TO x y u->h'.IsListIter i1 l1 (k1+1)->h'.IsListIter i2 l2 (k2+1)->h'.IsListIter i3 l3 (k3+1)->dB h' s.heap.objs.size x y u->h'.objs.size=s.heap.objs.size+1-> (∀c o,c∉[z,TO,i1,i2,i3]->s.heap.get? c=some o->h'.get? c=some o)->Q (some (.ref s.heap.objs.size)) {s with heap:=h'}) : wpAny (model prog w) A (pyNext (.ref z)) Q E s:=by
 have hT:s.TypeIs (.ref z) "zip":=⟨_,hz,Z⟩;show wpAny_bind<|wpAny_attempt<|wpAny_callSpecial?_slot hT F.slot_zip_next <|wpAny_call_entry F.slot_zip_next hT F.entry_zip_next (Wn D hz gj kh h1 h2 h3 bY aS dR hx hy hu λh' a1 a2 a3 a4 a5 a6 a7 a8=>wpAny_pure<|hQ h' a1 a2 a3 a4 a5 a6 a7 a8)<|F.args_zip_next_1 _
def Wz{z TI TO i1 i2 i3 l1 l2 l3:Addr}(hh:A.handled=none)(D:Zd z TI TO i1 i2 i3 l1 l2 l3) (hz:IsZip s.heap z TI TO .none) (gj:dB s.heap TI (.ref i1) (.ref i2) (.ref i3)) (kh:dB s.heap TO a b c) (h1:s.heap.IsListIter i1 l1 k1) (bY:s.heap.IsList l1 xs) (ki:xs[k1]?=none) (hQ:∀h',(∀c o,c∉[z,TO,i1,i2,i3]->s.heap.get? c=some o->h'.get? c=some o)->Q none {s with heap:=h'}):wpAny (model prog w) A (pyNext (.ref z)) Q E s:=by
 have hT:s.TypeIs (.ref z) "zip":=⟨_,hz,Z⟩;show wpAny_bind<|wpAny_attempt<|wpAny_callSpecial?_slot hT F.slot_zip_next <|wpAny_call_entry F.slot_zip_next hT F.entry_zip_next (Wx hh D hz gj kh h1 bY ki λh' e hk he=>?_)<|F.args_zip_next_1 _;obtain⟨o,ho,hc⟩:=he;show wpAny_bind<|wpAny_isInstance ⟨o,ho,hc⟩ isSubtype_stop (wpAny_pure (hQ _ hk))
abbrev yc(h:Heap)(l1:Addr):Heap:=h.push {cls:=.type "list_iterator",data:=.fields #[.ref l1,.int 0 0]}
abbrev yd(h:Heap)(l1 l2:Addr):Heap:=(yc h l1).push {cls:=.type "list_iterator",data:=.fields #[.ref l2,.int 0 0]}
abbrev ye(h:Heap)(l1 l2 l3:Addr):Heap:=(yd h l1 l2).push {cls:=.type "list_iterator",data:=.fields #[.ref l3,.int 0 0]}
abbrev yf(h:Heap)(l1 l2 l3:Addr):Heap:=(ye h l1 l2 l3).push {cls:=.type "tuple",data:=.seq #[.ref h.objs.size,.ref (yc h l1).objs.size,.ref (yd h l1 l2).objs.size]}
abbrev yg(h:Heap)(l1 l2 l3:Addr):Heap:=(yf h l1 l2 l3).push {cls:=.type "tuple",data:=.seq #[.none,.none,.none]}
abbrev oY(h:Heap)(l1 l2 l3:Addr):Heap:=(yg h l1 l2 l3).push {cls:=.type "zip",data:=.fields #[.none,.bool false,.bool false,.ref (ye h l1 l2 l3).objs.size,.ref (yf h l1 l2 l3).objs.size]}
def WA(l1 l2 l3:Addr)(xs ys zs:Array Value) : Meets (Builtin.«zip.__new__» ⟨[.type "zip",.ref l1,.ref l2,.ref l3],[]⟩) (λ_ R s=>s.heap.IsList l1 xs/\s.heap.IsList l2 ys/\s.heap.IsList l3 zs/\ R (.ok (.ret (.ref (yg s.heap l1 l2 l3).objs.size))) {s with heap:=oY s.heap l1 l2 l3}) :=
 .of_wp λprog w A R s h=>by
  obtain⟨hp,g,d,tk,os⟩:=s;obtain⟨bY,aS,dR,h⟩:=h;have tZ:=sub_zip;have CB:Heap.IsList (Shared.heap ⟨hp,g,d,tk,os⟩) l1 xs:=bY;have CC:Heap.IsList (Shared.heap ⟨hp.push {cls:=.type "list_iterator",data:=.fields #[.ref l1,.int 0 0]},g,d,tk,os⟩) l2 ys:=a5t aS _;have WB:Heap.IsList (Shared.heap ⟨(hp.push {cls:=.type "list_iterator",data:=.fields #[.ref l1,.int 0 0]}).push {cls:=.type "list_iterator",data:=.fields #[.ref l2,.int 0 0]},g,d,tk,os⟩) l3 zs:=a5t (a5t dR _) _;wp_walk using wpAny_pyIter_list CB,wpAny_pyIter_list CC,wpAny_pyIter_list WB;show⟨_,Z,h⟩
def WC(n:Nat):List.Nodup [n+5,n+3,n+4,n,n+1,n+2]:=by simp
def WD(h1:l1<n)(h2:l2<n)(h3:l3<n):Zd (n+5) (n+3) (n+4) n (n+1) (n+2) l1 l2 l3:=by
 have aL:∀l:Nat,l<n->l∉[ n +5,n+4,n,n+1,n+2]:=λl hl z=>by grind
 show⟨(WC n),aL l1 h1,aL l2 h2,aL l3 h3⟩
section
variable{s:Shared}
def WE(bY:s.heap.IsList l1 xs)(aS:s.heap.IsList l2 ys)(dR:s.heap.IsList l3 zs) (h:∀h',IsZip h' (s.heap.objs.size+5) (s.heap.objs.size+3) (s.heap.objs.size+4) .none->dB h' (s.heap.objs.size+3) (.ref s.heap.objs.size) (.ref (s.heap.objs.size+1)) (.ref (s.heap.objs.size+2))-> dB h' (s.heap.objs.size+4) .none .none .none->h'.IsListIter s.heap.objs.size l1 0->h'.IsListIter (s.heap.objs.size+1) l2 0->h'.IsListIter (s.heap.objs.size+2) l3 0-> (∀c o,s.heap.get? c=some o->h'.get? c=some o)->Q (.ref (s.heap.objs.size+5)) {s with heap:=h'}) : wpAny (model prog w) A (call (.type "zip") [.ref l1,.ref l2,.ref l3]) Q E s:=by
 show callType_new F.called_zip (by decide) (Wk _ _ _) (Wl _ _ _) (λobj=>Wm obj _ _ _) F.entry_zip_new (WA l1 l2 l3 xs ys zs) ⟨bY,aS,dR,?_⟩;have e1:(yc s.heap l1).objs.size=s.heap.objs.size+1:=a3h ..;have e2:(yd s.heap l1 l2).objs.size=s.heap.objs.size+2:=by rw[a3h,e1]
 have e3:(ye s.heap l1 l2 l3).objs.size=s.heap.objs.size+3:=by rw[a3h,e2]
 have e4:(yf s.heap l1 l2 l3).objs.size=s.heap.objs.size+4:=by rw[a3h,e3]
 have e5:(yg s.heap l1 l2 l3).objs.size=s.heap.objs.size+5:=by rw[a3h,e4]
 have g6:(oY s.heap l1 l2 l3).get? (yg s.heap l1 l2 l3).objs.size=some _:=a2F _ Z;have g5:(oY s.heap l1 l2 l3).get? (yf s.heap l1 l2 l3).objs.size=some _:=a2y _ (a2F _ Z);have g4:(oY s.heap l1 l2 l3).get? (ye s.heap l1 l2 l3).objs.size=some _:=a2y _ (a2y _ (a2F _ Z));have g3:(oY s.heap l1 l2 l3).get? (yd s.heap l1 l2).objs.size=some _:=a2y _ (a2y _ (a2y _ (a2F _ Z)));have g2:(oY s.heap l1 l2 l3).get? (yc s.heap l1).objs.size=some _:=a2y _ (a2y _ (a2y _ (a2y _ (a2F _ Z))));have g1:(oY s.heap l1 l2 l3).get? s.heap.objs.size=some _:=a2y _ (a2y _ (a2y _ (a2y _ (a2y _ (a2F _ Z)))));rw[e3,e4,e5] at g6;rw[e1,e2,e3] at g4;rw[e4] at g5;rw[e2] at g3;rw[e1] at g2;rw[e5];show⟨⟨_,g6,Z⟩,h _ g6 g4 g5 ⟨_,g1,Z,Z⟩ ⟨_,g2,Z,Z⟩ ⟨_,g3,Z,Z⟩ λc o x => a2y _ (a2y _ (a2y _ (a2y _ (a2y _ (a2y _ x)))))⟩
end
def ur(K:PySem.W.Frag)(a b c:Addr):It := ⟨λi H=>∃xs ys zs x y u,ag K H a xs/\ag K H b ys/\ag K H c zs/\xs[i]?=some x/\ys[i]?=some y/\zs[i]?=some u, λi H v H'=>∃t x y u,v=.ref t/\H t=none/\(∀xs,ag K H a xs->xs[i]?=some x)/\(∀ys,ag K H b ys->ys[i]?=some y)/\(∀zs,ag K H c zs->zs[i]?=some u)/\H'=ad H t (.tup [x,y,u]), λi H=>∃xs,ag K H a xs/\xs.length<=i⟩
def WF{K:PySem.W.Frag}(a b c z TI TO i1 i2 i3:Addr)(D:Zd z TI TO i1 i2 i3 a b c):jQ P w K (.Tuple elts x1 pos) (ur K a b c) [z,TI,TO,i1,i2,i3] z (λi h=>IsZip h z TI TO .none/\dB h TI (.ref i1) (.ref i2) (.ref i3)/\(∃u v t,dB h TO u v t)/\h.IsListIter i1 a i/\h.IsListIter i2 b i/\h.IsListIter i3 c i) where
 mem:=by simp
 obj:=λi h st e hb=>by
  obtain⟨h1,h2,⟨u,v,t,h3⟩,⟨o4,h4,_,d4⟩,⟨o5,h5,_,d5⟩,⟨o6,h6,_,d6⟩⟩:=st;simp only[a2B,a2Q,or_false] at hb;rcases hb with rfl | rfl | rfl | rfl | rfl | rfl;.simp_all
  .simp_all
  .simp_all
  .simp_all
  .simp_all
  .show⟨o6,h6,λv z=>by rw[d6] at z;cases z⟩
 keep:=λi h h' st k=>by
  obtain⟨h1,h2,⟨u,v,t,h3⟩,h4,h5,h6⟩:=st;show⟨k z (by simp) _ h1,k TI (by simp) _ h2,⟨u,v,t,k TO (by simp) _ h3⟩,h4.at λo q=>k i1 (by simp) o q,h5.at λo q=>k i2 (by simp) o q,h6.at λo q=>k i3 (by simp) o q⟩
 item:=by
  intro X hP hw hK hc i aa s σ H E I hf st hg;subst hP hw hK;have nd:=D.nd;simp only[a3g,a2B,a2Q,or_false,not_or,not_false_eq_true,a5M,and_true] at nd;obtain⟨⟨yb,mH,mI,qS,qT⟩,⟨TITO,TIi1,TIi2,Cz⟩,⟨TOi1,TOi2,uk⟩,⟨i12,oR⟩,oS⟩:=nd;obtain⟨h1,h2,⟨u0,v0,t0,h3⟩,h4,h5,h6⟩:=st;obtain⟨xs,ys,zs,x,y,y3,ek,fR,yh,hx,hy,tW⟩:=hg;obtain⟨af,rv,p,hz⟩:=I.list ek;obtain⟨qr,cR,p',mn⟩:=I.list fR;obtain⟨WG,WH,p3,WI⟩:=I.list yh;obtain⟨u,hu,ru⟩:=rv.get hx;obtain⟨v,hv,mq⟩:=cR.get hy;obtain⟨t,ht,WJ⟩:=WH.get tW;have e1:=a2C h1
  have sJ:∀e∈[z,TI,TO,i1,i2,i3],∃o,s.heap.get? e=some o:=λe hb=>by
   obtain⟨o4,q4,_⟩:=h4;obtain⟨o5,q5,_⟩:=h5;obtain⟨o6,q6,_⟩:=h6;simp only[a2B,a2Q,or_false] at hb;rcases hb with rfl | rfl | rfl | rfl | rfl | rfl;.show⟨_,h1⟩
   .show⟨_,h2⟩
   .show⟨_,h3⟩
   .show⟨_,q4⟩
   .show⟨_,q5⟩
   .show⟨_,q6⟩
  show Wy D h1 h2 h3 h4 h5 h6 p.isList p'.isList p3.isList (by simpa using hu) (by simpa using hv) (by simpa using ht) λh' g1 g2 g3 g4 WK g5 g6 g7=>⟨_,Z,(wpAny_letOwnedTupleGo_zip g1 λgF g8 g9=>?_)⟩
  have kk:∀e o,e∉[z,TI,TO,i1,i2,i3]->s.heap.get? e=some o->gF.get? e=some o:=λe o hb q=>by
   simp only[a2B,a2Q,or_false,not_or] at hb;show g9.extBut e o hb.1 (g7 e o (by simp only[a2B,a2Q,or_false,not_or];show⟨hb.1,hb.2.2.1,hb.2.2.2.1,hb.2.2.2.2.1,hb.2.2.2.2.2⟩) q)
  have tT:=g9.extBut _ _ (a3u e1) g5;have I1:=I.A4 (t':=s.toks) (o:=.tup [x,y,y3]) kk hf (a2D _) ⟨by change 3<=sizeLine;decide,[u,v,t],.cons ru (.cons mq (.cons WJ .nil)),⟨_,tT,Z,_,Z⟩⟩;have hn:=I.am.fresh (a2D _);show⟨.ref s.heap.objs.size,_,I1,Z,⟨_,x,y,y3,Z,hn,λzs di=>by rw[I.nD di ek];show hx,λzs di=>by rw[I.nD di fR];show hy,λzs di=>by rw[I.nD di yh];show tW,Z⟩,⟨g8,?_,⟨u,v,t,?_⟩,?_,?_,?_⟩,λe hb=>?_⟩;.show g9.extBut _ _ (Ne.symm yb) (g7 _ _ (by simp only[a2B,a2Q,or_false,not_or];show⟨Ne.symm yb,TITO,TIi1,TIi2,Cz⟩) h2)
  .show g9.extBut _ _ (Ne.symm mH) g2
  .show g3.extBut g9.extBut (Ne.symm mI)
  .show g4.extBut g9.extBut (Ne.symm qS)
  .show WK.extBut g9.extBut (Ne.symm qT)
  .obtain⟨f0,_⟩:=hf e hb;obtain⟨o,q⟩:=sJ e hb;rw[i_ (a2V (a2C q))];show f0
 done:=by
  intro X hP hw hK hc i aa s σ H E I hf st hg;subst hP hw hK;obtain⟨h1,h2,⟨u0,v0,t0,h3⟩,h4,h5,h6⟩:=st;obtain⟨xs,ek,hx⟩:=hg;obtain⟨af,rv,p,hz⟩:=I.list ek;have hl:=rv.length;show Wz (I.ok.hd hc) D h1 h2 h3 h4 p.isList (by simp;lia) λh' eb=>⟨Z,I.A5 (λe o hb q=>eb e o (λz'=>hb ?_) q) hf⟩;simp only[a2B,a2Q,or_false] at z'⊢;rcases z' with r | r | r | r | r <;> simp[r]
 self:=λ_ _ _ _ _ st h=>wpAny_pyIter_zip st.1 h
section
variable{elts:List Expr}{p pos jU:Pos}
inductive Ko(K:PySem.W.Frag)(R:It->Hp->Prop)(x:V)(y:V)(u:V)(H3:Hp):Prop
 | mk:∀a b c,(x=.ref a)->(y=.ref b)->(u=.ref c)->((∃xs,ag K H3 a xs))->((∃ys,ag K H3 b ys))->((∃zs,ag K H3 c zs))->(R (ur K a b c) H3)->Ko K R x y u H3
def WL(K:PySem.W.Frag)(tl gG yi:TE):TI:=fun σ H R=>tl σ H λx H1=>gG σ H1 λy H2=>yi σ H2 (Ko K R x y)
def WM{x1}(hg:Gl X "zip")(hm:X.mg "zip"=none)(hl:PE X l tl)(aS:PE X l2 gG)(dR:PE X l3 yi)(hs:starEach [l,l2,l3] X.env=[(false,eval l X.env),(false,eval l2 X.env),(false,eval l3 X.env)]:=by rfl)(gz:starEach [l2,l3] X.env=[(false,eval l2 X.env),(false,eval l3 X.env)]:=by rfl) : PI X (.Tuple elts x1 jU) (.Call (.Name "zip" p) [l,l2,l3] [] pos) (WL X.K tl gG yi):=by
 show λaa s σ H R I h=>Call_<|jd I hg hm boot_zip<|PyProof.Rows.callWith_type1 ?_ (by rw[hs,gz])<|by rw[gz];rfl
 show hs▸?_;show Calls.spliced_cons<|ar (hl aa s σ H _ I h) λu s1 ⟨x,H1,I1,r1,q1⟩=>Calls.spliced_cons<|ar (aS aa s1 σ H1 _ I1 q1) λu2 s2 ⟨y,H2,I2,r2,q2⟩=>Calls.spliced_cons<|ar (dR aa s2 σ H2 _ I2 q2) λu3 s3 ⟨y3,H3,I3,r3,q3⟩=>Calls.spliced_nil ?_;obtain⟨a,b,c,rfl,rfl,rfl,⟨xs,ek⟩,⟨ys,fR⟩,⟨zs,yh⟩,q⟩:=q3;cases r1;cases r2;cases r3;obtain⟨af,rv,pl,hz⟩:=I3.list ek;obtain⟨qr,mq,mr,mn⟩:=I3.list fR;obtain⟨WG,rv3,Kq,WI⟩:=I3.list yh;have la:a<s3.heap.objs.size:=by obtain⟨_,e,_⟩:=pl.isList;show a2C e
 have lb:b<s3.heap.objs.size:=by obtain⟨_,e,_⟩:=mr.isList;show a2C e
 have lc:c<s3.heap.objs.size:=by obtain⟨_,e,_⟩:=Kq.isList;show a2C e
 show WE pl.isList mr.isList Kq.isList λh' g1 g2 g3 g4 g5 g6 g7=>?_;have D:=WD la lb lc;have T:=WF (P:=X.prog) (w:=X.w) (K:=X.K) (elts:=elts) (x1:=x1) (pos:=jU) a b c _ _ _ _ _ _ D;show T.self _ 0 _ _ _ ⟨g1,g2,⟨_,_,_,g3⟩,g4,g5,g6⟩ (⟨s3.heap.objs.size+5,_,_,_,H3,Z,I3.kept (t':=s3.toks) g7,T,⟨g1,g2,⟨_,_,_,g3⟩,g4,g5,g6⟩,λe hb=>?_,q⟩)
 have bO:s3.heap.objs.size<=e:=by
  simp only[a2B,a2Q,or_false] at hb;rcases hb with rfl | rfl | rfl | rfl | rfl | rfl;.show a3t _ _
  .show a3t _ _
  .show a3t _ _
  .show a2D _
  .show a3t _ _
  .show a3t _ _
 show I3.nJ bO<|I3.am.fresh bO
end
def WN{K:PySem.W.Frag}{g:TG}{tb:TS}{D:Ends}(Pv:Nat->St->Hp->Prop)(bE:xs.length=ys.length)(VP:xs.length=zs.length)(h0:Pv 0 σ H)(hl:∀i σ H,i<=xs.length->Pv i σ H->ag K H a xs/\ag K H b ys/\ag K H c zs) (hs:∀i x y u σ H t,xs[i]?=some x->ys[i]?=some y->zs[i]?=some u->Pv i σ H->H t=none->g (.ref t) σ (ad H t (.tup [x,y,u])) λbI H2=>tb {D with nx:=Pv (i+1),ct:=Pv (i+1),bk:=D.nx} bI H2) (hd:∀ σ H,Pv xs.length σ H->D.nx σ H) : ∃W:Nat->Nat->St->Hp->Prop,(∃m,W 0 m σ H)/\∀i m σ H,W i m σ H-> ((ur K a b c).stop i H/\D.nx σ H)\/((ur K a b c).go i H/\∃N:St->Hp->Prop,(∀ aF H',N aF H'->∃m',m'<m/\W (i+1) m' aF H')/\∀x H',(ur K a b c).gy i H x H'->g x σ H' λbI H2=>tb {D with nx:=N,ct:=N,bk:=D.nx} bI H2):=by
 show⟨λi m σ H=>m=xs.length-i/\i<=xs.length/\Pv i σ H,⟨xs.length,by simp,a3q _,h0⟩,?_⟩;rintro i m σ H ⟨rfl,hi,p⟩;obtain⟨q1,q2,q3⟩:=hl i σ H hi p;by_cases aJ:i<xs.length
 .have e1:xs[i]?=some xs[i]:=by simp[aJ]
  have e2:ys[i]?=some (ys[i]'(by lia)):=by simp
  have e3:zs[i]?=some (zs[i]'(by lia)):=by simp
  show .inr ⟨⟨xs,ys,zs,_,_,_,q1,q2,q3,e1,e2,e3⟩,Pv _,λaF H' p'=>⟨xs.length-(i+1),by lia,Z,aJ,p'⟩,λv H' y=>?_⟩;obtain⟨t,x,y,u,rfl,ht,y1,y2,y3,rfl⟩:=y;show hs i x y u σ H t (y1 xs q1) (y2 ys q2) (y3 zs q3) p ht
 .have e:i=xs.length:=by lia
  subst e;show .inl ⟨⟨xs,q1,a2D _⟩,hd σ H p⟩
def WO{K:PySem.W.Frag}{G:V->Hp->(List V->Hp->Prop)->List V->Prop}{Fin:List V->Hp->Prop}(Pv:Nat->List V->Hp->Prop)(bE:xs.length<=ys.length)(h0:Pv 0 [] H) (hl:∀i zs H,i<=xs.length->Pv i zs H->ag K H a xs/\ag K H b ys) (hz:∀i zs H,i<xs.length->Pv i zs H->zs.length<sizeLine) (hs:∀i x y zs H t,xs[i]?=some x->ys[i]?=some y->Pv i zs H->H t=none->G (.ref t) (ad H t (.tup [x,y])) (Pv (i+1)) zs) (hd:∀zs H,Pv xs.length zs H->Fin zs H) : ∃W:Nat->Nat->List V->Hp->Prop,(∃m,W 0 m [] H)/\∀i m zs H,W i m zs H-> ((ml K a b).stop i H/\Fin zs H)\/((ml K a b).go i H/\zs.length<sizeLine/\∃Nx:List V->Hp->Prop,(∀cD H',Nx cD H'->∃m',m'<m/\W (i+1) m' cD H')/\∀x H',(ml K a b).gy i H x H'->G x H' Nx zs):=by
 show⟨λi m zs H=>m=xs.length-i/\i<=xs.length/\Pv i zs H,⟨xs.length,by simp,a3q _,h0⟩,?_⟩;rintro i m zs H ⟨rfl,hi,p⟩;obtain⟨q1,q2⟩:=hl i zs H hi p;by_cases aJ:i<xs.length
 .have e1:xs[i]?=some xs[i]:=by simp[aJ]
  have e2:ys[i]?=some (ys[i]'(by lia)):=by simp
  show .inr ⟨⟨xs,ys,_,_,q1,q2,e1,e2⟩,hz i zs H aJ p,Pv _,λcD H' p'=>⟨xs.length-(i+1),by lia,Z,aJ,p'⟩,λv H' y=>?_⟩;obtain⟨t,x,y,rfl,ht,y1,y2,rfl⟩:=y;show hs i x y zs H t (y1 xs q1) (y2 ys q2) p ht
 .have e:i=xs.length:=by lia
  subst e;show .inl ⟨⟨xs,ys,q1,q2,.inl<|a2D _⟩,hd zs H p⟩
end L2
namespace Hv
open PySem L2
abbrev wz(ds:List Nat)(ws:List Int):List Int:=List.zipWith (λ(d:Nat) (x:Int)=>(d:Int)*x) ds ws
def WP{i d:Nat}(h1:ds[i]?=some d)(h2:ws[i]?=some x):(wz ds ws)[i]?=some ((d:Int)*x):=by simp[wz,a4r,h1,h2]
def WQ{ws:List Int}{i:Nat}(h:(ws.map V.int)[i]?=some x):∃y:Int,ws[i]?=some y/\x=.int y:=by
 rw[a2E] at h
 cases e:ws[i]? with
 | none=>rw[e] at h;cases h
 | some d=>rw[e] at h;show⟨d,Z,(a2J h).symm⟩
inductive yj(vs:List V)(H:Hp)(Q:VK)(aq:XK):Prop
 | mk:∀(r c:Addr) (ds:List Nat) (ws:List Int),(vs=[.ref r,.ref c])->(H r=some (.lst (aA ds)))->(H c=some (.lst (ws.map V.int)))->((∀x∈ws,-9<=x/\x<=9))->(ds.length<=ws.length)->(ws.length<=6)->(∀H',ae H H'->Q (.int (wz ds ws).sum) H')->yj vs H Q aq
def WR:aI ["figures","weights"] ["figures","weights"] (f_ sS):=⟨Z,Z,Z,by decide,Z,by decide,by decide⟩
def WS(F:ay K "weighted_sum" "weighted_sum" sS f fd)(T:Txt mg):av P w K mg base aE 1 f fd ["figures","weights"] yj:=by
 show F.ok WR λak A outer s H vs Q E hr h=>?_
 .obtain⟨r,c,ds,ws,rfl,h1,h2,hw,hl,oZ,k⟩:=h;have fh:List.Nodup (["figure","weight"]:List Str):=by decide
  show⟨_,g_<|k_<|p_ (Cg Z) (by rfl) T.sum boot_sum<|a_ (wB (fr:=[]) (qk (sc:=f_ sS) (NX:=["figures","weights"]) (k:=2) (fr:=[]) Z Z<|by decide) (ql (sc:=f_ sS) (NX:=["figures","weights"]) Z<|by decide) Z (Ib (by rfl) T.zip (pv 0)<|pv 1) (λcl C s H fp=>sL K Z Z<|W_ (u_ 0 (hN:=fh))<|W_ (u_ 1 (hN:=fh)) p7) Ba (λcl C s H fp=>O_)<|λcl C s H fp=>o_ jh (pv 0)<|pv 1) d_,(⟨_,Z,_,Z,r,c,Z,Z,⟨_,ag.of h1⟩,⟨_,ag.of h2⟩,WO (K:=K) (a:=r) (b:=c) (xs:=aA ds) (ys:=ws.map V.int) (λi zs H'=>zs=((wz ds ws).take i).map V.int/\ae H H') (by simp[aA];lia) ⟨by simp,ae.refl _⟩ (λi zs H' _ p=>⟨ag.of (p.2 _ _ h1),ag.of (p.2 _ _ h2)⟩) (λi zs H' hi p=>bT (by rw[p.1,a2x,a3a];simp[aA] at hi;lia)) ?_ ?_⟩)⟩
  .rintro i x y zs H' t hx hy ⟨rfl,s2⟩ ht;obtain⟨d,hd,rfl⟩:=Cw hx;obtain⟨x,qU,rfl⟩:=WQ hy;have Vl:=hw x (a2A qU);show⟨t,_,Z,aP.of c_,Z,_,_,Z,_,_,Z,Z,_,Z,_,Z,_,_,Z,Z,.inr ⟨by lia,by lia⟩,?_,D_ s2<|s2.free ht⟩;rw[a2I,WP hd qU];simp
  rintro zs H' ⟨rfl,s2⟩ wl iG;have e1:(aA ds).length=(wz ds ws).length:=by simp[aA,wz];lia
  show e1▸a2M▸?_;show⟨wl,_,Z,ag.of c_,k _<|D_ s2<|s2.free iG⟩
end Hv
namespace Mq
theorem Kr{f:Int->Int}{a k:Int}:∀ {n:Nat},a<=k->k<a+n->sm f a n=sm (λt=>if t=k then 0 else f t) a n+f k
 | 0,h1,h2=>by lia
 | n+1,h1,h2=>by
  simp only[sm];by_cases e:a+ n =k
  .rw[if_pos e,e];have:sm f a n=sm (λt=>if t=k then 0 else f t) a n:=lA λt _ h=>by rw[if_neg (by lia)]
   show this▸?_;lia
  .rw[if_neg e,Kr h1 (by push_cast at h2;lia)];lia
theorem Ks{a:Int}{n:Nat}:∀ {ks:List Int} {f:Int->Int},ks.Nodup->(∀k∈ks,a<=k/\k<a+n)->(∀t,t∉ks->f t=0)->(ks.map f).sum=sm f a n
 | [],f,_,_,z=>by
  rw[iR λt _ _=>z t (by simp)];rfl
 | k::ks,f,nd,h,z=>by
  obtain⟨n1,n2⟩:=a3g.mp nd;rw[Kr (h k (by simp)).1 (h k (by simp)).2]
  have ih:=Ks (f:=λt=>if t=k then 0 else f t) n2 (λq hq=>h q (by simp[hq])) (λt ht=>by
   by_cases e:t=k;.rw[if_pos e]
   .rw[if_neg e];show z t (by simp[e,ht]));rw[<-ih,a2X,a3d];have e:ks.map (λt=>if t=k then 0 else f t)=ks.map f:=a3C λt ht=>if_neg (λ z =>n1 (by show z▸?_;show ht));rw[e];lia
end Mq
namespace Me
open Mq
def WT(b:Nat)(rows:List (List Int))(t:Int):0<=dq b rows t:=J8 _ 1 (by decide)
theorem Kt{b:Nat}{rows:List (List Int)}:∀ks:List Int,((ks.filter λk=>decide (0<dq b rows k)).map (dq b rows)).sum=(ks.map (dq b rows)).sum
 | []=>rfl
 | k::ks=>by
  have ih:=Kt (b:=b) (rows:=rows) ks;by_cases h:0<dq b rows k;.simp_all
  .have:dq b rows k=0:=by have:=WT b rows k;lia
   rw[List.filter_cons_of_neg (by simpa using h),a2X,a3d,ih,this];lia
def WU(b:Nat)(rows:List (List Int))(ks:List Int):dm (eI b rows ks)=(ks.map (dq b rows)).sum:=by
 rw[<-Kt];unfold dm eI;rw[a3v];rfl
theorem qV{b:Nat}(t:Int):∀(rows:List (List Int)) (c:Int),(oN b rows).foldl (λm f=>m*sm f t 1) c=rows.foldl (λm row=>m*(look (aT b row) t).getD 0) c
 | [],_=>rfl
 | r::rows,c=>by
  have e:sm (fw b r) t 1=(look (aT b r) t).getD 0:=by simp[sm,fw]
  change(oN b _).foldl _ (c*sm _ t 1)=_;rw[qV t _,a2W,e]
def Ku(hb:1<=b)(hr:row∈rows):∀k∈keys (aT b row),Ma.aQ (ke b rows)<=k/\k<=Ma.bA (oO b rows):=λk hk=>by
 have h1:=(Ma.E_ _<|Cs hb row).2 k hk;have h2:=(Ma.H_ _<|Cs hb row).2 k hk;have nl:0<(ke b rows).length:=by rw[ke,a2x];show a3T hr
 have nh:0<(oO b rows).length:=by rw[oO,a2x];show a3T hr
 have h3:=(Ma.E_ _ nl).2 _ (a2N.mpr ⟨row,hr,Z⟩);have h4:=(Ma.H_ _ nh).2 _ (a2N.mpr ⟨row,hr,Z⟩);unfold Cq at h3;unfold Cr at h4;lia
def WV(hb:1<=b)(h0:rows[0]?=some row):xV b rows 0=dm (eI b rows (keys (aT b row))):=by
 have hm:=a2A h0;rw[WU];have mD:=Ku hb hm;rw[Ks (a:=Ma.aQ (ke b rows)) (n:=(Ma.bA (oO b rows)-Ma.aQ (ke b rows)+1).toNat) (xR b row).nd (λk hk=>by have:=mD k hk;lia) λt ht=>VS h0 ht];apply lA;intro t _ _;unfold eL;rw[uf (fs:=oN b _) (n:=0) (a2N.mpr ⟨row,hm,Z⟩) Z];have:pr _ t _=dq b _ t:=qV t rows 1;rw[this];lia
def WW(ps:List Nat):∀ws:List Int,ws.length=ps.sum->(Ma.aW ps ws).map List.length=ps:=by
 induction ps with
 | nil=>intro ws _;rfl
 | cons p ps ih =>
  intro ws h;rw[a3d] at h;rw[Ma.aW,a2X,ih _ (by rw[a3c];lia),a3a];lia
end Me
namespace Mg
open Me Mq
def ns(g:Nat->Int):Nat->Int
 | 0=>0
 | n+1=>ns g n+g n
theorem jv{g h:Nat->Int}:∀ {n:Nat},(∀i,i<n->g i=h i)->ns g n=ns h n
 | 0,_=>rfl
 | n+1,e=>by rw[ns,ns,jv λi hi=>e i<|by lia,e n (by lia)]
theorem ut(g:Nat->Int)(n:Nat):∀m:Nat,ns g (n+m)=ns g n+ns (λi=>g (n+i)) m
 | 0=>by simp[ns]
 | m+1=>by
  rw[<-a4x,ns,ns,ut g n m];lia
theorem yk(g:Nat->Int)(b:Nat):∀a:Nat,ns g (a*b)=ns (λi=>ns (λj=>g (i*b+j)) b) a
 | 0=>by simp[ns]
 | a+1=>by
  rw[Nat.succ_mul,ut,ns,yk g b a]
def tg(f:List (Int×Int))(G:Int->Int):Int:=(f.map λq=>q.2*G q.1).sum
def gL(p:Int×Int)(f:List (Int×Int))(G:Int->Int):tg (p::f) G=p.2*G p.1+tg f G:=by simp[tg]
theorem CF{k n:Int}{G:Int->Int}:∀ {f:List (Int×Int)},(keys f).Nodup->tg (eG f k n) G=tg f G+n*G k
 | [],_=>by simp[eG,put,look,tg]
 | (a,x)::f,nd=>by
  have lu:=(a3g.mp nd).1;have fh:=(a3g.mp nd).2;by_cases e:a=k
  .subst e;rw[xP lu,gL,gL];simp only;rw[a6f];lia
  .rw[xQ e,gL,gL,CF fh];lia
theorem Kv{p:Int×Int}{w:Int}{G:Int->Int}{acc:List (Int×Int)}(nd:(keys acc).Nodup):∀n:Nat,tg (cF p w n acc) G=tg acc G+p.2*ns (λ(d:Nat)=>G (p.1+(d:Int)*w)) n
 | 0=>by simp[ns,cF]
 | n+1=>by
  rw[mE,CF (ly nd n),Kv nd n,ns,a6g];lia
theorem Kw{b:Nat}{w:Int}{G:Int->Int}:∀(f acc:List (Int×Int)),(keys acc).Nodup->tg (f.foldl (λacc p=>cF p w b acc) acc) G=tg acc G+tg f λx=>ns (λ(d:Nat)=>G (x+(d:Int)*w)) b
 | [],acc,_=>by simp[tg]
 | p::f,acc,nd=>by
  rw[a2W,Kw f _ (ly nd b),Kv nd b,gL];lia
def WX(f:List (Int×Int)):tg (fU f b w) G=tg f λx=>ns (λ(d:Nat)=>G (x+(d:Int)*w)) b:=by
 have:=Kw (b:=b) (w:=w) (G:=G) f [] (by simp[keys]);have e:tg [] G=0:=rfl;rw[e,a4v] at this;show this
def cT(b d:Nat)(row:List Int):Int:=(Ma.b6 b d row.length row).sum
def CG(b d e L:Nat)(he:e<b):Ma.aB b (d*b+e) (L+1) (L+1)=Ma.aB b d L L++[e]:=by
 rw[Ma.A6];congr 1
 .apply a3C;intro j hj;have WY:=a5d.mp hj;have e1:L+1-1-j=(L-1-j)+1:=by lia
  rw[e1,a5v,<-a3L];have e2:(d*b+e) / b=d:=by rw[a3N d b,a6c (by lia),a4R he,a4m]
  rw[e2]
 .have e1:L+1-1-L=0:=by lia
  rw[e1,a4E,a5U,a3N d b,Nat.mul_add_mod,Nat.mod_eq_of_lt he]
def WZ(b d e:Nat)(row:List Int)(w:Int)(he:e<b):cT b (d*b+e) (row++[w])=cT b d row+e*w:=by
 unfold cT Ma.b6;rw[a2O,a4J,CG b d e _ he,a4z (by rw[Ma.R_]),a3I];simp
def Kx(b:Nat)(G:Int->Int)(row:List Int):ns (λd=>G (cT b d row)) (b ^ row.length)=tg (aT b row) G:=by
 have aL:∀ n   row ,row.length=n->∀G:Int->Int,ns (λd=>G<|cT b d row) (b ^ row.length)=tg (aT b row) G:=λn=>by
  induction n with
  | zero =>
   intro row h G;have:=a5y h;subst this;simp[ns,tg,aT,cT,Ma.b6]
  | succ n ih =>
   intro row h G;obtain⟨r,w,rfl⟩:∃r w,row=r++[w]:=by show⟨row.dropLast,row.getLast<|by intro z;rw[z] at h;simp at h,((a5E _).symm)⟩
   have hr:r.length=n:=by simpa using h
   have e1:aT b (r++[w])=fU (aT b r) b w:=by
    unfold aT;rw[a4u];rfl
   rw[e1,WX,<-ih r hr,a2O,a4J,a4c,yk];apply jv;intro d _;apply jv;intro e he;rw[WZ b d e r w he]
 show aL _ row Z G
def Ky(b d m p L:Nat)(hb:0<b)(hm:m<b ^ L):Ma.aB b (d*b ^ L+m) (p+L) (p+L)=Ma.aB b d p p++Ma.aB b m L L:=by
 have gen:∀i,i<=L->Ma.aB b (d*b ^ L+m) (p+L) (p+i)=Ma.aB b d p p++Ma.aB b m L i:=λi=>by
  induction i with
  | zero =>
   intro _;unfold Ma.aB;simp only[a4m,List.range_zero,a5g,a3H];apply a3C;intro j hj;have WY:=a5d.mp hj;have e1:p+L-1-j=(p-1-j)+L:=by lia
   rw[e1,a3F,a3N (b ^ (p-1-j)),<-a3L];have e2:(d*b ^ L+m) / b ^ L=d:=by rw[a3N d,a6c (a4n hb),a4R hm,a4m]
   rw[e2]
  | succ i ih =>
   intro hi;rw[<-a4x,Ma.A6,Ma.A6,ih (by lia),a3l];congr 3;have e1:p+L-1-(p+i)=L-1-i:=by lia
   rw[e1]
   have e3:b ^ L=b ^ (L-1-i)*b*b ^ i:=by
    rw[<-a4c,<-a3F];congr 1;lia
   have e4:d*b ^ L+m=b ^ (L-1-i)*(d*b ^ i*b)+m:=by
    rw[e3];congr 1;rw[a3M (b ^ (L-1-i)),<-a3M d,a3N d,a3M (b ^ (L-1-i))];congr 1;rw[a3N b,<-a3M]
   rw[e4,a6c (a4n hb),a5X,Nat.add_mul_mod_self_right]
 show gen L (a2D _)
abbrev fX(b n:Nat)(ps:List Nat)(ws:List Int):List Int:=Ma.gH ps (Ma.b6 b n ps.sum ws)
def yl(hb:0<b)(hm:m<b ^ ps.sum)(hw:ws.length=p+ps.sum):fX b (d*b ^ ps.sum+m) (p::ps) ws=cT b d (ws.take p)::fX b m ps (ws.drop p):=by
 have hl:(ws.take p).length=p:=by rw[a3a];lia
 have e:Ma.b6 b (d*b ^ ps.sum+m) (p::ps).sum ws=Ma.b6 b d p (ws.take p)++Ma.b6 b m ps.sum (ws.drop p):=by
  unfold Ma.b6;rw[a3d,Ky b d m p ps.sum hb hm];conv=>lhs;rw[<-a3i p ws]
  rw[a4z (by rw[Ma.R_,hl])]
 change Ma.gH (p::ps) (Ma.b6 b (d*b ^ ps.sum+m) (p::ps).sum ws)=_;rw[e];have l1:(Ma.b6 b d p (ws.take p)).length=p:=Ma.A8 _ _ _ _ hl;unfold Ma.gH;rw[Ma.aW,a2X];congr 1
 .rw[List.take_left' l1];unfold cT;rw[hl]
 .rw[List.drop_left' l1];rfl
def tr(b:Nat):List (List Int)->(List Int->Int)->Int
 | [],F=>F []
 | row::rows,F=>tg (aT b row) λx=>tr b rows λv=>F (x::v)
theorem CH{b:Nat}(hb:0<b):∀(ps:List Nat) (ws:List Int) (F:List Int->Int),ws.length=ps.sum->ns (λn=>F (fX b n ps ws)) (b ^ ps.sum)=tr b (Ma.aW ps ws) F
 | [],ws,F,_=>by
  change ns _ (b ^ 0)=F [];rw[a4E];simp only[ns,a4v];rfl
 | p::ps,ws,F,h=>by
  rw[a3d] at h;have hl:(ws.take p).length=p:=by rw[a3a];lia
  rw[a3d,a3F,yk,Ma.aW,tr,<-Kx,hl];apply jv;intro d _;rw[<-CH hb ps _ _ (by rw[a3c];lia)];apply jv;intro m hm;rw[yl hb hm h]
def V_(h:∀x,G x=H x):tg f G=tg f H:=by
 unfold tg;congr 1;show a3C λp _=>by rw[h]
theorem Kz{b:Nat}:∀ {rows:List (List Int)} {F G:List Int->Int},(∀v,v.length=rows.length->F v=G v)->tr b rows F=tr b rows G
 | [],_,_,h=>h [] Z
 | _::rows,_,_,h=>V_ λx=>Kz λv hv=>h _<|by simp[hv]
def uu(c:Int)(f:List (Int×Int))(G:Int->Int):tg f (λx=>c*G x)=c*tg f G:=by
 induction f with
 | nil=>simp[tg]
 | cons p f ih=>rw[gL,gL,ih,a6g,<-a4T,<-a4T,a5K p.2 c]
def KA(f:List (Int×Int))(G H:Int->Int):tg f (λx=>G x-H x)=tg f G-tg f H:=by
 induction f with
 | nil=>simp[tg]
 | cons p f ih=>rw[gL,gL,gL,ih,Int.mul_sub];lia
def CI(f:List (Int×Int))(G H:Int->Int):tg f (λx=>G x+H x)=tg f G+tg f H:=by
 induction f with
 | nil=>simp[tg]
 | cons p f ih=>rw[gL,gL,gL,ih,a6g];lia
theorem CJ{b:Nat}(c:Int):∀(rows:List (List Int)) (F:List Int->Int),tr b rows (λv=>c*F v)=c*tr b rows F
 | [],_=>rfl
 | row::rows,F=>by
  change tg _ _=c*tg _ _;rw[<-uu];show V_ λx=>CJ c _ _
theorem KB{b:Nat}:∀(rows:List (List Int)) (F G:List Int->Int),tr b rows (λv=>F v-G v)=tr b rows F-tr b rows G
 | [],_,_=>rfl
 | row::rows,F,G=>by
  change tg _ _=tg _ _-tg _ _;rw[<-KA];show V_ λx=>KB _ _ _
theorem KC{b:Nat}:∀(rows:List (List Int)) (F G:List Int->Int),tr b rows (λv=>F v+G v)=tr b rows F+tr b rows G
 | [],_,_=>rfl
 | row::rows,F,G=>by
  change tg _ _=tg _ _+tg _ _;rw[<-CI];show V_ λx=>KC _ _ _
def W0(rows:List (List Int)):tr b rows (λ_=>0)=0:=by
 have:=CJ (b:=b) 0 rows λ_=>0;simp only[a5J] at this;show this
theorem KF{b:Nat}(rows:List (List Int))(F:Int->List Int->Int)(a:Int):∀n:Nat,tr b rows (λv=>sm (λt=>F t v) a n)=sm (λt=>tr b rows (F t)) a n
 | 0=>W0 _
 | n+1=>by
  simp only[sm];rw[KC,KF _ F a n]
def fp(h:Int->Int)(v:List Int):Int:=v.foldl (λm x=>m*h x) 1
theorem uv(h:Int->Int):∀(v:List Int) (c:Int),v.foldl (λm x=>m*h x) c=c*v.foldl (λm x=>m*h x) 1
 | [],c=>by simp
 | x::v,c=>by
  rw[a2W,a2W,uv h v _,uv h v (1*h x),a4O,a4T]
theorem KG{b:Nat}(h:Int->Int):∀rows:List (List Int),tr b rows (fp h)=rows.foldl (λm row=>m*tg (aT b row) h) 1
 | []=>rfl
 | row::rows=>by
  have e:∀(rs:List (List Int))  c ,rs.foldl (λm row=>m*tg (aT b row) h) c=c*rs.foldl (λm row=>m*tg (aT b row) h) 1:=λrs=>by
   induction rs with
   | nil=>intro c;simp
   | cons r rs ih=>intro c;rw[a2W,a2W,ih (c*_),ih (1*_),a4O,a4T]
  rw[a2W,e rows,a4O,<-KG h rows];change tg (aT b row) (λx=>tr b rows λv=>fp h (x::v))=_
  have e2:∀x,tr b rows (λv=>fp h (x::v))=tr b rows (fp h)*h x:=λx=>by
   rw[a5K,<-CJ]
   show Kz λv _=>by
    unfold fp;rw[a2W,uv,a4O]
  rw[V_ e2,uu,a5K]
def iv(a:Int)(n:Nat)(x:Int):Int:=if a<=x/\x<a+n then 1 else 0
theorem ym(x a:Int):∀n:Nat,sm (λt=>if x=t then 1 else 0) a n=iv a n x
 | 0=>by
  unfold iv;rw[if_neg (by lia)];rfl
 | n+1=>by
  simp only[sm];rw[ym x a n];unfold iv;by_cases h1:a<=x/\x<a+n
  .rw[if_pos h1,if_neg (by lia),if_pos (by push_cast;lia)];rfl
  .by_cases h2:x=a+n
   .rw[if_neg h1,if_pos h2,if_pos (by push_cast;lia)];rfl
   .rw[if_neg h1,if_neg h2,if_neg (by push_cast;lia)];rfl
theorem yn{t:Int}:∀ {f:List (Int×Int)},(keys f).Nodup->tg f (λx=>if x=t then 1 else 0)=gv f t
 | [],_=>rfl
 | (a,x)::f,nd=>by
  have lu:=(a3g.mp nd).1;have fh:=(a3g.mp nd).2;rw[gL,yn fh];unfold gv;by_cases e:a=t
  .subst e;rw[qL,xU lu,if_pos Z];simp
  .rw[qM e,if_neg e];simp
theorem CK(f:List (Int×Int))(F:Int->Int->Int)(a:Int):∀n:Nat,tg f (λx=>sm (λt=>F t x) a n)=sm (λt=>tg f (F t)) a n
 | 0=>by
  have:=uu 0 f λ_=>0;simp only[a5J] at this;show this
 | n+1=>by
  simp only[sm];rw[CI,CK f F a n]
def W1(row:List Int)(a:Int)(n:Nat):tg (aT b row) (iv a n)=sm (fw b row) a n:=by
 have e:=λx=>(ym x a n).symm;rw[V_ e,CK _ _];apply lA;show λt _ _=>yn (xR b row).nd
def KH(rows:List (List Int))(a:Int)(n:Nat):tr b rows (fp (iv a n))=pr (oN b rows) a n:=by
 rw[KG];unfold pr oN;rw[List.foldl_map];congr 1;funext m row;rw[W1]
def KI(h:∀x∈keys f,G x=H x):tg f G=tg f H:=by
 unfold tg;congr 1;show a3C λp hp=>by rw[h p.1 (a2N.mpr ⟨p,hp,Z⟩)]
theorem KJ{b:Nat}{lo hi:Int}:∀ {rows:List (List Int)} {F G:List Int->Int},(∀row∈rows,∀k∈keys (aT b row),lo<=k/\k<=hi)->(∀v,v.length=rows.length->(∀x∈v,lo<=x/\x<=hi)->F v=G v)->tr b rows F=tr b rows G
 | [],_,_,_,h=>h [] Z λ_ z=>by simp at z
 | row::rows,_,_,hk,h=>KI λx hx=>KJ (λr hr=>hk r<|by simp[hr]) λv hv hb=>h _ (by simp[hv]) λy hy=>by
   rcases a2B.mp hy with rfl | hy;.show hk row (by simp) _ hx
   .show hb y hy
theorem KK(q:Int->Prop)[DecidablePred q]:∀v:List Int,fp (λx=>if q x then 1 else 0) v=if ∀x∈v,q x then 1 else 0
 | []=>by simp[fp]
 | x::v=>by
  have e:fp (λx=>if q x then 1 else 0) (x::v)=(if q x then 1 else 0)*fp (λx=>if q x then 1 else 0) v:=by
   unfold fp;rw[a2W,uv,a4O]
  rw[e,KK q v];by_cases h1:q x;.simp_all
  .simp_all
def mK(v:List Int):Int:=Ma.bA v-Ma.aQ v
def KL(hv:0<v.length){a:Int}{n:Nat}:(∀x∈v,a<=x/\x<a+n)↔a<=Ma.aQ v/\Ma.bA v<a+n:=by
 obtain⟨m1,m2⟩:=Ma.E_ v hv;obtain⟨m3,m4⟩:=Ma.H_ v hv;constructor;.simp_all
 .rintro⟨h1,h2⟩ x hx;have:=m2 x hx;have:=m4 x hx;lia
def KM(hv:0<v.length)(a:Int)(n:Nat):fp (iv a n) v=if a<=Ma.aQ v/\Ma.bA v<a+n then 1 else 0:=by
 have:=KK (λx=>a<=x/\x<a+n) v;have e:iv a n=λx=>if a<=x/\x<a+ n  then 1 else 0:=rfl;rw[e,this];by_cases h:∀x∈v,a<=x/\x<a+n;.rw[if_pos h,if_pos ((KL hv).mp h)]
 .rw[if_neg h,if_neg λz=>h<|(KL hv).mpr z]
def KN(hv:0<v.length){d:Nat}{N:Nat}(h1:A<=Ma.aQ v)(h2:Ma.aQ v<A+N):(if mK v<=d then 1 else 0)=sm (λa=>fp (iv a (d+1)) v-fp (iv (a+1) d) v) A N:=by
 have e:sm (λa=>fp (iv a (d+1)) v-fp (iv (a+1) d) v) A N=sm (λa=>if Ma.aQ v=a then (if mK v<=d then 1 else 0) else 0) A N:=by
  apply lA;intro a _ _;rw[KM hv,KM hv];unfold mK;obtain⟨m1,m2⟩:=Ma.E_ v hv;obtain⟨m3,m4⟩:=Ma.H_ v hv;push_cast;by_cases q1:Ma.aQ v=a;.grind
  .rw[if_neg q1];by_cases q2:a<=Ma.aQ v/\Ma.bA v<a+(d+1);.lia
   .rw[if_neg q2,if_neg (by lia)];rfl
 rw[e];by_cases q:mK v<=d
 .rw[if_pos q,ym];unfold iv;rw[if_pos ⟨h1,h2⟩]
 .rw[if_neg q];show(iR λt _ _=>?_).symm;split <;> rfl
def W2(hb:0<b)(hw:ws.length=ps.sum)(hp:0<ps.length)(d:Nat):ns (λn=>if mK (fX b n ps ws)<=d then 1 else 0) (b ^ ps.sum)=xV b (Ma.aW ps ws) d:=by
 rw[CH hb ps ws (λv=>if mK v<=d then 1 else 0) hw];have aZ:0<(Ma.aW ps ws).length:=by rw[Ma.X_];show hp
 rw[KJ (λrow hr k hk=>Ku hb hr k hk) λv hv hx=>?_]
 .rw[KF _ λa v=>fp (iv a _) v-fp (iv (a+1) d) v];apply lA;intro a _ _;rw[KB,KH,KH];rfl
 .have lB:0<v.length:=by lia
  have m1:=hx _ (Ma.E_ v lB).1;show KN lB (by lia)<|by lia
def cd(w:Nat->Bool)(k:Nat->Int):Nat->List (Int×Int)
 | 0=>[]
 | n+1=>if w n=true then eG (cd w k n) (k n) 1 else cd w k n
structure Pos(f:List (Int×Int)):Prop where
 nd:(keys f).Nodup
 ps:∀p∈f,1<=p.2
end Mg
namespace Mu
open Me Mg
abbrev yo:=List (Int×Int×Int)
abbrev a2p(h:yo):List Int:=h.map (·.1)
def W3(h:yo)(k:Int):Option (Int×Int):=(h.find? λq=>decide (q.1=k)).map (·.2)
abbrev gT(h:yo)(k:Int):Int×Int:=(W3 h k).getD (0,0)
def TT(h:yo)(A B:Int->Int):Int:=(h.map λq=>q.2.1*A q.1+q.2.2*B q.1).sum
theorem CL{g:Nat->Int}:∀ {n:Nat},(∀i,i<n->0<=g i)->0<=ns g n
 | 0,_=>a4C _
 | n+1,h=>by
  rw[ns];have:=CL (n:=n) λi hi=>h i<|by lia
  have:=h n (by lia);lia
theorem CO{g h:Nat->Int}:∀ {n:Nat},(∀i,i<n->g i<=h i)->ns g n<=ns h n
 | 0,_=>a4C _
 | n+1,e=>by
  rw[ns,ns];have:=CO (n:=n) λi hi=>e i<|by lia
  have:=e n (by lia);lia
theorem yp(x:Int):∀n:Nat,ns (λ_=>x) n=n*x
 | 0=>by simp[ns]
 | n+1=>by rw[ns,yp x n];push_cast;rw[a6f];lia
def W4(hb:0<b)(hi:i<b ^ r2.length):cT b (d*b ^ r2.length+i) (r1++r2)=cT b d r1+cT b i r2:=by
 unfold cT Ma.b6;rw[a2O,Ky b d i _ _ hb hi,a4z (by rw[Ma.R_]),a3I]
end Mu
namespace Hv
open PySem L2
def W5(hj:j<=ws.length):(wz (Ma.aB b q j j) ws).sum=Mg.cT b q (ws.take j):=by
 unfold Mg.cT Ma.b6;rw[a3a,a4h hj];have e:=(a3i j ws).symm;conv=>lhs;rw[e]
 unfold wz;rw[<-a3H (Ma.aB b q j j),a4z (by rw[Ma.R_,a3a,a4h hj])];simp
def W6(qo:0<b)(hb:b<=16)(hw:∀x∈r,-9<=x/\x<=9) : -(135*(r.length:Int))<=Mg.cT b q r/\Mg.cT b q r<=135*(r.length:Int):=by
 have gen:∀l:List Int,(∀y∈l,-135<=y/\y<=135)->-(135*(l.length))<=l.sum/\l.sum<=135*(l.length):=λl=>by
  induction l with
  | nil=>intro _;simp
  | cons a t ih =>
   intro h;have h1:=h a (by simp);have h2:=ih λy hy=>h y (by simp[hy]);simp only[a3d,a2P];push_cast;lia
 have g:=gen (Ma.b6 b q r.length r) λy hy=>by
  unfold Ma.b6 at hy;obtain⟨i,hi⟩:=a3y hy;rw[a4r] at hi
  cases e1:(Ma.aB b q r.length r.length)[i]? with
  | none=>rw[e1] at hi;simp at hi
  | some d =>
   cases e2:r[i]? with
   | none=>rw[e1,e2] at hi;simp at hi
   | some x =>
    rw[e1,e2] at hi;have di:y= d *x:=by simpa using hi.symm
    have hd:=Ma.A9 qo (a2A e1);have hx:=hw x (a2A e2);have:=Me.Ce (m:=0) (x:=0) ⟨by decide,by decide⟩ hx hb hd;rw[di];lia
 rw[Ma.A8 _ _ _ _ Z] at g;show g
def mL(H:Hp)(b j q:Nat)(rs:List Addr):Prop:=∀k a,rs[k]?=some a->H a=some (.lst (aA (Ma.aB b (q+k) j j)))/\q+k<b ^ j
def mL.keep(h:mL H b j q rs)(s:ae H H'):mL H' b j q rs:=λk a e=>⟨s _ _ (h k a e).1,(h k a e).2⟩
end Hv
namespace Mu
open Me Mg
def W7(g:Nat->Int)(hr:(n=1)\/(CP=0/\n2=st)):ns (λi=>ns (λj=>g ((lo+i)*st+(CP+j))) n2) n=ns (λi=>g (lo*st+CP+i)) (n*n2):=by
 rcases hr with rfl | ⟨rfl,rfl⟩
 .rw[a5c];simp only[ns,a4v,a4m];show jv λj _=>by rw[a4x]
 .rw[yk];show jv λi _=>jv λj _=>?_;rw[a5k,a3E,a4m,a4x]
def W8{b x m t:Nat}(ht:t<m):x % b ^ m / b ^ (m-1-t) % b=x / b ^ (m-1-t) % b:=by
 have e:b ^ m=b ^ (m-1-t)*(b*b ^ t):=by
  rw[<-a5v,<-a3F];congr 1;lia
 rw[e,Nat.mod_mul_right_div_self,Nat.mod_mul_right_mod]
def CQ(h:i<L):(Ma.aB b n L L)[i]?=some (n / b ^ (L-1-i) % b):=by
 unfold Ma.aB;rw[a2E,List.getElem?_range h];rfl
def CS(h:o+l<=pl):((Ma.aB b a pl pl).drop o).take l=Ma.aB b (a / b ^ (pl-o-l) % b ^ l) l l:=by
 apply a5h;intro t;by_cases ht:t<l
 .rw[List.getElem?_take_of_lt ht,List.getElem?_drop,CQ (by lia),CQ ht,W8 ht,a3L,<-a3F];have:pl-1-(o+t)=pl-o-l+(l-1-t):=by lia
  rw[this]
 .rw[a4q (by rw[a3a,a3c,Ma.R_];lia),a4q (by rw[Ma.R_];lia)]
def W9(h:o<=pl)(h2:pl<=o+l):((Ma.aB b a pl pl).drop o).take l=Ma.aB b (a % b ^ (pl-o)) (pl-o) (pl-o):=by
 have e:((Ma.aB b a pl pl).drop o).take l=((Ma.aB b a pl pl).drop o).take (pl-o):=by rw[a3f (by rw[a3c,Ma.R_];lia),a3f (by rw[a3c,Ma.R_];lia)]
 rw[e,CS (by lia)];have:pl-o-(pl-o)=0:=by lia
 rw[this,a4E,a5U]
def Xa(h:pl<=o):((Ma.aB b a pl pl).drop o).take l=[]:=by
 rw[a5j (by rw[Ma.R_];show h)];simp
def pj(pl o l:Nat):Nat:=if o+l<=pl then l else if o<=pl then pl-o+1 else 0
def pq(b a pl o l:Nat):Nat:=if o+l<=pl then a / b ^ (pl-o-l) % b ^ l else if o<=pl then a % b ^ (pl-o)*b else 0
def pn(pl e o l:Nat):Nat:=if o+l<=pl then 1 else if o<=pl then e else 1
def Xb:pj pl o l<=l:=by
 unfold pj;split;.show a2D _
 .split <;> lia
end Mu
namespace Hv
open PySem L2
def pc(H:Hp)(p:Addr)(b a pl e:Nat)(ps:List Nat)(bs:List Addr):Prop:=∀i l r,ps[i]?=some l->bs[i]?=some r->r≠p/\∃rs,H r=some (.lst (rs.map V.ref))/\rs.length=Mu.pn pl e (ps.take i).sum l/\(∀x∈rs,x≠p)/\mL H b (Mu.pj pl (ps.take i).sum l) (Mu.pq b a pl (ps.take i).sum l) rs
def pc.up(h:pc H p b a pl e ps bs)(k:∀x o,H x=some o->x≠p->H' x=some o):pc H' p b a pl e ps bs:=λi l r h1 h2=>by
 obtain⟨n1,rs,g1,g2,g3,g4⟩:=h i l r h1 h2;show⟨n1,rs,k _ _ g1 n1,g2,g3,λm x e=>⟨k _ _ (g4 m x e).1<|g3 x<|a2A e,(g4 m x e).2⟩⟩
inductive yq(vs:List V)(H:Hp)(Q:VK)(aq:XK):Prop
 | mk:∀f A c b ps ws,∀(hd:Addr) (a pl e:Nat),(vs=[.ref f,.ref hd,.int e])->(aV H f A c b ps ws)->(H hd=some (.lst (aA (Ma.aB b a pl pl))))->(e<=b)->(pl<=24)->(∀(p:Addr) (bs:List Addr) (H':Hp),H p=none->ae H H'->H' p=some (.lst (bs.map V.ref))->bs.length=ps.length->pc H' p b a pl e ps bs->Q (.ref p) H')->yq vs H Q aq
def KO:aI ["frame","head","end","beginnings","start","length","given"] ["frame","head","end"] (f_ wO):=⟨Z,Z,Z,by decide,Z,by decide,by decide⟩
def Xc(F:ay K "part_beginnings" "part_beginnings" wO f fd)(T:Txt mg):av P w K mg base aE 1 f fd ["frame","head","end"] yq:=by
 show F.ok KO λak A outer s H vs Q E hr h=>?_
 .obtain⟨g,A',c,b,ps,ws,hd,a,pl,e,rfl,G,qW,heb,cy,k⟩:=h;have nd:=KO.nd;have ok:=G.ok;have l4:=ok.l4;have b2:=ok.b2;show⟨_,b_ (j_ 3 (x_ d_)) (b_ (j_ 4 h_) (b_ (Z_ PassesOwn.never Z (B_ (ce (pv 0) h_)) (u_ 5) (b_ (j_ 6 (jX wc (pv 1) (iF (pv 4)) (iF (o_ Q_ (pv 4) (pv 5))))) (b_ (C_ (AB jT r6 (pv 4) (eV T.len (by rfl) (pv 1)) (o_ Q_ (pv 4) (pv 5))) (g_ (t_ (dh PySem.F.plainAttrs_list PySem.F.slot_list_append PySem.F.type_list_append kS (pv 3) (a_ (P_ (f_ wO) ["frame","head","end","beginnings","start","length","given"] ["given"] [6] Z (kH (by rfl) T.range (a_ (pv 2) d_)) (λcl C s H fp=>O_) (λcl C s H fp=>o_ gY (pv 1) (x_ (a_ (pv 0) d_))) (by decide)) d_)))) (g_ (t_ (dh PySem.F.plainAttrs_list PySem.F.slot_list_append PySem.F.type_list_append kS (pv 3) (a_ (x_ (a_ (pv 6) d_)) d_))))) (g_ (j_ 4 (o_ Q_ (pv 4) (pv 5))))))) (g_ (k_ (pv 3))))),⟨sz (by decide),λp hp=>?_⟩⟩;have s1:ae H (ad H p (.lst [])):=e_ hp;have G1:=G.keep s1;show⟨_,Z,_,_,_,_,Z,Z,aP.of G1.tp,Z,A',Z,⟨_,ag.of G1.hp⟩,kI (K:=K) (a:=A') (xs:=aA ps) (λi σ H2=>∃(bs:List Addr) (v5 v6:Option V),σ=[some (.ref g),some (.ref hd),some (.int e),some (.ref p),some (.int (((ps.take i).sum:Nat):Int)),v5,v6]/\ae H H2/\H2 p=some (.lst (bs.map V.ref))/\bs.length=i/\pc H2 p b a pl e ps bs) ⟨[],none,none,Z,s1,c_,Z,λi l r _ h=>by simp at h⟩ (λi σ H2 _ h=>by obtain⟨_,_,_,_,s2,_⟩:=h;show ag.of (s2 _ _ G.hp)) ?_ ?_⟩
  .rintro i x σ H2 hx ⟨bs,v5,v6,rfl,s2,cZ,aS,B2⟩;obtain⟨l,hl,rfl⟩:=Cw hx;have hi4:i<4:=by have:=(a2z.mp hl).1;lia
   generalize eo:(ps.take i).sum=o;have es:(ps.take (i+1)).sum=o+l:=by rw[a2I,hl,a3I,eo];simp
   have eg:fO (aA (Ma.aB b a pl pl)) (some ((o:Nat):Int)) (some (((o:Nat):Int)+((l:Nat):Int)))=aA (((Ma.aB b a pl pl).drop o).take l):=by
    rw[IR];simp[aA,List.map_take,a5V]
   show⟨_,Z,_,Z,_,Z,_,Z,_,Z,_,_,Z,Z,_,Z,hd,_,Z,ag.of (s2 _ _ qW),λq hq=>?_⟩;have eg':fO (aA (Ma.aB b a pl pl)) (some ((o:Nat):Int)) (some ((λi j=>i+j) ((o:Nat):Int) ((l:Nat):Int)))=aA (((Ma.aB b a pl pl).drop o).take l):=eg;have s3:=e_ (o:=.lst (aA (((Ma.aB b a pl pl).drop o).take l))) hq;have u3:(ad H2 q (.lst (aA (((Ma.aB b a pl pl).drop o).take l)))) q=_:=c_;have Xd:p≠q:=l_ cZ hq;rw[show(ad H2 q (.lst (fO (aA (Ma.aB b a pl pl)) (some ((o:Nat):Int)) (some (((o:Nat):Int)+((l:Nat):Int))))))=ad H2 q (.lst (aA (((Ma.aB b a pl pl).drop o).take l))) from by rw[eg]];generalize ad H2 q (.lst (aA (((Ma.aB b a pl pl).drop o).take l)))=H3 at s3 u3⊢;have p3:=s3 _ _ cZ
   have KP:∀(r:Addr) (rs:List Addr) (H4:Hp),ae H3 H4->H4 r=some (.lst (rs.map V.ref))->r≠p->rs.length=Mu.pn pl e o l->(∀x∈rs,x≠p)->mL H4 b (Mu.pj pl o l) (Mu.pq b a pl o l) rs->
     ae H (ad H4 p (.lst (bs.map V.ref++[V.ref r])))/\(ad H4 p (.lst (bs.map V.ref++[V.ref r]))) p=some (.lst ((bs++[r]).map V.ref))/\(bs++[r]).length=i+1/\pc (ad H4 p (.lst (bs.map V.ref++[V.ref r]))) p b a pl e ps (bs++[r]):=λr rs H4 s4 Kl nr hn aZ RD=>by
    show⟨D_ ((s2.trans s3).trans s4) hp,by rw[c_,a3e];rfl,by simp[aS],λm l' r' h1 h2=>?_⟩;have CT:∀x ob,H4 x=some ob->x≠p->(ad H4 p (.lst (bs.map V.ref++[V.ref r]))) x=some ob:=λx ob e n=>by rw[i_ n];show e
    by_cases hm:m<bs.length
    .rw[a3k hm] at h2;show pc.up B2 (λx ob e n=>CT x ob ((s3.trans s4) _ _ e) n) m l' r' h1 h2
    .have iP:m=bs.length:=by
      have:=(a2z.mp h2).1;simp at this;lia
     have Xe:m=i:=by lia
     subst Xe;rw[a3o (by lia),iP,a4w] at h2;have er:r=r':=by simpa using h2
     subst er;rw[hl] at h1;have el:l=l':=a2J h1;subst el;rw[eo];show⟨nr,rs,CT _ _ Kl nr,hn,aZ,λt x e=>⟨CT _ _ (RD t x e).1 (aZ x (a2A e)),(RD t x e).2⟩⟩
   have one:∀H4,ae H3 H4->((Ma.aB b a pl pl).drop o).take l=Ma.aB b (Mu.pq b a pl o l) (Mu.pj pl o l) (Mu.pj pl o l)->Mu.pq b a pl o l<b ^ Mu.pj pl o l->mL H4 b (Mu.pj pl o l) (Mu.pq b a pl o l) [q]:=λH4 s4 e1 e2 t x e=>by
    have ht:t=0:=by have:=(a2z.mp e).1;simp at this;show this
    subst ht;have ex:q=x:=by simpa using e
    subst ex;rw[a4m,<-e1];show⟨s4 _ _ u3,e2⟩
   have Xf:(((aA (Ma.aB b a pl pl)).length:Nat):Int)=(pl:Int):=by rw[aA,a2x,Ma.R_]
   show⟨_,Z,_,Z,hd,_,Z,.inl (ag.of (s3 _ _ (s2 _ _ qW))),_,_,Z,Z,_,Z,?_⟩;show Xf▸?_;have b0:0<b:=by lia
   have KQ:∀(_:((Ma.aB b a pl pl).drop o).take l=Ma.aB b (Mu.pq b a pl o l) (Mu.pj pl o l) (Mu.pj pl o l)) (_:Mu.pq b a pl o l<b ^ Mu.pj pl o l) (_:1=Mu.pn pl e o l) (d:Addr) (f7:H3 d=none),_:=λe1 e2 e3 d f7=>KP d [q] _ (e_ (o:=.lst [.ref q]) f7) c_ (Ne.symm (l_ p3 f7)) e3 (λx hx=>(show x=q by simpa using hx)▸Ne.symm Xd) (one _ (e_ f7) e1 e2);by_cases hA:o+l<=pl
   .have j1:Mu.pj pl o l=l:=by unfold Mu.pj;rw[if_pos hA]
    have j2:Mu.pq b a pl o l=a / b ^ (pl-o-l) % b ^ l:=by unfold Mu.pq;rw[if_pos hA]
    have j3:Mu.pn pl e o l=1:=by unfold Mu.pn;rw[if_pos hA]
    rw[decide_eq_true (show((o:Nat):Int)<=(pl:Int) by lia)];show bj ⟨_,Z,_,Z,_,_,Z,Z,_,_,Z,Z,_,Z,?_⟩;rw[decide_eq_false (show ¬ (pl:Int)<(o:Int)+(l:Int) by lia)];show aK ⟨_,Z,.inl ⟨Z,_,ag.of p3⟩,_,Z,sz (by simp),λd f7=>?_⟩;obtain⟨c1,c2,c3,c4⟩:=KQ (by rw[j1,j2];show Mu.CS hA) (by rw[j1,j2];show a5p _ (a4n b0)) j3.symm d f7;show⟨p,_,_,Z,Z,(e_ f7) _ _ p3,bT (by rw[a2x];lia),⟨_,Z,_,Z,_,_,Z,Z,bs++[d],some (.int (l:Int)),some (.ref q),?_,c1,c2,c3,c4⟩⟩;rw[es];push_cast;rfl
   by_cases hC:pl<o
   .have j1:Mu.pj pl o l=0:=by unfold Mu.pj;rw[if_neg hA,if_neg (by lia)]
    have j2:Mu.pq b a pl o l=0:=by unfold Mu.pq;rw[if_neg hA,if_neg (by lia)]
    have j3:Mu.pn pl e o l=1:=by unfold Mu.pn;rw[if_neg hA,if_neg (by lia)]
    rw[decide_eq_false (show ¬ ((o:Nat):Int)<=(pl:Int) by lia)];show aK ⟨_,Z,aK ⟨_,Z,.inl ⟨Z,_,ag.of p3⟩,_,Z,sz (by simp),λd f7=>?_⟩⟩;obtain⟨c1,c2,c3,c4⟩:=KQ (by rw[j1,j2];show Mu.Xa (by lia)) (by rw[j1,j2];show a4n b0) j3.symm d f7;show⟨p,_,_,Z,Z,(e_ f7) _ _ p3,bT (by rw[a2x];lia),⟨_,Z,_,Z,_,_,Z,Z,bs++[d],some (.int (l:Int)),some (.ref q),?_,c1,c2,c3,c4⟩⟩;rw[es];push_cast;rfl
   .have j1:Mu.pj pl o l=pl-o+1:=by unfold Mu.pj;rw[if_neg hA,if_pos (by lia)]
    have j2:Mu.pq b a pl o l=a % b ^ (pl-o)*b:=by unfold Mu.pq;rw[if_neg hA,if_pos (by lia)]
    have j3:Mu.pn pl e o l=e:=by unfold Mu.pn;rw[if_neg hA,if_pos (by lia)]
    rw[decide_eq_true (show((o:Nat):Int)<=(pl:Int) by lia)];show bj ⟨_,Z,_,Z,_,_,Z,Z,_,_,Z,Z,_,Z,?_⟩;rw[decide_eq_true (show(pl:Int)<(o:Int)+(l:Int) by lia)];have KR:=Mu.W9 (b:=b) (a:=a) (pl:=pl) (o:=o) (l:=l) (by lia) (by lia);have cz:=ok.cz;show bj ⟨_,Z,.inl ⟨Z,_,ag.of p3⟩,_,Z,_,Z,by lia,by lia,AZ (lo:=0) (n:=(e:Int).toNat) (λm ys H4=>∃rs:List Addr,ys=rs.map V.ref/\rs.length=m/\(∀x∈rs,x≠p)/\ae H3 H4/\mL H4 b (pl-o+1) (a % b ^ (pl-o)*b) rs) ⟨[],Z,Z,λx hx=>by simp at hx,ae.refl _,λt x h=>by simp at h⟩ ?_ ?_⟩
    .rintro m ys H4 hm ⟨rs,rfl,fW,aZ,s4,RD⟩;have hme:m<e:=by lia
     show⟨bT (by rw[a2x];lia),_,Z,_,Z,sz (by simp),λt ht=>?_⟩;have CU:ae H4 _:=e_ (o:=.lst [.int (0+(m:Int))]) ht;have s5:=s4.trans CU;have u5:(ad H4 t (.lst [.int (0+(m:Int))])) t=_:=c_;generalize ad H4 t (.lst [.int (0+(m:Int))])=H5 at CU s5 u5⊢;show⟨q,t,_,_,Z,Z,s5 _ _ u3,u5,sz (by rw[KR,aA,a2x,Ma.R_];simp;lia),λr cE=>?_⟩;have s6:=e_ (o:=.lst (aA (((Ma.aB b a pl pl).drop o).take l)++[.int (0+(m:Int))])) cE;have u6:(ad H5 r (.lst (aA (((Ma.aB b a pl pl).drop o).take l)++[.int (0+(m:Int))]))) r=_:=c_;have KU:ae H4 (ad H5 r (.lst (aA (((Ma.aB b a pl pl).drop o).take l)++[.int (0+(m:Int))]))):=CU.trans s6;show⟨rs++[r],by rw[a3e];rfl,by simp[fW],λx hx=>?_,s4.trans KU,λt' x h=>?_⟩
     .rcases a3j.mp hx with hx | hx;.show aZ x hx
      .have:x=r:=by simpa using hx
       rw[this];show Ne.symm (l_ (s5 _ _ p3) cE)
     .by_cases CV:t'<rs.length
      .rw[a3k CV] at h;show RD.keep KU t' x h
      .have e1:t'=m:=by
        have:=(a2z.mp h).1;simp at this;lia
       subst e1;rw[a3o (by lia),fW,a4w] at h;have e2:r=x:=by simpa using h
       subst e2;have Xg:t'<b:=by lia
       show⟨?_,?_⟩
       .rw[u6,KR,Mg.CG b _ t' (pl-o) Xg];simp[aA]
       .rw[a4c];have h1:a % b ^ (pl-o)<b ^ (pl-o):=a5p _ (a4n b0);have h2:(a % b ^ (pl-o)+1)*b<=b ^ (pl-o)*b:=a3z b h1;rw[a3E] at h2;lia
    .rintro ys H4 ⟨rs,rfl,fW,aZ,s4,RD⟩ D hD;have s5:=s4.trans (e_ (o:=.lst (rs.map V.ref)) hD);obtain⟨c1,c2,c3,c4⟩:=KP D rs _ s5 c_ (Ne.symm (l_ (s4 _ _ p3) hD)) (by rw[j3,fW];lia) aZ (by rw[j1,j2];show RD.keep (e_ hD));show⟨p,_,_,Z,Z,s5 _ _ p3,bT (by rw[a2x];lia),⟨_,Z,_,Z,_,_,Z,Z,bs++[D],some (.int (l:Int)),some (.ref q),?_,c1,c2,c3,c4⟩⟩;rw[es];push_cast;rfl
  .rintro σ H2 ⟨bs,v5,v6,rfl,s2,cZ,aS,B2⟩;show⟨_,Z,k p bs H2 hp s2 cZ (by rw[aS];simp[aA]) B2⟩
end Hv
namespace Mu
open Me Mg
abbrev fI:=Nat×Nat×Nat
abbrev qX(b S:Nat)(x:fI):Nat:=x.1*b ^ (S-x.2.1)
abbrev sN(b S:Nat)(x:fI):Nat:=x.2.2*b ^ (S-x.2.1-1)
def jw(b S:Nat)(L:List fI)(g:Nat->Int):Int:=(L.map λx=>ns (λi=>g (qX b S x+i)) (sN b S x)).sum
structure uw(b S:Nat)(x:fI):Prop where
 pl:x.2.1<S
 e1:1<=x.2.2
 eb:x.2.2<=b
 ha:x.1<b ^ x.2.1
def upTo(b S n:Nat):Nat->List fI
 | 0=>[]
 | i+1=>upTo b S n i++if 0<n / b ^ (S-1-i) % b then [(n / b ^ (S-i),i,n / b ^ (S-1-i) % b)] else []
theorem KW{b S n:Nat}(hb:0<b)(hn:n<b ^ S):∀i,i<=S->∀x∈upTo b S n i,uw b S x
 | 0,_,x,hx=>by simp[upTo] at hx
 | i+1,hi,x,hx=>by
  rcases a3j.mp hx with hx | hx;.show KW hb hn i (by lia) x hx
  .split at hx
   .rename_i h;have e:x=(n / b ^ (S-i),i,n / b ^ (S-1-i) % b):=by simpa using hx
    subst e;show⟨by simp only;lia,h,a4D<|a5p _ hb,?_⟩;change n / b ^ (S-i)<b ^ i;rw[Nat.div_lt_iff_lt_mul (a4n hb),<-a3F];have:i+(S-i)=S:=by lia
    rw[this];show hn
   .simp at hx
theorem CW(b S n:Nat):∀i,(upTo b S n i).length<=i
 | 0=>by simp[upTo]
 | i+1=>by
  rw[upTo,a2O];have:=CW b S n i;split <;> simp <;> lia
def Xh(b S:Nat)(L M:List fI)(g:Nat->Int):jw b S (L++M) g=jw b S L g+jw b S M g:=by simp[jw]
theorem KY{b S n:Nat}(hb:0<b)(hn:n<b ^ S)(g:Nat->Int):∀i,i<=S->jw b S (upTo b S n i) g=ns g (n / b ^ (S-i)*b ^ (S-i))
 | 0,_=>by
  rw[a4F,a4R hn,a4G];rfl
 | i+1,hi=>by
  rw[upTo,Xh,KY hb hn g i (by lia)];have e1:S-(i+1)=S-1-i:=by lia
  have e2:S-i=S-1-i+1:=by lia
  rw[e1];generalize hk:S-1-i=k at *
  have e3:n / b ^ k*b ^ k=n / b ^ (k+1)*b ^ (k+1)+n / b ^ k % b*b ^ k:=by
   have h1:=a4Y (n / b ^ k) b;rw[a3L,<-a4c] at h1
   have h2:n / b ^ (k+1)*b ^ (k+1)=b*(n / b ^ (k+1))*b ^ k:=by
    rw[a5v];rw[a3N b (n / _),a3M]
   rw[h2,<-a3E,h1]
  rw[e2,e3,ut];split
  .simp only[jw,qX,sN,a2X,a5g,a3d,List.sum_nil,e2,Int.add_zero];have e5:k+1-1=k:=by lia
   rw[e5]
  .have e6:n / b ^ k % b=0:=by lia
   rw[e6,a4G];rfl
def Xi(hb:0<b)(hn:n<b ^ S)(g:Nat->Int):jw b S (upTo b S n S) g=ns g n:=by rw[KY hb hn g S (a2D _),a4w,a4E,a5U,Nat.mul_one]
def Xj(hS:0<S)(g:Nat->Int):jw b S [(0,0,b)] g=ns g (b ^ S):=by
 have e:b*b ^ (S-1)=b ^ S:=by
  rw[<-a5v];congr 1;lia
 simp only[jw,qX,sN,a2X,a5g,a3d,List.sum_nil,a4F,a4G,a5k,Int.add_zero,e]
def Xk(hb:0<b)(hn:n<b ^ S)(hi:i<=S):(Ma.aB b n S S).take i=Ma.aB b (n / b ^ (S-i)) i i:=by
 have:=CS (b:=b) (a:=n) (pl:=S) (o:=0) (l:=i) (by lia);rw[a4o,a4F] at this;rw[this,Nat.mod_eq_of_lt];rw[Nat.div_lt_iff_lt_mul (a4n hb),<-a3F];have:i+(S-i)=S:=by lia
 rw[this];show hn
end Mu
namespace Hv
open PySem L2
inductive kj(vs:List V)(H:Hp)(Q:VK)(aq:XK):Prop
 | mk:∀f a c b ps ws,∀n:Nat,(vs=[.ref f,.int n])->(aV H f a c b ps ws)->(n<=b ^ ps.sum)->(∀H',ae H H'->Q .au H')->kj vs H Q aq
def pd(H:Hp)(b:Nat)(t:Addr)(x:Mu.fI):Prop:=∃h,H t=some (.tup [.ref h,.int (x.2.2:Int)])/\H h=some (.lst (aA (Ma.aB b x.1 x.2.1 x.2.1)))
def pd.keep(h:pd H b t x)(s:ae H H'):pd H' b t x:=let ⟨a,h1,h2⟩:=h;⟨a,s _ _ h1,s _ _ h2⟩
inductive yr(vs:List V)(H:Hp)(Q:VK)(aq:XK):Prop
 | mk:∀f a c b ps ws,∀n:Nat,(vs=[.ref f,.int n])->(aV H f a c b ps ws)->(n<=b ^ ps.sum)->(∀(p:Addr) (ts:List Addr) (L:List Mu.fI) (H':Hp),H p=none->ae H H'->H' p=some (.lst (ts.map V.ref))->Paired (pd H' b) ts L->L.length<=24->(∀x∈L,Mu.uw b ps.sum x)->(∀g,Mu.jw b ps.sum L g=Mg.ns g n)->Q (.ref p) H')->yr vs H Q aq
def KZ:aI ["frame","thing"] ["frame","thing"] (f_ wM):=⟨Z,Z,Z,by decide,Z,by decide,by decide⟩
def K0(F:ay K "need_bound" "need_bound" wM f fd)(D2:ai P w K mg base 2 "is_between" ["thing","least","greatest"] jk)(D6:ai P w K mg base 6 "how_many" ["frame"] lh):av P w K mg base aE 7 f fd ["frame","thing"] kj:=by
 show F.ok KZ λak A outer s H vs Q E hr h=>?_
 .obtain⟨g,a,c,b,ps,ws,n,rfl,G,hn,k⟩:=h;show⟨_,g_<|C_ (N_<|L_<|m_ D2 hr.mo (by rfl)<|a_ (pv 1)<|a_ h_<|a_ (m_ D6 hr (by rfl)<|a_ (pv 0) d_) d_) A_ q_,(⟨_,Z,_,Z,g,a,c,b,ps,ws,Z,G,λH1 s1=>⟨.int n,0,_,Z,.int _,_,Z,?_⟩⟩)⟩;have e:b7 (.int  n ) 0 ((b ^ ps.sum:Nat))=true:=by simp only[b7,a2H,decide_eq_true_eq];lia
  rw[e];show aK<|k H1 s1
def K1:aI ["frame","n","figures"] ["frame","n"] (f_ wN):=⟨Z,Z,Z,by decide,Z,by decide,by decide⟩
def Xl(F:ay K "stretches_below" "stretches_below" wN f fd)(T:Txt mg)(D6:ai P w K mg base 6 "how_many" ["frame"] lh)(D8:ai P w K mg base 8 "figures_of" ["frame","n"] og):av P w K mg base aE 9 f fd ["frame","n"] yr:=by
 show F.ok K1 λak A outer s H vs Q E hr h=>?_
 .obtain⟨g,a,c,b,ps,ws,n,rfl,G,hn,k⟩:=h;have nd:=K1.nd;have ok:=G.ok;have tK:=ok.sum;have b2:=ok.b2;have b0:0<b:=by lia
  show⟨_,b_ (C_ (r_ dW (pv 1) (m_ D6 hr.mo (by rfl) (a_ (pv 0) d_)) (bx _)) (g_ (k_ (x_ (a_ (gX (a_ (x_ d_) (a_ (ce (pv 0) h_) d_))) d_)))) q_) (b_ (j_ 2 (m_ D8 hr (by rfl) (a_ (pv 0) (a_ (pv 1) d_)))) (g_ (k_ (P_ (f_ wN) ["frame","n","figures"] ["figures"] [2] Z (kH (by rfl) T.range (a_ (eV T.len (by rfl) (pv 2)) d_)) (λcl C s H fp=>R' (r_ r9 (sK K Z (pv 1) (pv 0)) h_ (bx _))) (λcl C s H fp=>gX (a_ (jX (Ij K Z) (pv 1) lX (iF (pv 0))) (a_ (sK K Z (pv 1) (pv 0)) d_))) (by decide))))),(⟨_,Z,_,Z,g,a,c,b,ps,ws,Z,G,λH1 s1=>⟨Z,_,Z,?_⟩⟩)⟩;have G1:=G.keep s1;by_cases he:n=b ^ ps.sum
  .rw[decide_eq_true (by rw[he])];show bj ⟨sz (by decide),λp1 kg=>?_⟩;have t1:=e_ (o:=.lst []) kg;have G2:=G1.keep t1;have u1:(ad H1 p1 (.lst [])) p1=_:=c_;generalize ad H1 p1 (.lst [])=H2 at t1 G2 u1⊢;show⟨_,Z,_,_,_,_,Z,Z,aP.of G2.tp,Z,sz (by simp),λp2 cZ=>⟨sz (by simp),λp3 j8=>?_⟩⟩;have t2:=e_ (o:=.tup [.ref p1,.int (b:Int)]) cZ;have t3:=e_ (o:=.lst [.ref p2]) j8;show k p3 [p2] [(0,0,b)] _ (s1.free (t1.free (t2.free j8))) (((s1.trans t1).trans t2).trans t3) c_ (.cons ⟨p1,t3 _ _ c_,t3 _ _ (t2 _ _ u1)⟩ .nil) (by simp) (λx hx=>?_) (λg=>?_)
   .have:x=(0,0,b):=by simpa using hx
    subst this;show⟨by simp only;lia,by simp only;lia,a2D _,by simp⟩
   .rw[he];show Mu.Xj (by lia) g
  .have aJ:n<b ^ ps.sum:=by lia
   rw[decide_eq_false (by intro z;cases z;show he Z)];show aK ⟨_,Z,_,Z,g,a,c,b,ps,ws,n,Z,G1,aJ,λr H2 Ch s2 h2=>?_⟩;have el:(aA (Ma.aB b n ps.sum ps.sum)).length=ps.sum:=by rw[aA,a2x,Ma.R_]
   show⟨_,Z,r,_,Z,.inl (ag.of h2),_,Z,by lia,by lia,AZ (lo:=0) (n:=(((aA (Ma.aB b n ps.sum ps.sum)).length:Nat):Int).toNat) (λi ys H3=>∃ts:List Addr,ys=ts.map V.ref/\ae H2 H3/\Paired (pd H3 b) ts (Mu.upTo b ps.sum n i)) ⟨[],Z,ae.refl _,.nil⟩ ?_ ?_⟩
   .rintro i ys H3 hi ⟨ts,rfl,s3,PR⟩;have cY:i<ps.sum:=by lia
    have tl:ts.length<=i:=by rw[Paired.length PR];show Mu.CW b ps.sum n i
    have ez:(0:Int)+(i:Int)=(i:Int):=a4v _
    have ea:cv (aA (Ma.aB b n ps.sum ps.sum)) (0+(i:Int))=some (.int ((n / b ^ (ps.sum-1-i) % b:Nat):Int)):=by
     rw[ez];show J_ (by rw[aA,a2E,Mu.CQ cY];rfl)
    show⟨bT (by rw[a2x];lia),_,Z,_,Z,sP (s3 _ _ h2) ea ⟨_,_,Z,Z,_,Z,?_⟩⟩;by_cases hd:0<n / b ^ (ps.sum-1-i) % b
    .rw[decide_eq_true (by lia)];show bj ⟨_,Z,_,Z,_,Z,r,_,Z,ag.of (s3 _ _ h2),λq hq=>?_⟩
     have eg:fO (aA (Ma.aB b n ps.sum ps.sum)) none (some (0+(i:Int)))=aA (Ma.aB b (n / b ^ (ps.sum-i)) i i):=by
      rw[ez,Vo,<-Mu.Xk b0 aJ (by lia)];simp[aA,List.map_take]
     rw[eg];have t4:=e_ (o:=.lst (aA (Ma.aB b (n / b ^ (ps.sum-i)) i i))) hq;have u4:(ad H3 q (.lst (aA (Ma.aB b (n / b ^ (ps.sum-i)) i i)))) q=_:=c_;generalize ad H3 q (.lst (aA (Ma.aB b (n / b ^ (ps.sum-i)) i i)))=H4 at t4 u4⊢;show⟨_,Z,_,Z,sP (t4 _ _ (s3 _ _ h2)) ea ⟨sz (by simp),λt ht=>?_⟩⟩;have t5:=e_ (o:=.tup [.ref q,.int ((n / b ^ (ps.sum-1-i) % b:Nat):Int)]) ht;show⟨ts++[t],by rw[a3e];rfl,s3.trans (t4.trans t5),?_⟩;rw[Mu.upTo,if_pos hd];show Paired.snoc (L2.Paired.jK PR λ_ _ h=>pd.keep h (t4.trans t5)) ⟨q,c_,t5 _ _ u4⟩
    .rw[decide_eq_false (by lia)];show aK ⟨ts,Z,s3,?_⟩;rw[Mu.upTo,if_neg hd,a3H];show PR
   .rintro ys H3 ⟨ts,rfl,s3,PR⟩ D hD;have en:(((aA (Ma.aB b n ps.sum ps.sum)).length:Nat):Int).toNat=ps.sum:=by lia
    rw[en] at PR;show k D ts _ _ (s1.free (s2.free (s3.free hD))) ((s1.trans s2).trans (s3.trans (e_ hD))) c_ (L2.Paired.jK PR λ_ _ h=>pd.keep h (e_ hD)) (a2U (Mu.CW _ _ _ _) (by lia)) (Mu.KW b0 aJ _ (a2D _)) (Mu.Xi b0 aJ)
end Hv
namespace Mu
open Me Mg
def lo(b a pl o:Nat):Nat:=if o<=pl then a / b ^ (pl-o) else a*b ^ (o-pl)
def cn(b pl e o:Nat):Nat:=if o<=pl then 1 else e*b ^ (o-pl-1)
def lC(b a pl o l:Nat):Nat:=pq b a pl o l*b ^ (l-pj pl o l)
def lD(b pl e o l:Nat):Nat:=pn pl e o l*b ^ (l-pj pl o l)
def Xm(hb:0<b)(he:e<=b) : lo b a pl (o+l)=lo b a pl o*b ^ l+lC b a pl o l/\cn b pl e (o+l)=cn b pl e o*lD b pl e o l/\(cn b pl e o=1\/(lC b a pl o l=0/\lD b pl e o l=b ^ l))/\lC b a pl o l+lD b pl e o l<=b ^ l:=by
 unfold lo cn lC lD pj pq pn;by_cases hA:o+l<=pl
 .have h1:o<=pl:=by lia
  simp only[if_pos hA,if_pos h1,a4w,a4E,Nat.mul_one];have e1:pl-(o+l)=pl-o-l:=by lia
  have e2:a / b ^ (pl-o)=a / b ^ (pl-o-l) / b ^ l:=by
   rw[a3L,<-a3F];congr 2;lia
  have h2:a / b ^ (pl-o-l) % b ^ l<b ^ l:=a5p _ (a4n hb);show⟨?_,trivial,.inl trivial,h2⟩;rw[e1,e2,a3N];show(a4Y _ _).symm
 .by_cases hC:o<=pl
  .simp only[if_neg hA,if_pos hC];obtain⟨m,hm⟩:∃m,m=pl-o:=⟨_,Z⟩;obtain⟨r,hr⟩:∃r,r=l-m-1:=⟨_,Z⟩;have e1:l-(pl-o+1)=r:=by lia
   have e2:o+l-pl=r+1:=by lia
   have e3:l=m+1+r:=by lia
   show e1▸e2▸hm▸?_;have qY:b ^ l=b ^ m*b*b ^ r:=by rw[e3,a3F,a4c]
   have h2:a % b ^ m<b ^ m:=a5p _ (a4n hb)
   have h3:a % b ^ m*b+e<=b ^ m*b:=by
    have:(a % b ^ m+1)*b<=b ^ m*b:=a3z b h2;rw[a3E] at this;lia
   show⟨?_,?_,.inl trivial,?_⟩
   .have h4:=a4Y a (b ^ m);have h5:a*b ^ (r+1)=(b ^ m*(a / b ^ m)+a % b ^ m)*b ^ (r+1):=by rw[h4]
    rw[h5,qY,a3E,a5v];congr 1;.rw[a3N (b ^ m),a3M,a3M]
    .rw[a3M]
   .have e4:r+1-1=r:=by lia
    rw[e4,a5c]
   .rw[<-a3E,qY];show a3z _ h3
  .simp only[if_neg hA,if_neg hC,a4G,a4F,a5c,a4m,a5k,a2D,and_true,or_true];have e1:o+l-pl=(o-pl)+l:=by lia
   have e2:o+l-pl-1=(o-pl-1)+l:=by lia
   rw[e2,e1,a3F,a3F];show⟨(a3M _ _ _).symm,(a3M _ _ _).symm⟩
def Xn(ha:a<b ^ pl):lo b a pl 0=0:=by
 unfold lo;show a4R ha
def Xo(b pl e:Nat):cn b pl e 0=1:=by unfold cn;rw[if_pos (a3q _)]
def Xp(h:x.2.1<S):lo b x.1 x.2.1 S=qX b S x/\cn b x.2.1 x.2.2 S=sN b S x:=by
 unfold lo cn;rw[if_neg (by lia),if_neg (by lia)];show⟨Z,Z⟩
end Mu
namespace Hv
open PySem L2
theorem yt{α β:Type}{R:α->β->Prop}:∀ {as:List α} {bs:List β},Paired R as bs->∀ {i:Nat} {a:α},as[i]?=some a->∃b,bs[i]?=some b/\R a b
 | _,_,.cons h t,0,a,e=>by cases e;show⟨_,Z,h⟩
 | _,_,.cons h t,i+1,a,e=>by
  obtain⟨b,h1,h2⟩:=yt t e;show⟨b,by show h1,h2⟩
def qZ{qs:List Addr}{i:Nat}(h:(qs.map V.ref)[i]?=some x):∃q,qs[i]?=some q/\x=.ref q:=by
 rw[a2E] at h
 cases e:qs[i]? with
 | none=>rw[e] at h;cases h
 | some d=>rw[e] at h;show⟨d,Z,(a2J h).symm⟩
end Hv
namespace Mu
open Me Mg
def wg(b:Nat)(row:List Int)(one:Int):Int×Int:=(ns (λv=>if cT b v row=one then 1 else 0) (b ^ row.length),ns (λv=>if cT b v row=one then (v:Int) else 0) (b ^ row.length))
def lst(b:Nat)(rows:List (List Int))(one:Int):List ((Int×Int)×Int):=rows.map λrow=>(wg b row one,((b ^ row.length:Nat):Int))
theorem K2{b:Nat}(hb:0<b):∀(bU gk:List Nat) (ws:List Int) (u z:Nat),u<b ^ bU.sum->z<b ^ gk.sum->ws.length=bU.sum+gk.sum->fX b (u*b ^ gk.sum+z) (bU++gk) ws=fX b u bU (ws.take bU.sum)++fX b z gk (ws.drop bU.sum)
 | [],gk,ws,u,z,hu,hz,hw=>by
  have h0:u=0:=by simpa using hu
  subst h0;have e:fX b 0 [] (ws.take ([]:List Nat).sum)=[]:=rfl;rw[e];simp
 | p::bU,gk,ws,u,z,hu,hz,hw=>by
  rw[a3d] at hu hw;have Xq:0<b ^ bU.sum:=a4n hb;have em:u=u / b ^ bU.sum*b ^ bU.sum+u % b ^ bU.sum:=by rw[a3N];show(a4Y u _).symm
  have gf:u % b ^ bU.sum<b ^ bU.sum:=a5p _ Xq;show em▸?_;generalize u / b ^ bU.sum=d at *;generalize u % b ^ bU.sum=m at *
  have e1:(d*b ^ bU.sum+m)*b ^ gk.sum+z=d*b ^ (bU++gk).sum+(m*b ^ gk.sum+z):=by
   rw[a3I,a3F,a3E,a3M];lia
  have aJ:m*b ^ gk.sum+z<b ^ (bU++gk).sum:=by
   rw[a3I,a3F];have:(m+1)*b ^ gk.sum<=b ^ bU.sum*b ^ gk.sum:=a3z _ gf;rw[a3E] at this;lia
  rw[e1,a4B,yl hb aJ (by rw[a3I];lia),K2 hb bU gk (ws.drop p) m z gf hz (by rw[a3c];lia),a3d];rw[yl hb gf (by rw[a3a];lia),a6h,List.drop_take,a5i,a4B];have e2:min p (p+bU.sum)=p:=by lia
  have e3:p+bU.sum-p=bU.sum:=by lia
  rw[e2,e3]
def Xr(hb:0<b){ws:List Int}(hu:u<b ^ bU.sum)(hv:v<b ^ p)(hw:bU.sum+p<=ws.length):fX b (u*b ^ p+v) (bU++[p]) (ws.take (bU.sum+p))=fX b u bU (ws.take bU.sum)++[cT b v ((ws.drop bU.sum).take p)]:=by
 have hs:[p].sum=p:=by simp
 have:=K2 hb bU [p] (ws.take (bU.sum+p)) u v hu (by rw[hs];show hv) (by rw[a3a,hs];lia);rw[hs] at this;rw[this,a6h,a4h (by lia),List.drop_take];have e0:bU.sum+p-bU.sum=p:=by lia
 rw[e0];have hz: 0 <b ^ ([]:List Nat).sum:=by simp
 have e1:=yl (d:=v) (p:=p) (ws:=(ws.drop bU.sum).take p) hb hz (by rw[a3a,a3c];simp;lia);have e2:v*b ^ ([]:List Nat).sum+0=v:=by simp
 rw[e2] at e1;rw[e1,a6h,Nat.min_self];rfl
end Mu
namespace Mx
open Me Mg Mu
def cG:List (List (Int×Int))->(List Int->Int)->Int
 | [],F=>F []
 | g::gs,F=>tg g λx=>cG gs λv=>F (x::v)
theorem K3{lo hi:Int}:∀ {gs:List (List (Int×Int))} {F G:List Int->Int},(∀g∈gs,∀k∈keys g,lo<=k/\k<=hi)->(∀v,v.length=gs.length->(∀x∈v,lo<=x/\x<=hi)->F v=G v)->cG gs F=cG gs G
 | [],_,_,_,h=>h [] Z λ_ z=>by simp at z
 | g :: gs, _, _, hk, h => KI λx hx => K3 (λr hr => hk r<|by simp[hr]) λv hv hb => h _ (by simp[hv]) λy hy => by
   rcases a2B.mp hy with rfl | hy;.show hk g (by simp) _ hx
   .show hb y hy
theorem K4:∀ {gs:List (List (Int×Int))} {F G:List Int->Int},(∀v,v.length=gs.length->F v=G v)->cG gs F=cG gs G
 | [],_,_,h=>h [] Z
 | _::gs,_,_,h=>V_ λx=>K4 λv hv=>h _<|by simp[hv]
theorem CY(c:Int):∀(gs:List (List (Int×Int))) (F:List Int->Int),cG gs (λv=>c*F v)=c*cG gs F
 | [],_=>rfl
 | g::gs,F=>by
  change tg _ _=c*tg _ _;rw[<-uu];show V_ λx=>CY c gs _
theorem K5:∀(gs:List (List (Int×Int))) (F G:List Int->Int),cG gs (λv=>F v-G v)=cG gs F-cG gs G
 | [],_,_=>rfl
 | g::gs,F,G=>by
  change tg _ _=tg _ _-tg _ _;rw[<-KA];show V_ λx=>K5 gs _ _
theorem K6:∀(gs:List (List (Int×Int))) (F G:List Int->Int),cG gs (λv=>F v+G v)=cG gs F+cG gs G
 | [],_,_=>rfl
 | g::gs,F,G=>by
  change tg _ _=tg _ _+tg _ _;rw[<-CI];show V_ λx=>K6 gs _ _
def Xs(gs:List (List (Int×Int))):cG gs (λ_=>0)=0:=by
 have:=CY 0 gs λ_=>0;simp only[a5J] at this;show this
theorem K7(gs:List (List (Int×Int)))(F:Int->List Int->Int)(a:Int):∀n:Nat,cG gs (λv=>Mq.sm (λt=>F t v) a n)=Mq.sm (λt=>cG gs (F t)) a n
 | 0=>Xs gs
 | n+1=>by
  simp only[Mq.sm];rw[K6,K7 gs F a n]
theorem K8(h:Int->Int):∀gs:List (List (Int×Int)),cG gs (fp h)=gs.foldl (λm g=>m*tg g h) 1
 | []=>rfl
 | g::gs=>by
  have e:∀(rs:List _)  c ,rs.foldl _ c=c*rs.foldl (λm g=>m*tg g h) 1:=λrs=>by
   induction rs with
   | nil=>intro c;simp
   | cons r rs ih=>intro c;rw[a2W,a2W,ih _,ih (1*_),a4O,a4T]
  rw[a2W,e gs,a4O,<-K8 h gs];change tg g _=_
  have e2:∀x,cG gs (λv=>fp h _)=cG gs (fp h)*h x:=λx=>by
   rw[a5K,<-CY]
   show K4 λv _=>by
    unfold fp;rw[a2W,uv,a4O]
  rw[V_ e2,uu,a5K]
def Xt(nd:(keys g).Nodup)(a:Int)(n:Nat):tg g (iv a n)=Mq.sm (λt=>gv g t) a n:=by
 have e:=λx=>(ym x a n).symm;rw[V_ e,CK g _];apply Mq.lA;show λt _ _=>yn nd
def K9(hg:∀g∈gs,fV g)(a:Int)(n:Nat):cG gs (fp (iv a n))=Mq.pr (fG gs) a n:=by
 rw[K8];unfold Mq.pr fG;rw[List.foldl_map]
 have aL:∀(rs:List _)  c ,(∀g∈rs,fV g)->rs.foldl (λm g=>m*tg g _) c=rs.foldl (λm g=>m*Mq.sm (λt=>gv g t) a n) c:=λrs=>by
  induction rs with
  | nil=>intro c _;rfl
  | cons r rs ih =>
   intro c h;rw[a2W,a2W,Xt (h r<|by simp).nd];show ih _ λg hg=>h g<|by simp[hg]
 show aL gs 1 hg
def K'(aZ:0<gs.length)(hg:∀g∈gs,fV g)(d:Nat):oP gs d=cG gs λv=>if mK v<=d then 1 else 0:=by
 have nl:0<(bN gs).length:=by rw[bN,a2x];show aZ
 have nh:0<(cf gs).length:=by rw[cf,a2x];show aZ
 rw[K3 (lo:=Ma.aQ (bN gs)) (hi:=Ma.bA (cf gs)) (λg oQ k hk=>⟨?_,?_⟩) λv hv hx=>?_]
 .rw[K7 gs λa v=>fp (iv a _) v-fp (iv (a+1) d) v];apply Mq.lA;intro a _ _;rw[K5,K9 hg,K9 hg];rfl
 .have h1:=(Ma.E_ _ (hg g oQ).ne).2 k hk;have h2:=(Ma.E_ _ nl).2 _ (a2N.mpr ⟨g,oQ,Z⟩);lia
 .have h1:=(Ma.H_ _ (hg g oQ).ne).2 k hk;have h2:=(Ma.H_ _ nh).2 _ (a2N.mpr ⟨g,oQ,Z⟩);lia
 .have lB:0<v.length:=by lia
  have m1:=hx _ (Ma.E_ v lB).1;show KN lB (by lia)<|by lia
theorem La(g:List (Int×Int)):∀(gs:List (List (Int×Int))) (F:List Int->Int),cG (gs++[g]) F=cG gs λv=>tg g λx=>F (v++[x])
 | [],F=>rfl
 | h::gs,F=>by
  show V_ λx=>La g gs _
structure mM(g:List (Int×Int))(lo n:Nat)(s:Nat->Int):Prop where
 ok:fV g
 eq:∀F:Int->Int,tg g F=ns (λi=>F (s (lo+i))) n
theorem Lb{b:Nat}(hb:0<b){x:fI}(he:x.2.2<=b)(h1:1<=x.2.2)(ha:x.1<b ^ x.2.1){ps:List Nat}{ws:List Int}(hw:ws.length=ps.sum){gs:List (List (Int×Int))}(hl:gs.length=ps.length) (hg:∀i l row g,ps[i]?=some l->(Ma.aW ps ws)[i]?=some row->gs[i]?=some g->mM g (lC b x.1 x.2.1 (ps.take i).sum l) (lD b x.2.1 x.2.2 (ps.take i).sum l) (λn=>cT b n row)) : ∀j,j<=ps.length->lo b x.1 x.2.1 (ps.take j).sum+cn b x.2.1 x.2.2 (ps.take j).sum<=b ^ (ps.take j).sum/\∀F:List Int->Int,cG (gs.take j) F=ns (λk=>F (fX b (lo b x.1 x.2.1 (ps.take j).sum+k) (ps.take j) (ws.take (ps.take j).sum))) (cn b x.2.1 x.2.2 (ps.take j).sum)
 | 0,_=>by
  have e1:(ps.take 0).sum=0:=by simp
  rw[e1,Xn ha,Xo];show⟨by simp,λF=>?_⟩;simp only[ns,a4v];rfl
 | j+1,hj=>by
  obtain⟨CZ,ih⟩:=Lb hb he h1 ha hw hl hg j (by lia);obtain⟨l,cW⟩:∃l,ps[j]?=some l:=⟨_,a2T (by lia)⟩;obtain⟨g,qj⟩:∃g,gs[j]?=some g:=⟨_,a2T (by lia)⟩;have bJ:=Ma.wF ps ws j l cW;have R:=hg j l _ g cW bJ qj;have st:=Xm (a:=x.1) (pl:=x.2.1) (o:=(ps.take j).sum) (l:=l) hb he;have et:ps.take (j+1)=ps.take j++[l]:=by rw[a2I,cW];rfl
  have es:(ps.take (j+1)).sum=(ps.take j).sum+l:=by rw[et,a3I];simp
  have iO:(ps.take j).sum+l<=ws.length:=by
   have h2:=congrArg List.sum (a3i (j+1) ps);rw[a3I] at h2;lia
  obtain⟨A,hA⟩:∃A,A=(ps.take j).sum:=⟨_,Z⟩;have Xu:gs.take (j+1)=gs.take j++[g]:=by rw[a2I,qj];rfl
  show es▸st.1▸st.2.1▸?_;show⟨?_,λF=>?_⟩
  .rw[a3F];rcases st.2.2.1 with q | ⟨q1,q2⟩
   .rw[q] at CZ⊢;have:(lo b x.1 x.2.1 (ps.take j).sum+1)*b ^ l<=b ^ (ps.take j).sum*b ^ l:=a3z _ CZ;rw[a3E] at this;lia
   .rw[q1,q2,a4m,<-a3E];show a3z _ CZ
  .rw[Xu,La,ih]
   have e2:∀k,k<cn b x.2.1 x.2.2 (ps.take j).sum->tg g (λy=>F (fX b (lo b x.1 x.2.1 (ps.take j).sum+k) (ps.take j) (ws.take (ps.take j).sum)++[y]))=ns (λi=>F (fX b ((lo b x.1 x.2.1 (ps.take j).sum+k)*b ^ l+(lC b x.1 x.2.1 (ps.take j).sum l+i)) (ps.take (j+1)) (ws.take ((ps.take j).sum+l)))) (lD b x.2.1 x.2.2 (ps.take j).sum l):=λk hk=>by
    rw[R.eq];show jv λi hi=>?_;rw[et,Xr hb (by lia) (by lia) iO]
   rw[jv e2,W7 (λm=>F (fX b m (ps.take (j+1)) (ws.take ((ps.take j).sum+l)))) st.2.2.1]
def Xv(hb:0<b)(SO:uw b ps.sum x)(hw:ws.length=ps.sum)(hl:gs.length=ps.length) (hg:∀i l row g,ps[i]?=some l->(Ma.aW ps ws)[i]?=some row->gs[i]?=some g->mM g (lC b x.1 x.2.1 (ps.take i).sum l) (lD b x.2.1 x.2.2 (ps.take i).sum l) (λn=>cT b n row)) (F:List Int->Int) : cG gs F=ns (λk=>F (fX b (qX b ps.sum x+k) ps ws)) (sN b ps.sum x):=by
 have h:=(Lb hb SO.eb SO.e1 SO.ha hw hl hg _<|a2D _).2 F;have e1:gs.take ps.length=gs:=by rw[<-hl,a2M]
 have e2:ws.take ps.sum=ws:=by rw[<-hw,a2M]
 have ki:=Xp (b:=b) SO.pl;rw[e1,a2M,e2,ki.1,ki.2] at h;show h
def Lc(h:f.Perm g)(F:Int->Int):tg f F=tg g F:=by show Me.Ka<|h.map _
def Xw{f:List (Int×Int)}(h:f[i]?=some p)(F:Int->Int):tg (f.take (i+1)) F=tg (f.take i) F+p.2*F p.1:=by
 unfold tg;rw[a2I,h,a3e,a3I];simp
def mM.of{lo n:Nat}(o:Ok g 810)(hn:0<n)(hm:n<=16777216)(eq:∀F:Int->Int,tg g F=ns (λi=>F (s (lo+i))) n):mM g lo n s:=by
 have aZ:0<(keys g).length:=by
  cases g with
  | nil =>
   have:=eq λ_=>1;rw[yp] at this;have e:tg [] (λ_=> 1 )=0:=rfl;rw[e] at this;lia
  | cons p r=>simp[keys]
 show⟨⟨aZ,o.nd,o.bd,λt=>?_⟩,eq⟩;rw[<-yn o.nd,eq];show⟨CL λi _=>by split <;> decide,?_⟩;have h1:=CO (g:=λi=>if s (lo+i)=t then  1  else 0) (h:=λ_=>1) (n:=n) λi _=>by split <;> decide
 rw[yp,a6e] at h1;lia
end Mx
namespace Hv
open PySem L2
def pe(H:Hp)(b:Nat)(ts:List Addr)(ws:List Int):Prop:=∀(k:Nat) (t:Addr),ts[k]?=some t->∃g,H t=some (.dK (aH g))/\g.Perm (Me.aT b (ws.drop k))
def pe.keep(h:pe H b ts ws)(s:ae H H'):pe H' b ts ws:=λk t e=>let ⟨g,a1,a2⟩:=h k t e;⟨g,s _ _ a1,a2⟩
inductive yu(vs:List V)(H:Hp)(Q:VK)(aq:XK):Prop
 | mk:∀(b:Nat) (c:Addr) (ws:List Int),(vs=[.int b,.ref c])->(H c=some (.lst (ws.map V.int)))->(b<=16)->((∀x∈ws,-9<=x/\x<=9))->(ws.length<=6)->(∀(p:Addr) (ts:List Addr) (H':Hp),H p=none->ae H H'->H' p=some (.lst (ts.map V.ref))->ts.length=ws.length+1->pe H' b ts ws->Q (.ref p) H')->yu vs H Q aq
def lE(H:Hp)(b:Nat)(ps:List Nat)(ws:List Int)(aU:List Addr):Prop:=∀(i:Nat) (row:List Int) (d:Addr),(Ma.aW ps ws)[i]?=some row->aU[i]?=some d->∃ts:List Addr,H d=some (.lst (ts.map V.ref))/\ts.length=row.length+1/\pe H b ts row
theorem lE.keep(h:lE H b ps ws aU)(s:ae H H'):lE H' b ps ws aU:=λi row d a1 a2=>let ⟨ts,b1,b2,b3⟩:=h i row d a1 a2;⟨ts,s _ _ b1,b2,b3.keep s⟩
inductive pf(vs:List V)(H:Hp)(Q:VK)(aq:XK):Prop
 | mk:∀f a c b ps ws,(vs=[.ref f])->(aV H f a c b ps ws)->(∀(p:Addr) (aU:List Addr) (H':Hp),H p=none->ae H H'->H' p=some (.lst (aU.map V.ref))->aU.length=ps.length->lE H' b ps ws aU->Q (.ref p) H')->pf vs H Q aq
inductive yv(vs:List V)(H:Hp)(Q:VK)(aq:XK):Prop
 | mk:∀(b:Nat) (rl c tl:Addr) (rs ts:List Addr) (ws:List Int) (q j:Nat),(vs=[.ref rl,.ref c,.ref tl])->(H rl=some (.lst (rs.map V.ref)))->(H c=some (.lst (ws.map V.int)))->(H tl=some (.lst (ts.map V.ref)))->(ts.length=ws.length+1)->(pe H b ts ws)->(2<=b)->(b<=16)->((∀x∈ws,-9<=x/\x<=9))->(ws.length<=6)->(j<=ws.length)->(mL H b j q rs)->(0<rs.length)->(∀(p:Addr) (g:List (Int×Int)) (H':Hp),H p=none->ae H H'->H' p=some (.dK (aH g))->Mx.mM g (q*b ^ (ws.length-j)) (rs.length*b ^ (ws.length-j)) (λn=>Mg.cT b n ws)->Q (.ref p) H')->yv vs H Q aq
def Xx:aI ["base","weights"] ["base","weights"] (f_ wP):=⟨Z,Z,Z,by decide,Z,by decide,by decide⟩
def Xy(F:ay K "tails_of_part" "tails_of_part" wP f fd)(T:Txt mg)(DV:ai P w K mg base 2 "ways_of_weights" ["base","weights"] ub):av P w K mg base aE 3 f fd ["base","weights"] yu:=by
 show F.ok Xx λak A outer s H vs Q E hr h=>?_
 .obtain⟨b,c,ws,rfl,hc,hb,hw,oZ,k⟩:=h;show⟨_,g_ (k_ (P_ (f_ wP) ["base","weights"] ["base","weights"] [0,1] Z (kH (by rfl) T.range (a_ (o_ Q_ (eV T.len (by rfl) (pv 1)) h_) d_)) (λcl C s H fp=>O_) (λcl C s H fp=>m_ DV hr (by rfl) (a_ (pv 1) (a_ (jX (Ij K Z) (pv 2) (iF (pv 0)) lX) d_))) (by decide))),?_⟩;have el:(((ws.map V.int).length:Nat):Int)=(ws.length:Int):=by rw[a2x]
  show⟨_,Z,c,_,Z,.inl (ag.of hc),_,_,Z,Z,_,Z,by rw[el];lia,by rw[el];lia,AZ (λi ys H'=>∃ts:List Addr,ys=ts.map V.ref/\ts.length=i/\ae H H'/\pe H' b ts ws) ⟨[],Z,Z,ae.refl _,λk t e=>by simp at e⟩ ?_ ?_⟩
  .rintro i ys H1 hi ⟨ts,rfl,cw,s1,TC⟩;have cY:i<=ws.length:=by rw[el] at hi;lia
   have ei:(0:Int)+(i:Int)=(i:Int):=a4v _;rw[ei];show⟨bT (by rw[a2x];lia),_,Z,_,Z,_,Z,_,Z,c,_,Z,ag.of (s1 _ _ hc),λsl km=>?_⟩
   have ec:fO (ws.map V.int) (some (i:Int)) none=(ws.drop i).map V.int:=by
    unfold fO;rw[HT.vY,HT.Hf,a2x,a4h cY,a5V,a3f (by rw[a3c,a2x];lia)]
   show ec▸?_;have s2:=e_ (o:=.lst ((ws.drop i).map V.int)) km;have u2:(ad H1 sl (.lst ((ws.drop i).map V.int))) sl=_:=c_;show⟨b,sl,ws.drop i,Z,u2,hb,λx hx=>hw x (a3D hx),by rw[a3c];lia,λp H3 g hp s3 j8 perm=>?_⟩;have S3:=s1.trans (s2.trans s3);show⟨ts++[p],by simp,by simp[cw],S3,λk t e=>?_⟩;by_cases hm:k<ts.length
   .rw[a3k hm] at e;show TC.keep (s2.trans s3) k t e
   .have hk:k=i:=by
     have:=(a2z.mp e).1;simp at this;lia
    subst hk;rw[a3o (by lia),cw,a4w] at e;have e1:p=t:=by simpa using e
    subst e1;show⟨g,j8,perm⟩
  .rintro ys H1 ⟨ts,rfl,cw,s1,TC⟩ l hl;have Xz:ts.length=ws.length+1:=by rw[cw,el];lia
   show k l ts _ (s1.free hl) (s1.trans (e_ hl)) c_ Xz (TC.keep (e_ hl))
def XA:aI ["frame"] ["frame"] (f_ wQ):=⟨Z,Z,Z,by decide,Z,by decide,by decide⟩
def XB(F:ay K "tails_of_parts" "tails_of_parts" wQ f fd)(DC:ai P w K mg base 1 "cut_by_parts" ["frame","row"] oq)(DT:ai P w K mg base 3 "tails_of_part" ["base","weights"] yu):av P w K mg base aE 4 f fd ["frame"] pf:=by
 show F.ok XA λak A outer s H vs Q E hr h=>?_
 .obtain⟨g,a,c,b,ps,ws,rfl,G,k⟩:=h;have ok:=G.ok;have l4:=ok.l4;show⟨_,g_ (k_ (P_ (f_ wQ) ["frame"] ["frame"] [0] Z (B_ (m_ DC hr.mo (by rfl) (a_ (pv 0) (a_ (ce (pv 0) h_) d_)))) (λcl C s H fp=>O_) (λcl C s H fp=>m_ DT hr (by rfl) (a_ (Ii K Z (pv 1) h_) (a_ (pv 0) d_))) (by decide))),(⟨_,Z,_,Z,_,_,_,_,Z,Z,aP.of G.tp,Z,g,a,c,b,ps,ws,c,ws,Z,G,G.hw,λwp qs H3 s3 Ld rows=>⟨wp,Z,⟨_,ag.of Ld⟩,z_ (K:=K) (a:=wp) (xs:=qs.map V.ref) (λi ys H4=>∃aU:List Addr,ys=aU.map V.ref/\aU.length=i/\ae H3 H4/\lE H4 b ps ws aU) ⟨[],Z,Z,ae.refl _,λi row d _ h=>by simp at h⟩ (λi ys H4 _ p=>by obtain⟨_,_,_,z,_⟩:=p;show ag.of (z _ _ Ld)) ?_ ?_⟩⟩)⟩
  .rintro i x ys H4 hx ⟨aU,rfl,cw,s4,TA⟩;obtain⟨wq,C0,rfl⟩:=qZ hx;obtain⟨row,bJ,Lf⟩:=yt rows C0;have ux:=a2A bJ;have G4:=(G.keep s3).keep s4
   have hi:i<4:=by
    have h1:=(a2z.mp bJ).1;rw[Ma.X_] at h1;lia
   show⟨bT (by rw[a2x];lia),_,Z,_,_,_,_,Z,Z,aP.of G4.tp,Z,_,Z,b,wq,row,Z,s4 _ _ Lf,ok.cz,λy hy=>ok.wr y (Ma.qt ux y hy),Ma.qu (λp hp=>(ok.pr p hp).2) ux,λp ts H5 hp s5 XC XD TT=>⟨aU++[p],by rw[a3e];rfl,by simp[cw],s4.trans s5,λm lx d' a1 a2=>?_⟩⟩;by_cases hm:m<aU.length
   .rw[a3k hm] at a2;show TA.keep s5 m lx d' a1 a2
   .have iP:m=i:=by
     have:=(a2z.mp a2).1;simp at this;lia
    subst iP;rw[a3o (by lia),cw,a4w] at a2;have e1:p=d':=by simpa using a2
    subst e1;rw[bJ] at a1;cases a1;show⟨ts,XC,XD,TT⟩
  .rintro ys H4 ⟨aU,rfl,cw,s4,TA⟩ D hD;have fi:aU.length=ps.length:=by rw[cw,a2x,Paired.length rows,Ma.X_]
   show k D aU _ (s3.free (s4.free hD)) (s3.trans (s4.trans (e_ hD))) c_ fi (TA.keep (e_ hD))
def Lg:aI ["rows","weights","tails","ways","row","begun","tail","total"] ["rows","weights","tails"] (f_ Bt):=⟨Z,Z,Z,by decide,Z,by decide,by decide⟩
def XE(F:ay K "ways_from_beginnings" "ways_from_beginnings" Bt f fd)(T:Txt mg)(DW:ai P w K mg base 1 "weighted_sum" ["figures","weights"] yj):av P w K mg base aE 2 f fd ["rows","weights","tails"] yv:=by
 show F.ok Lg λak A outer s H vs Q E hr h=>?_
 .obtain⟨b,rl,c,tl,rs,ts,ws,q,j,rfl,fW,hc,cw,Lh,TC,ld,hb,hw,oZ,hj,RD,XF,k⟩:=h;have nd:=Lg.nd;have hu:=nX hr;show⟨_,b_ (j_ 3 tD) (b_ (Z_ PassesOwn.never Z (B_ (pv 0)) (u_ 4) (b_ (j_ 5 (m_ DW hr.mo (by rfl) (a_ (pv 4) (a_ (pv 1) d_)))) (b_ (j_ 6 (bH (pv 2) (eV T.len (by rfl) (pv 4)))) (b_ (Z_ PassesOwn.never Z (tO (pv 6)) (u_ 7) (g_ (tq hu (pv 3) (o_ Q_ (pv 5) (pv 7)) (o_ Q_ (xk hu (pv 3) (o_ Q_ (pv 5) (pv 7)) h_ ⟨Z,Z,Z,Z⟩) (qC hu (pv 6) (pv 7) (λ_ _=>rfl))) Z))) (tM q_))))) (g_ (k_ (pv 3)))),?_⟩;intro p hp;have s0:ae H (ad H p (.dK [])):=e_ hp;have u0:(ad H p (.dK [])) p=some (.dK (aH [])):=c_;generalize ad H p (.dK [])=H0 at s0 u0⊢;have b0:0<b:=by lia
  obtain⟨r2,gK⟩:∃r,r=ws.drop j:=⟨_,Z⟩;have XG:r2.length=ws.length-j:=by rw[gK,a3c]
  have XH:ws.take j++r2=ws:=by rw[gK];show a3i j ws
  have hjp:q+(rs.length-1)<b ^ j:=by
   obtain⟨a,ha⟩:∃a,rs[rs.length-1]?=some a:=⟨_,a2T (by lia)⟩;show(RD _ a ha).2
  have XI:rs.length*b ^ (ws.length-j)<=16777216:=by
   have h1:rs.length*b ^ (ws.length-j)<=b ^ j*b ^ (ws.length-j):=a3z _ (by lia);rw[<-a3F,show j+(ws.length-j)=ws.length by lia] at h1;have h2:b ^ ws.length<=16 ^ 6:=a2U (a5H hb _) (a4N (by decide) oZ);have Li:(16:Nat) ^ 6=16777216:=by decide
   lia
  have XJ:0<rs.length*b ^ (ws.length-j):=Nat.mul_pos XF (a4n b0);show⟨_,Z,rl,Z,⟨_,ag.of (s0 _ _ fW)⟩,kI (K:=K) (a:=rl) (xs:=rs.map V.ref) (λi σ H2=>∃v4 v5 v6 v7,σ=[some (.ref rl),some (.ref c),some (.ref tl),some (.ref p),v4,v5,v6,v7]/\ae H H2/\∃gl,H2 p=some (.dK (aH gl))/\Me.Ok gl 810/\∀F:Int->Int,Mg.tg gl F=Mg.ns (λn=>F (Mg.cT b (q*b ^ (ws.length-j)+n) ws)) (i*b ^ (ws.length-j))) ⟨none,none,none,none,Z,s0,[],u0,Me.Ok.nil,λF=>by rw[a4G];rfl⟩ (λi σ H2 _ h=>by obtain⟨_,_,_,_,_,z,_⟩:=h;show ag.of (z _ _ fW)) ?_ ?_⟩
  .rintro i x σ H2 hx ⟨v4,v5,v6,v7,rfl,s2,g0,p2,aO,yw⟩;obtain⟨ra,XM,rfl⟩:=qZ hx;obtain⟨bJ,aJ⟩:=RD i ra XM;show⟨_,Z,_,Z,ra,c,_,ws,Z,s2 _ _ bJ,s2 _ _ hc,hw,by rw[Ma.R_];show hj,oZ,λH3 s3=>?_⟩;rw[W5 hj];have S3:=s2.trans s3;have er:(((aA (Ma.aB b (q+i) j j)).length:Nat):Int)=(j:Int):=by rw[aA,a2x,Ma.R_]
   obtain⟨t,e1⟩:∃t,ts[j]?=some t:=⟨_,a2T (by lia)⟩;obtain⟨g,e2,perm⟩:=TC j t e1;have XN:cv (ts.map V.ref) (j:Int)=some (.ref t):=J_ (by rw[a2E,e1];rfl);show⟨_,Z,_,Z,ra,_,Z,.inl (ag.of (S3 _ _ bJ)),⟨tl,_,(((aA (Ma.aB b (q+i) j j)).length:Nat):Int),_,Z,Z,ag.of (S3 _ _ cw),by rw[er];show XN,?_⟩⟩;have p3:=s3 _ _ p2;have t3:=S3 _ _ e2;have C1:t≠p:=l_ e2 hp;rw[<-gK] at perm;have rc:=Me.xE (b:=b) (ws:=r2) (λx hx=>hw x (by rw[gK] at hx;show a3D hx)) hb;have XO:(Me.keys g).Nodup:=((perm.map _).nodup_iff).mpr rc.nd;have XQ:∀x∈Me.keys g,-(135*(r2.length:Int))<=x/\x<=135*(r2.length:Int):=λx hx=>rc.bd x ((perm.map Prod.fst).mem_iff.mp hx);generalize Lj:Mg.cT b (q+i) (ws.take j)=bg;have XR:=W6 (b:=b) (q:=q+i) (r:=ws.take j) b0 hb λx hx=>hw x (a4e hx);have XS:(ws.take j).length=j:=by rw[a3a];lia
   rw[XS,Lj] at XR;show⟨_,Z,t,aH g,Z,t3,λo=>tP (λm σ H4=>∃v7,σ=[some (.ref rl),some (.ref c),some (.ref tl),some (.ref p),some (.ref ra),some (.int bg),some (.ref t),v7]/\H4 t=some (.bV o (.dK (aH g)))/\Kp [t] H H4/\∃g4,H4 p=some (.dK (aH g4))/\Me.Ok g4 810/\∀F:Int->Int,Mg.tg g4 F=Mg.tg g0 F+Mg.tg (g.take m) λx=>F (bg+x)) ⟨v7,Z,c_,sQ (Kp.of S3) (.inl (by simp)),g0,?_,aO,λF=>by simp[Mg.tg]⟩ (λm σ H4 _ h=>by obtain⟨_,_,z,_⟩:=h;show z) ?_ ?_⟩;.rw[i_ C1.symm];show p3
   .rintro m kk v σ H4 hk ⟨v7,rfl,ft,C2,g4,p4,bu,yx⟩;obtain⟨pr,qO,rfl,rfl⟩:=Cj hk;have pm:=a2A qO;have pb:=XQ pr.1 (a2N.mpr ⟨pr,pm,Z⟩)
    have dg:iI H4 t (.int pr.1) (some (.int pr.2)):=by
     have z:=oH (k:=pr.1) (.inr ⟨o,ft⟩);rw[Me.oB XO pm] at z;show z
    have bE:=Me.Ok.len (m:=810) bu;show⟨_,Z,p,Z,.inl ⟨_,.inl p4⟩,_,Z,_,Z,_,_,Z,Z,_,oH (.inl p4),_,Z,_,Z,t,.int pr.2,Z,dg,_,_,xL _,Z,_,Z,_,Z,_,Z,_,_,Z,Z,p,_,Z,Ck p4 (by lia),⟨_,Z,?_,?_,Me.eG g4 (bg+pr.1) pr.2,c_,?_,λF=>?_⟩⟩;.rw[i_ C1];show ft
    .show sQ C2 (.inr hp)
    .show bu.put (by lia)
    .rw[Mg.CF bu.nd,yx F,Mx.Xw qO];show Int.add_assoc _ _ _
   .rintro σ H4 ⟨v7,rfl,ft,C2,g4,p4,bu,yx⟩;have el:(aH g).length=g.length:=by rw[aH,a2x]
    rw[el,a2M] at yx
    show⟨t,o,aH g,ft,(λo' u z=>by
     have z':H t=some (.bV o' u):=z;rw[e2] at z';cases z'),_,_,_,_,Z,λx ob e=>?_,g4,?_,bu,λF=>?_⟩
    .by_cases hx:x=t;.rw[hx,c_,<-e2,<-hx];show e
     .rw[i_ hx];show C2 x ob e (by simpa using hx)
    .rw[i_ C1.symm];show p4
    .rw[yx,yw,a3E,a5c,Mg.ut,Mx.Lc perm,<-Mg.Kx b (λx=>F (bg+x)) r2,<-XG];congr 1;apply Mg.jv;intro d hd;have e5:q*b ^ r2.length+(i*b ^ r2.length+d)=(q+i)*b ^ r2.length+d:=by rw[a3E];lia
     have e6:=Mu.W4 (b:=b) (d:=q+i) (i:=d) (r1:=ws.take j) (r2:=r2) b0 hd;rw[XH,Lj] at e6;change F _=F _;rw[e5,e6]
  .rintro σ H2 ⟨v4,v5,v6,v7,rfl,s2,gl,p2,aO,yw⟩;rw[a2x] at yw;show⟨_,Z,k p gl H2 hp s2 p2 (Mx.mM.of aO XJ XI yw)⟩
end Hv
namespace Mx
open Me Mg Mu
def eO(b d:Nat)(ps:List Nat)(ws:List Int)(m:Nat):Int:=if mK (fX b m ps ws)<=d then 1 else 0
def aD(b d:Nat)(ps:List Nat)(ws:List Int)(n:Nat):Int:=ns (eO b d ps ws) n
def dL(b d:Nat)(ps:List Nat)(ws:List Int)(x:fI):Int:=ns (λi=>eO b d ps ws (qX b ps.sum x+i)) (sN b ps.sum x)
def XT(hb:0<b)(hp:0<ps.length)(SO:uw b ps.sum x)(hw:ws.length=ps.sum)(hl:gs.length=ps.length) (hg:∀i l row g,ps[i]?=some l->(Ma.aW ps ws)[i]?=some row->gs[i]?=some g->mM g (lC b x.1 x.2.1 (ps.take i).sum l) (lD b x.2.1 x.2.2 (ps.take i).sum l) (λn=>cT b n row)) (ok:∀g∈gs,fV g):oP gs d=dL b d ps ws x:=by
 rw[K' (by lia) ok,Xv hb SO hw hl hg];rfl
def XU(h:∀g,jw b ps.sum L g=ns g n):(L.map (dL b d ps ws)).sum=aD b d ps ws n:=by
 unfold aD;rw[<-h];rfl
end Mx
namespace Hv
open PySem L2
def XV(H:Hp)(b:Nat)(ps:List Nat)(ws:List Int)(x:Mu.fI)(ds:List Addr)(gs:List (List (Int×Int))):Prop:=qQ H ds gs/\∀(i l:Nat) (row:List Int) (g:List (Int×Int)),ps[i]?=some l->(Ma.aW ps ws)[i]?=some row->gs[i]?=some g-> Mx.mM g (Mu.lC b x.1 x.2.1 (ps.take i).sum l) (Mu.lD b x.2.1 x.2.2 (ps.take i).sum l) (λn=>Mg.cT b n row)
inductive uy(vs:List V)(H:Hp)(Q:VK)(aq:XK):Prop
 | mk:∀f A c b ps ws,∀(tl hd:Addr) (aU:List Addr) (x:Mu.fI) (d:Nat),(vs=[.ref f,.ref tl,.int d,.ref hd,.int (x.2.2:Int)])->(aV H f A c b ps ws)->(H tl=some (.lst (aU.map V.ref)))->(aU.length=ps.length)->(lE H b ps ws aU)->(H hd=some (.lst (aA (Ma.aB b x.1 x.2.1 x.2.1))))->(Mu.uw b ps.sum x)->(∀H':Hp,ae H H'->Q (.int (Mx.dL b d ps ws x)) H')->uy vs H Q aq
def Lk:aI ["frame","tails_by_part","d","head","end","beginnings","weights_by_part","ways_by_part","rows","weights","tails"] ["frame","tails_by_part","d","head","end"] (f_ Bu):=⟨Z,Z,Z,by decide,Z,by decide,by decide⟩
def XW(F:ay K "count_begun" "count_begun" Bu f fd)(T:Txt mg)(DP:ai P w K mg base 1 "part_beginnings" ["frame","head","end"] yq)(DC:ai P w K mg base 1 "cut_by_parts" ["frame","row"] oq) (DW:ai P w K mg base 2 "ways_from_beginnings" ["rows","weights","tails"] yv) (DJ:ai P w K mg base 2 "count_spread_within" ["ways_by_part","width"] uj):av P w K mg base aE 3 f fd ["frame","tails_by_part","d","head","end"] uy:=by
 show F.ok Lk λak A outer s H vs Q E hr h=>?_
 .obtain⟨g,A',c,b,ps,ws,tl,hd,aU,x,d,rfl,G,cw,XX,TA,qW,SO,k⟩:=h;have nd:=Lk.nd;have ok:=G.ok;have l4:=ok.l4;have l2:=ok.l2;have tK:=ok.sum;have cy:=SO.pl;show⟨_,b_ (j_ 5 (m_ DP hr.mo (by rfl) (a_ (pv 0) (a_ (pv 3) (a_ (pv 4) d_))))) (b_ (j_ 6 (m_ DC hr.mo (by rfl) (a_ (pv 0) (a_ (ce (pv 0) h_) d_)))) (b_ (j_ 7 (x_ d_)) (b_ (Z_ PassesOwn.never Z (WM (by rfl) T.zip (pv 5) (pv 6) (pv 1)) (Gy Z (W_ (u_ 8) (W_ (u_ 9) (W_ (u_ 10) p7)))) (g_ (t_ (dh PySem.F.plainAttrs_list PySem.F.slot_list_append PySem.F.type_list_append kS (pv 7) (a_ (m_ DW hr (by rfl) (a_ (pv 8) (a_ (pv 9) (a_ (pv 10) d_)))) d_))))) (g_ (k_ (m_ DJ hr (by rfl) (a_ (pv 7) (a_ (pv 2) d_)))))))),⟨_,Z,_,Z,_,Z,g,A',c,b,ps,ws,hd,x.1,x.2.1,x.2.2,Z,G,qW,SO.eb,by lia,λbp bs H1 hbp s1 tV qY BA=>?_⟩⟩;have G1:=G.keep s1;show⟨_,Z,_,Z,_,_,_,_,Z,Z,aP.of G1.tp,Z,g,A',c,b,ps,ws,c,ws,Z,G1,G1.hw,λwp qs H2 s2 C3 rows=>?_⟩;have G2:=G1.keep s2;have XY:qs.length=ps.length:=by rw[Paired.length rows,Ma.X_]
  show⟨sz (by decide),λsl km=>?_⟩;have s3:=e_ (o:=.lst []) km;have C4:H sl=none:=s1.free (s2.free km);have u3:(ad H2 sl (.lst [])) sl=_:=c_;have S3:ae H (ad H2 sl (.lst [])):=(s1.trans s2).trans s3;have yy:ae H1 (ad H2 sl (.lst [])):=s2.trans s3;generalize ad H2 sl (.lst [])=H3 at s3 u3 S3 yy⊢;show⟨_,Z,_,Z,_,Z,bp,wp,tl,Z,Z,Z,⟨_,ag.of (yy _ _ tV)⟩,⟨_,ag.of (s3 _ _ C3)⟩,⟨_,ag.of (S3 _ _ cw)⟩,WN (K:=K) (a:=bp) (b:=wp) (c:=tl) (xs:=bs.map V.ref) (ys:=qs.map V.ref) (zs:=aU.map V.ref) (λi σ H4=>∃(ds:List Addr) (gs:List (List (Int×Int))) (v7 v8 v9:Option V),σ=[some (.ref g),some (.ref tl),some (.int d),some (.ref hd),some (.int (x.2.2:Int)),some (.ref bp),some (.ref wp),some (.ref sl),v7,v8,v9]/\(∀y ob,H3 y=some ob->y≠sl->H4 y=some ob)/\H4 sl=some (.lst (ds.map V.ref))/\ds.length=i/\XV H4 b ps ws x ds gs) (by simp[qY,XY]) (by simp[qY,XX]) ⟨[],[],none,none,none,Z,λy ob e _=>e,u3,Z,.nil,λi l row d _ _ h=>by simp at h⟩ ?_ ?_ ?_⟩
  .rintro i σ H4 _ ⟨ds,gs,v7,v8,v9,rfl,kp,_⟩;show⟨ag.of (kp _ _ (yy _ _ tV) (l_ tV (s2.free km))),ag.of (kp _ _ (s3 _ _ C3) (l_ C3 km)),ag.of (kp _ _ (S3 _ _ cw) (l_ cw C4))⟩
  .rintro i xb xw xt σ H4 t hb hw ht ⟨ds,gs,v7,v8,v9,rfl,kp,C5,yz,PR⟩ XZ;obtain⟨br,Ll,rfl⟩:=qZ hb;obtain⟨wq,C0,rfl⟩:=qZ hw;obtain⟨td,X0,rfl⟩:=qZ ht;have hi:i<ps.length:=by have:=(a2z.mp Ll).1;lia
   obtain⟨l,hl⟩:∃l,ps[i]?=some l:=⟨_,a2T hi⟩;have bJ:=Ma.wF ps ws i l hl;generalize er:(ws.drop (ps.take i).sum).take l=row at bJ
   have fW:row.length=l:=by
    have h1:=Me.WW ps ws ok.wl;have h2:((Ma.aW ps ws).map List.length)[i]?=some row.length:=by rw[a2E,bJ];rfl
    rw[h1,hl] at h2;show(a2J h2).symm
   have ux:row∈Ma.aW ps ws:=a2A bJ;have u5:(ad H4 t (.tup [.ref br,.ref wq,.ref td])) t=_:=c_;have t5:=e_ (o:=.tup [.ref br,.ref wq,.ref td]) XZ;show⟨t,_,Z,aP.of c_,Z,_,_,Z,_,_,Z,_,_,Z,Z,?_⟩;have uA:∀y ob,H3 y=some ob->y≠sl->(ad H4 t (.tup [.ref br,.ref wq,.ref td])) y=some ob:=λy ob e n=>t5 _ _ (kp y ob e n);have uB:=t5 _ _ C5;have C6:=PR.1.keep t5;generalize ad H4 t (.tup [.ref br,.ref wq,.ref td])=H5 at u5 t5 uA uB C6⊢;have U2:ae H2 H5:=λy ob e=>uA _ _ (s3 _ _ e) (l_ e km);have U1:ae H1 H5:=λy ob e=>uA _ _ (yy _ _ e) (l_ e (s2.free km));have U0:ae H H5:=λy ob e=>uA _ _ (S3 _ _ e) (l_ e C4);have G5:=G.keep U0;obtain⟨_,rs,iQ,Lm,_,RD⟩:=BA i l br hl Ll
   have X1:H2 wq=some (.lst (row.map V.int)):=by
    obtain⟨lx,cE,e'⟩:=yt rows C0;rw[bJ] at cE;cases cE;show e'
   obtain⟨ts,X2,X3,X4⟩:=TA i row td bJ X0
   have X5:0<rs.length:=by
    rw[Lm];have:=SO.e1;unfold Mu.pn;split;.decide
    .split <;> lia
   show⟨_,Z,.inl ⟨Z,_,ag.of uB⟩,_,Z,_,Z,_,Z,b,br,wq,td,rs,ts,row,Mu.pq b x.1 x.2.1 (ps.take i).sum l,Mu.pj x.2.1 (ps.take i).sum l,Z,U1 _ _ iQ,U2 _ _ X1,U0 _ _ X2,X3,X4.keep U0,ok.b2,ok.cz,λy hy=>ok.wr y (Ma.qt ux y hy),Ma.qu (λp hp=>(ok.pr p hp).2) ux,by rw[fW];show Mu.Xb,RD.keep U1,X5,λdp g6 H6 Ln s6 h6 R6=>?_⟩;rw[fW,Lm] at R6;have X6:dp≠sl:=λz=>by rw[z,uB] at Ln;cases Ln
   have gl:gs.length=i:=by rw[<-Paired.length C6];show yz
   show⟨sl,_,_,Z,Z,s6 _ _ uB,bT (by rw[a2x];lia),ds++[dp],gs++[g6],some (.ref br),some (.ref wq),some (.ref td),Z,λy ob e n=>?_,by rw[c_,a3e];rfl,by simp[yz],?_,λm l' lx d' a1 a2 a3=>?_⟩
   .rw[i_ n];show s6 _ _ (uA y ob e n)
   .show Paired.snoc (L2.Paired.jK C6 λq g e=>?_) (by rw[i_ X6];show h6);rw[i_ (λz=>by rw[z,uB] at e;cases e)];show s6 _ _ e
   .by_cases hm:m<gs.length
    .rw[a3k hm] at a3;show PR.2 m l' lx d' a1 a2 a3
    .have iP:m=i:=by
      have:=(a2z.mp a3).1;simp at this;lia
     subst iP;rw[a3o (by lia),gl,a4w] at a3;have e1:g6=d':=by simpa using a3
     subst e1;rw[hl] at a1;cases a1;rw[bJ] at a2;cases a2;show R6
  .rintro σ H4 ⟨ds,gs,v7,v8,v9,rfl,kp,C5,yz,PR⟩;have U0:ae H H4:=λy ob e=>kp _ _ (S3 _ _ e) (l_ e C4);have X7:ds.length=ps.length:=by rw[yz,a2x,qY]
   have gl:gs.length=ps.length:=by rw[<-Paired.length PR.1];show X7
   have uC:∀g∈gs,Me.fV g:=λg hg=>by
    obtain⟨i,hi⟩:=a3y hg;have cY:i<ps.length:=by have:=(a2z.mp hi).1;lia
    show(PR.2 i ps[i] _ g (a2T cY) (Ma.wF ps ws i _ (a2T cY)) hi).ok
   show⟨_,Z,_,Z,sl,ds,gs,d,Z,C5,PR.1,by lia,by lia,uC,λH' s'=>?_⟩;rw[Mx.XT (by have:=ok.b2;lia) (by lia) SO ok.wl gl PR.2 uC];show k H' (U0.trans s')
inductive ph(vs:List V)(H:Hp)(Q:VK)(aq:XK):Prop
 | mk:∀d:Nat,(vs=[.int d])->(Q .au H)->ph vs H Q aq
inductive pi(vs:List V)(H:Hp)(Q:VK)(aq:XK):Prop
 | mk:∀f A c b ps ws,∀(tl:Addr) (aU:List Addr) (d n:Nat),(vs=[.ref f,.ref tl,.int d,.int n])->(aV H f A c b ps ws)->(H tl=some (.lst (aU.map V.ref)))->(aU.length=ps.length)->(lE H b ps ws aU)->(n<=b ^ ps.sum)->(∀H':Hp,ae H H'->Q (.int (Mx.aD b d ps ws n)) H')->pi vs H Q aq
inductive re(vs:List V)(H:Hp)(Q:VK)(aq:XK):Prop
 | mk:∀f A c b ps ws,∀d n:Nat,(vs=[.ref f,.int d,.int n])->(aV H f A c b ps ws)->(n<=b ^ ps.sum)->(∀H':Hp,ae H H'->Q (.int (Mx.aD b d ps ws n)) H')->re vs H Q aq
inductive yA(vs:List V)(H:Hp)(Q:VK)(aq:XK):Prop
 | mk:∀f A c b ps ws,∀n:Nat,(vs=[.ref f,.int n])->(aV H f A c b ps ws)->(n<=b ^ ps.sum)->(∀H':Hp,ae H H'->Q (.int (Mx.aD b 0 ps ws n)) H')->yA vs H Q aq
def X8:aI ["thing"] ["thing"] (f_ Bn):=⟨Z,Z,Z,by decide,Z,by decide,by decide⟩
def X9(F:ay K "need_miss" "need_miss" Bn f fd)(D1:ai P w K mg base 1 "is_whole" ["thing"] qv):av P w K mg base aE 2 f fd ["thing"] ph:=by
 show F.ok X8 λak A outer s H vs Q E hr h=>?_
 .obtain⟨d,rfl,k⟩:=h;show⟨_,g_<|C_ (PW.pt<|je (N_<|L_<|m_ D1 hr (by rfl)<|a_ (pv 0) d_)<|jO<|r_ r6 (pv 0) h_<|bx _) A_ q_,(⟨_,Z,.int d,Z,.int _,_,Z,aK ⟨_,Z,_,_,Z,Z,_,Z,?_⟩⟩)⟩;have e:decide ((d:Int)<0)=false:=decide_eq_false (by lia);show aK k
def Lo:aI ["frame","tails_by_part","d","n"] ["frame","tails_by_part","d","n"] (f_ sU):=⟨Z,Z,Z,by decide,Z,by decide,by decide⟩
def Ya(F:ay K "count_below" "count_below" sU f fd)(T:Txt mg)(DS:ai P w K mg base 9 "stretches_below" ["frame","n"] yr)(DW:ai P w K mg base 3 "count_begun" ["frame","tails_by_part","d","head","end"] uy):av P w K mg base aE 10 f fd ["frame","tails_by_part","d","n"] pi:=by
 show F.ok Lo λak A outer s H vs Q E hr h=>?_
 .obtain⟨g,A',c,b,ps,ws,tl,aU,d,n,rfl,G,cw,fi,TA,hn,k⟩:=h;have fh:List.Nodup (["head","end","frame","tails_by_part","d"]:List Str):=by decide
  show⟨_,g_ (k_ (p_ (Cg Z) (by rfl) T.sum boot_sum (a_ (wB (fr:=[0,1,2]) (qk (sc:=f_ sU) (NX:=["frame","tails_by_part","d","n"]) (k:=2) (fr:=[0,1,2]) Z Z (by decide)) (ql (sc:=f_ sU) (NX:=["frame","tails_by_part","d","n"]) Z (by decide)) Z (B_ (m_ DS hr (by rfl) (a_ (pv 0) (a_ (pv 3) d_)))) (λcl C s H fp=>sL K Z Z (W_ (u_ 0 (hN:=fh)) (W_ (u_ 1 (hN:=fh)) p7))) Ba (λcl C s H fp=>O_) (λcl C s H fp=>m_ DW hr.mo (by rfl) (a_ (pv 2) (a_ (pv 3) (a_ (pv 4) (a_ (pv 0) (a_ (pv 1) d_))))))) d_))),(⟨_,Z,_,Z,g,A',c,b,ps,ws,n,Z,G,hn,λp ts L H6 hp s6 Lp PR hL SO hg=>⟨p,Z,⟨_,ag.of Lp⟩,z_ (K:=K) (a:=p) (xs:=ts.map V.ref) (λi ys H7=>ys=((L.take i).map (Mx.dL b d ps ws)).map V.int/\ae H6 H7) ⟨by simp,ae.refl _⟩ (λi ys H7 _ q=>ag.of (q.2 _ _ Lp)) ?_ ?_⟩⟩)⟩
  .rintro i x ys H7 hx ⟨rfl,s7⟩;obtain⟨t,ht,rfl⟩:=qZ hx;obtain⟨x',fN,hh,h1,h2⟩:=yt PR ht;have S7:=s6.trans s7;show⟨bT (by rw[a2x,a2x,a3a];lia),t,_,Z,aP.of (s7 _ _ h1),Z,_,_,Z,_,_,Z,Z,_,Z,_,Z,_,Z,_,Z,_,Z,g,A',c,b,ps,ws,tl,hh,aU,x',d,Z,G.keep S7,S7 _ _ cw,fi,TA.keep S7,s7 _ _ h2,SO x' (a2A fN),λH8 s8=>⟨?_,s7.trans s8⟩⟩;rw[a2I,fN];simp
  .rintro ys H7 ⟨rfl,s7⟩ wl iG;have el:(ts.map V.ref).length=L.length:=by rw[a2x,Paired.length PR]
   rw[el,a2M];show⟨wl,_,Z,ag.of c_,?_⟩;rw[Mx.XU hg];show k _ (s6.trans (s7.trans (e_ iG)))
def Lq:aI ["frame","d","n"] ["frame","d","n"] (f_ wU):=⟨Z,Z,Z,by decide,Z,by decide,by decide⟩
def Lr(F:ay K "near_below" "near_below" wU f fd)(D5:ai P w K mg base 5 "need_frame" ["thing"] fS)(DM:ai P w K mg base 2 "need_miss" ["thing"] ph)(D7:ai P w K mg base 7 "need_bound" ["frame","thing"] kj) (DT:ai P w K mg base 4 "tails_of_parts" ["frame"] pf) (DB:ai P w K mg base 10 "count_below" ["frame","tails_by_part","d","n"] pi):av P w K mg base aE 11 f fd ["frame","d","n"] re:=by
 show F.ok Lq λak A outer s H vs Q E hr h=>?_
 .obtain⟨g,A',c,b,ps,ws,d,n,rfl,G,hn,k⟩:=h;show⟨_,b_ (t_<|m_ D5 hr.mo (by rfl)<|a_ (pv 0) d_) <|b_ (t_<|m_ DM hr.mo (by rfl)<|a_ (pv 1) d_) <|b_ (t_<|m_ D7 hr.mo (by rfl)<|a_ (pv 0)<|a_ (pv 2) d_) <|g_<|k_<|m_ DB hr (by rfl)<|a_ (pv 0)<|a_ (m_ DT hr.mo (by rfl)<|a_ (pv 0) d_)<|a_ (pv 1)<|a_ (pv 2) d_,(⟨_,Z,g,A',c,b,ps,ws,Z,G,λH1 s1=>⟨_,Z,d,Z,?_⟩⟩)⟩;show⟨_,Z,_,Z,g,A',c,b,ps,ws,n,Z,G.keep s1,hn,λH2 s2=>?_⟩;have S2:=s1.trans s2;show⟨_,Z,_,Z,g,A',c,b,ps,ws,Z,G.keep S2,λp aU H3 hp s3 h3 fi TA=>⟨_,Z,_,Z,g,A',c,b,ps,ws,p,aU,d,n,Z,(G.keep S2).keep s3,h3,fi,TA,hn,λH' s'=>k H' (S2.trans (s3.trans s'))⟩⟩
def Ls:aI ["frame","n"] ["frame","n"] (f_ wR):=⟨Z,Z,Z,by decide,Z,by decide,by decide⟩
def Yb(F:ay K "even_below" "even_below" wR f fd)(DB:ai P w K mg base 11 "near_below" ["frame","d","n"] re):av P w K mg base aE 12 f fd ["frame","n"] yA:=by
 show F.ok Ls λak A outer s H vs Q E hr h=>?_
 .obtain⟨g,A',c,b,ps,ws,n,rfl,G,hn,k⟩:=h;show⟨_,g_<|k_<|m_ DB hr (by rfl)<|a_ (pv 0)<|a_ h_<|a_ (pv 1) d_,⟨_,Z,_,Z,g,A',c,b,ps,ws,0,n,Z,G,hn,k⟩⟩
end Hv
namespace Mx
open Me Mg Mu
def yB(b d:Nat)(ps:List Nat)(ws:List Int)(m:Nat):eO b d ps ws m=0\/eO b d ps ws m=1:=by
 unfold eO;split;.show .inr Z
 .show .inl Z
def uD(b d:Nat)(ps:List Nat)(ws:List Int)(n:Nat):aD b d ps ws (n+1)=aD b d ps ws n+eO b d ps ws n:=rfl
def yC(b d:Nat)(ps:List Nat)(ws:List Int)(n:Nat):0<=aD b d ps ws n:=CL λi _=>by rcases yB b d ps ws i with h | h <;> lia
def Lu(b d:Nat)(ps:List Nat)(ws:List Int)(n:Nat):aD b d ps ws n<=n:=by
 have h:=CO (g:=eO b d ps ws) (h:=λ_=>1) (n:=n) λi _=>by rcases yB b d ps ws i with h | h <;> lia
 rw[yp,a6e] at h;show h
theorem uE(b d:Nat)(ps:List Nat)(ws:List Int)(n:Nat):∀m,aD b d ps ws n<=aD b d ps ws (n+m)
 | 0=>a4C _
 | m+1=>by
  have:=uE b d ps ws n m;rw[<-a4x,uD];rcases yB b d ps ws (n+m) with h | h <;> lia
def Lv(h:aD b d ps ws n<aD b d ps ws m):n<m:=by
 apply Nat.lt_of_not_le;intro z;have:=uE b d ps ws m (n-m);rw[show m+(n-m)=n by lia] at this;lia
def yD(b d:Nat)(ps:List Nat)(ws:List Int)(a pl e:Nat):aD b d ps ws (a*b ^ (ps.sum-pl)+e*b ^ (ps.sum-pl-1))=aD b d ps ws (a*b ^ (ps.sum-pl))+dL b d ps ws (a,pl,e):=by
 unfold aD dL;rw[ut]
def Yc(b d:Nat)(ps:List Nat)(ws:List Int)(a pl:Nat):dL b d ps ws (a,pl,0)=0:=by
 have:=yD b d ps ws a pl 0;rw[a4G,a4m] at this;lia
def Lw{b S i:Nat}(hi:i<S):b ^ (S-i)=b*b ^ (S-i-1):=by
 rw[show S-i=(S-i-1)+1 by lia,a4c,a3N];rfl
def Yd{b d S a i fg r r' k:Nat}(hS:ps.sum=S)(hi:i<S)(h1:aD b d ps ws (a*b ^ (S-i))+r=k)(h3:dL b d ps ws (a,i,fg)+r'=r)(h4:(r:Int)<dL b d ps ws (a,i,fg+1)) : aD b d ps ws ((a*b+fg)*b ^ (S-(i+1)))+r'=k/\(k:Int)<aD b d ps ws ((a*b+fg)*b ^ (S-(i+1))+b ^ (S-(i+1))):=by
 subst hS
 have e1:(a*b+fg)*b ^ (ps.sum-(i+1))=a*b ^ (ps.sum-i)+fg*b ^ (ps.sum-i-1):=by
  rw[Lw hi,a3E,a3M];rfl
 have e2:(a*b+fg)*b ^ (ps.sum-(i+1))+b ^ (ps.sum-(i+1))=a*b ^ (ps.sum-i)+(fg+1)*b ^ (ps.sum-i-1):=by
  rw[e1,a3E fg 1,a5c,a4x];rfl
 rw[e2,e1,yD,yD];lia
def Ye{b d S a i r k:Nat}(hS:ps.sum=S)(hi:i<S)(h1:aD b d ps ws (a*b ^ (S-i))+r=k)(h2:(k:Int)<aD b d ps ws (a*b ^ (S-i)+b ^ (S-i))):(r:Int)<dL b d ps ws (a,i,b):=by
 subst hS;have:=yD b d ps ws a i b;rw[<-Lw hi] at this;lia
end Mx
namespace Hv
open PySem L2
inductive yE(vs:List V)(H:Hp)(Q:VK)(aq:XK):Prop
 | mk:∀f A c b ps ws,∀(tl hd:Addr) (aU:List Addr) (a pl d k:Nat),(vs=[.ref f,.ref tl,.int d,.ref hd,.int k])->(aV H f A c b ps ws)->(H tl=some (.lst (aU.map V.ref)))->(aU.length=ps.length)->(lE H b ps ws aU)->(H hd=some (.lst (aA (Ma.aB b a pl pl))))->(pl<ps.sum)->(a<b ^ pl)->((k:Int)<Mx.dL b d ps ws (a,pl,b))->(∀(t:Addr) (fg r:Nat) (H':Hp),ae H H'->H' t=some (.tup [.int fg,.int r])->fg<b->Mx.dL b d ps ws (a,pl,fg)+r=k->(k:Int)<Mx.dL b d ps ws (a,pl,fg+1)->Q (.ref t) H')->yE vs H Q aq
inductive rf(vs:List V)(H:Hp)(Q:VK)(aq:XK):Prop
 | mk:∀f A c b ps ws,∀(tl:Addr) (aU:List Addr) (d k:Nat),(vs=[.ref f,.ref tl,.int d,.int k])->(aV H f A c b ps ws)->(H tl=some (.lst (aU.map V.ref)))->(aU.length=ps.length)->(lE H b ps ws aU)->((∀H':Hp,ae H H'->Mx.aD b d ps ws (b ^ ps.sum)<=k->Q .au H'))->(∀(m:Nat) (H':Hp),ae H H'->m<b ^ ps.sum->Mx.eO b d ps ws m=1->Mx.aD b d ps ws m=k->Q (.int m) H')->rf vs H Q aq
def Lx:aI ["frame","tails_by_part","d","head","k","figure","passed","beyond","middle","count"] ["frame","tails_by_part","d","head","k"] (f_ Bv):=⟨Z,Z,Z,by decide,Z,by decide,by decide⟩
def Yf(F:ay K "figure_and_rest" "figure_and_rest" Bv f fd)(DB:ai P w K mg base 3 "count_begun" ["frame","tails_by_part","d","head","end"] uy):av P w K mg base aE 4 f fd ["frame","tails_by_part","d","head","k"] yE:=by
 show F.ok Lx λak A outer s H vs Q E hr h=>?_
 .obtain⟨g,A',c,b,ps,ws,tl,hd,aU,a,pl,d,n,rfl,G,cw,fi,TA,qW,cy,ha,hn,k⟩:=h;have nd:=Lx.nd;have ok:=G.ok;have b2:=ok.b2;show⟨_,b_ (j_ 5 h_) (b_ (j_ 6 h_) (b_ (j_ 7 (ce (pv 0) h_)) (b_ (QH PassesOwn.never (r_ r9 (o_ gA (pv 7) (pv 5)) h_ (bx _)) (b_ (j_ 8 (o_ gB (o_ Q_ (pv 5) (pv 7)) h_)) (b_ (j_ 9 (m_ DB hr (by rfl) (a_ (pv 0) (a_ (pv 1) (a_ (pv 2) (a_ (pv 3) (a_ (pv 8) d_))))))) (g_ (C_ (r_ jT (pv 9) (pv 4) (bx _)) (b_ (j_ 5 (pv 8)) (g_ (j_ 6 (pv 9)))) (g_ (j_ 7 (pv 8)))))))) (g_ (k_ (gX (a_ (pv 5) (a_ (o_ gA (pv 4) (pv 6)) d_)))))))),?_⟩;have e0:=Mx.Yc b d ps ws a pl;show⟨_,Z,_,_,_,_,Z,Z,aP.of G.tp,Z,(⟨λmu σ H'=>∃(fg be:Nat) (v8 v9:Option V),σ=[some (.ref g),some (.ref tl),some (.int d),some (.ref hd),some (.int n),some (.int fg),some (.int (Mx.dL b d ps ws (a,pl,fg))),some (.int be),v8,v9]/\mu=be-fg/\fg<be/\be<=b/\ae H H'/\Mx.dL b d ps ws (a,pl,fg)<=n/\(n:Int)<Mx.dL b d ps ws (a,pl,be), ⟨_,0,b,none,none,by rw[e0];rfl,Z,by lia,a2D _,ae.refl _,by rw[e0];lia,hn⟩,?_⟩)⟩;rintro mu σ H1 ⟨fg,be,v8,v9,rfl,rfl,hfb,kz,s1,c1,c2⟩;show⟨_,Z,_,Z,_,_,Z,Z,_,_,Z,Z,_,Z,kX (λaJ=>?_) (λC7=>?_)⟩
  .show⟨λaF H'=>∃(mO mP:Nat) (v8 v9:Option V),aF=[some (.ref g),some (.ref tl),some (.int d),some (.ref hd),some (.int n),some (.int mO),some (.int (Mx.dL b d ps ws (a,pl,mO))),some (.int mP),v8,v9]/\mP - mO<be-fg/\mO<mP/\mP<=b/\ae H H'/\Mx.dL b d ps ws (a,pl,mO)<=n/\(n:Int)<Mx.dL b d ps ws (a,pl,mP), λaF H' ⟨mO,mP,v8,v9,h1,h2,h3,h4,h5,h6,h7⟩=>⟨mP - mO,h2,mO,mP,v8,v9,h1,Z,h3,h4,h5,h6,h7⟩,?_⟩;have em:((fg:Int)+(be:Int)) / 2=(((fg+be) / 2:Nat):Int):=by lia
   show⟨_,Z,_,Z,_,_,Z,Z,_,_,Z,Z,⟨by decide,by decide⟩,?_⟩;try dsimp only
   rw[em];generalize hmd:(fg+be) / 2=md;have mj:fg<md:=by lia
   have gf:md<be:=by lia
   show⟨_,Z,_,Z,_,Z,_,Z,_,Z,g,A',c,b,ps,ws,tl,hd,aU,(a,pl,md),d,Z,G.keep s1,s1 _ _ cw,fi,TA.keep s1,s1 _ _ qW,⟨cy,by change 1<=md;lia,by change md<=b;lia,ha⟩,λH2 s2=>⟨_,Z,_,Z,_,_,Z,Z,_,Z,kX (λiO=>?_) (λqG=>?_)⟩⟩
   .have Yh:Mx.dL b d ps ws (a,pl,md)<=(n:Int):=of_decide_eq_true iO;show⟨_,Z,_,Z,md,be,_,_,Z,by lia,gf,kz,s1.trans s2,Yh,c2⟩
   .have Yi:¬ Mx.dL b d ps ws (a,pl,md)<=(n:Int):=λz=>qG (decide_eq_true z);show⟨_,Z,fg,md,_,_,Z,by lia,mj,by lia,s1.trans s2,c1,by lia⟩
  .have Yj:¬ (1:Int)<(be:Int)-fg:=λz=>C7 (decide_eq_true z);have Yk:be=fg+1:=by lia
   subst Yk;obtain⟨r,cE⟩:∃r:Nat,(n:Int)-Mx.dL b d ps ws (a,pl,fg)=(r:Int):=⟨((n:Int)-Mx.dL b d ps ws (a,pl,fg)).toNat,by lia⟩;show⟨_,Z,_,Z,_,Z,_,_,Z,Z,sz (by simp),λt ht=>?_⟩;try dsimp only
   rw[cE];show k t fg r _ (s1.trans (e_ ht)) c_ (by lia) (by lia) c2
def Ly:aI ["frame","tails_by_part","d","k","head","rest","place","found"] ["frame","tails_by_part","d","k"] (f_ Bw):=⟨Z,Z,Z,by decide,Z,by decide,by decide⟩
def Yl(F:ay K "number_at" "number_at" Bw f fd)(T:Txt mg)(D6:ai P w K mg base 6 "how_many" ["frame"] lh)(DB:ai P w K mg base 10 "count_below" ["frame","tails_by_part","d","n"] pi)(DF:ai P w K mg base 4 "figure_and_rest" ["frame","tails_by_part","d","head","k"] yE) (DN:ai P w K mg base 1 "number_of" ["base","figures"] ya):av P w K mg base aE 11 f fd ["frame","tails_by_part","d","k"] rf:=by
 show F.ok Ly λak A outer s H vs Q E hr h=>?_
 .obtain⟨g,A',c,b,ps,ws,tl,aU,d,n,rfl,G,cw,fi,TA,k1,k2⟩:=h;have nd:=Ly.nd;have ok:=G.ok;have b2:=ok.b2;have tK:=ok.sum;have b0:0<b:=by lia
  show⟨_,b_ (C_ (r_ QU (pv 3) (m_ DB hr (by rfl) (a_ (pv 0) (a_ (pv 1) (a_ (pv 2) (a_ (m_ D6 hr.mo (by rfl) (a_ (pv 0) d_)) d_))))) (bx _)) (g_ (k_ iu)) q_) (b_ (j_ 4 (x_ d_)) (b_ (j_ 5 (pv 3)) (b_ (Z_ PassesOwn.never Z (kH (by rfl) T.range (a_ (eV T.len (by rfl) (ce (pv 0) h_)) d_)) (u_ 6) (b_ (j_ 7 (m_ DF hr.mo (by rfl) (a_ (pv 0) (a_ (pv 1) (a_ (pv 2) (a_ (pv 4) (a_ (pv 5) d_))))))) (b_ (j_ 4 (o_ gY (pv 4) (x_ (a_ (ce (pv 7) h_) d_)))) (g_ (j_ 5 (ce (pv 7) h_)))))) (g_ (k_ (m_ DN hr.mo (by rfl) (a_ (ce (pv 0) h_) (a_ (pv 4) d_)))))))),⟨_,Z,_,Z,_,Z,_,Z,_,Z,g,A',c,b,ps,ws,Z,G,λH1 s1=>?_⟩⟩;show⟨g,A',c,b,ps,ws,tl,aU,d,b ^ ps.sum,Z,G.keep s1,s1 _ _ cw,fi,TA.keep s1,a2D _,λH2 s2=>?_⟩;have S2:=s1.trans s2;show⟨_,_,Z,Z,_,Z,kX (λiO=>?_) (λqG=>?_)⟩;.show k1 H2 S2 (of_decide_eq_true iO)
  have Yi:¬ Mx.aD b d ps ws (b ^ ps.sum)<=(n:Int):=λz=>qG (decide_eq_true z);show⟨sz (by decide),λh0 Ym=>?_⟩;have s3:=e_ (o:=.lst []) Ym;have u3:(ad H2 h0 (.lst [])) h0=some (.lst (aA (Ma.aB b 0 0 0))):=c_;have S3:=S2.trans s3;generalize ad H2 h0 (.lst [])=H3 at s3 u3 S3⊢;have G3:=G.keep S3;have iG:=ok.wl;show⟨_,Z,_,Z,_,_,_,_,Z,Z,aP.of G3.tp,Z,c,_,Z,.inl (ag.of G3.hw),_,Z,by rw[a2x];lia,by rw[a2x];lia,nO (n:=(((ws.map V.int).length:Nat):Int).toNat) (λi σ H4=>∃(h:Addr) (a r:Nat) (v6 v7:Option V),σ=[some (.ref g),some (.ref tl),some (.int d),some (.int n),some (.ref h),some (.int r),v6,v7]/\ae H H4/\H4 h=some (.lst (aA (Ma.aB b a i i)))/\a<b ^ i/\Mx.aD b d ps ws (a*b ^ (ps.sum-i))+r=n/\(n:Int)<Mx.aD b d ps ws (a*b ^ (ps.sum-i)+b ^ (ps.sum-i))) ⟨h0,0,n,none,none,Z,S3,u3,by simp,by rw[a4G];change(0:Int)+n=n;lia,by rw[a4G,a5k,a4F];lia⟩ ?_ ?_⟩
  .rintro i σ H4 hi ⟨h,a,r,v6,v7,rfl,s4,hh,ha,e1,e2⟩;have cY:i<ps.sum:=by rw[a2x,iG] at hi;lia
   show⟨_,Z,_,Z,_,Z,_,Z,_,Z,g,A',c,b,ps,ws,tl,h,aU,a,i,d,r,Z,G.keep s4,s4 _ _ cw,fi,TA.keep s4,hh,cY,ha,Mx.Ye Z cY e1 e2,λt fg r' H5 s5 ht Yn h3 h4=>⟨_,Z,_,Z,_,_,_,_,Z,Z,aP.of ht,Z,sz (by simp),λq hq=>?_⟩⟩;have s6:=e_ (o:=.lst [V.int (fg:Int)]) hq;have u6:(ad H5 q (.lst [V.int (fg:Int)])) q=_:=c_;generalize ad H5 q (.lst [V.int (fg:Int)])=H6 at s6 u6⊢;show⟨h,q,_,_,Z,Z,s6 _ _ (s5 _ _ hh),u6,bT (by rw[aA,a2x,Ma.R_];lia),λz hz=>?_⟩;have s7:=e_ (o:=.lst (aA (Ma.aB b a i i)++[V.int (fg:Int)])) hz;show⟨_,Z,_,_,_,_,Z,Z,aP.of (s7 _ _ (s6 _ _ ht)),Z,z,a*b+fg,r',_,_,Z,s4.trans (s5.trans (s6.trans s7)),?_,?_,?_⟩
   .rw[c_,Mg.CG b a fg i Yn];simp[aA]
   .rw[a4c];have:(a+1)*b<=b ^ i*b:=a3z _ ha;rw[a3E,a5c] at this;lia
   .show Mx.Yd Z cY e1 h3 h4
  .rintro σ H4 ⟨h,a,r,v6,v7,rfl,s4,hh,ha,e1,e2⟩;have el:(((ws.map V.int).length:Nat):Int).toNat=ps.sum:=by rw[a2x,iG];lia
   rw[el] at hh ha e1 e2;rw[a4w,a4E,Nat.mul_one] at e1 e2;rw[Mx.uD] at e2;have G4:=G.keep s4;show⟨_,Z,_,_,_,_,Z,Z,aP.of G4.tp,Z,_,Z,b,h,_,Z,ok.cz,hh,?_⟩;rw[Ma.Wi b0 ha];have:=Mx.yB b d ps ws a;show k2 a H4 s4 ha (by lia) (by lia)
inductive C8(vs:List V)(H:Hp)(Q:VK)(aq:XK):Prop
 | mk:∀f A c b ps ws,∀n:Nat,(vs=[.ref f,.int n])->(aV H f A c b ps ws)->(n<=b ^ ps.sum)->((∀H':Hp,ae H H'->Mx.aD b 0 ps ws n=0->Q .au H'))->(∀(m:Nat) (H':Hp),ae H H'->m<n->Mx.eO b 0 ps ws m=1->Mx.aD b 0 ps ws m+1=Mx.aD b 0 ps ws n->Q (.int m) H')->C8 vs H Q aq
def C9:aI ["frame","n","tails_by_part","count"] ["frame","n"] (f_ wT):=⟨Z,Z,Z,by decide,Z,by decide,by decide⟩
def Yo(F:ay K "last_even" "last_even" wT f fd)(D5:ai P w K mg base 5 "need_frame" ["thing"] fS)(D7:ai P w K mg base 7 "need_bound" ["frame","thing"] kj)(DT:ai P w K mg base 4 "tails_of_parts" ["frame"] pf) (DB:ai P w K mg base 10 "count_below" ["frame","tails_by_part","d","n"] pi) (DA:ai P w K mg base 11 "number_at" ["frame","tails_by_part","d","k"] rf):av P w K mg base aE 12 f fd ["frame","n"] C8:=by
 show F.ok C9 λak A outer s H vs Q E hr h=>?_
 .obtain⟨g,A',c,b,ps,ws,n,rfl,G,hn,k1,k2⟩:=h;have nd:=C9.nd;show⟨_,b_ (t_ (m_ D5 hr.mo (by rfl) (a_ (pv 0) d_))) (b_ (t_ (m_ D7 hr.mo (by rfl) (a_ (pv 0) (a_ (pv 1) d_)))) (b_ (j_ 2 (m_ DT hr.mo (by rfl) (a_ (pv 0) d_))) (b_ (j_ 3 (m_ DB hr.mo (by rfl) (a_ (pv 0) (a_ (pv 2) (a_ h_ (a_ (pv 1) d_)))))) (g_ (k_ (vI (r_ r9 (pv 3) h_ (bx _)) (m_ DA hr (by rfl) (a_ (pv 0) (a_ (pv 2) (a_ h_ (a_ (o_ gA (pv 3) h_) d_))))) iu)))))),⟨_,Z,g,A',c,b,ps,ws,Z,G,λH1 s1=>?_⟩⟩;show⟨_,Z,_,Z,g,A',c,b,ps,ws,n,Z,G.keep s1,hn,λH2 s2=>?_⟩;have S2:=s1.trans s2;show⟨_,Z,g,A',c,b,ps,ws,Z,G.keep S2,λp aU H3 hp s3 h3 fi TA=>?_⟩;have S3:=S2.trans s3;show⟨_,Z,_,Z,_,Z,g,A',c,b,ps,ws,p,aU,0,n,Z,G.keep S3,h3,fi,TA,hn,λH4 s4=>?_⟩;have S4:=S3.trans s4;have nn:=Mx.yC b 0 ps ws n;have mo:=Mx.uE b 0 ps ws n (b ^ ps.sum-n);rw[show n+(b ^ ps.sum-n)=b ^ ps.sum by omega] at mo;show⟨_,Z,_,_,Z,Z,_,Z,kX (λaJ=>?_) (λC7=>?_)⟩
  .have Yg:=of_decide_eq_true aJ;obtain⟨r,cE⟩:∃r:Nat,Mx.aD b 0 ps ws n-1= r :=⟨(Mx.aD b 0 ps ws n-1).toNat,by omega⟩;show⟨_,Z,_,Z,_,Z,_,_,Z,Z,?_⟩;show cE▸?_;show⟨g,A',c,b,ps,ws,p,aU,0,r,Z,G.keep S4,s4 _ _ h3,fi,TA.keep s4,λH' s' h=>?_,λm H' s' hm e1 e2=>?_⟩
   .exfalso;omega
   .show k2 m H' (S4.trans s') (Mx.Lv (by rw[e2];omega)) e1 (by rw[e2];omega)
  .have Yj:¬ 0<Mx.aD b 0 ps ws n:=λz=>C7 (decide_eq_true z);show k1 H4 S4 (by omega)
inductive Da(vs:List V)(H:Hp)(Q:VK)(aq:XK):Prop
 | mk:∀f A c b ps ws,∀n:Nat,(vs=[.ref f,.int n])->(aV H f A c b ps ws)->(n<=b ^ ps.sum)->((∀H':Hp,ae H H'->Mx.aD b 0 ps ws (b ^ ps.sum)=Mx.aD b 0 ps ws n->Q .au H'))->(∀(m:Nat) (H':Hp),ae H H'->n<=m->m<b ^ ps.sum->Mx.eO b 0 ps ws m=1->Mx.aD b 0 ps ws m=Mx.aD b 0 ps ws n->Q (.int m) H')->Da vs H Q aq
def Db:aI ["frame","n","tails_by_part"] ["frame","n"] (f_ wS):=⟨Z,Z,Z,by decide,Z,by decide,by decide⟩
def Yp(F:ay K "next_even" "next_even" wS f fd)(D5:ai P w K mg base 5 "need_frame" ["thing"] fS)(D7:ai P w K mg base 7 "need_bound" ["frame","thing"] kj)(DT:ai P w K mg base 4 "tails_of_parts" ["frame"] pf) (DB:ai P w K mg base 10 "count_below" ["frame","tails_by_part","d","n"] pi) (DA:ai P w K mg base 11 "number_at" ["frame","tails_by_part","d","k"] rf):av P w K mg base aE 12 f fd ["frame","n"] Da:=by
 show F.ok Db λak A outer s H vs Q E hr h=>?_
 .obtain⟨g,A',c,b,ps,ws,n,rfl,G,hn,k1,k2⟩:=h;have nd:=Db.nd;show⟨_,b_ (t_ (m_ D5 hr.mo (by rfl) (a_ (pv 0) d_))) (b_ (t_ (m_ D7 hr.mo (by rfl) (a_ (pv 0) (a_ (pv 1) d_)))) (b_ (j_ 2 (m_ DT hr.mo (by rfl) (a_ (pv 0) d_))) (g_ (k_ (m_ DA hr (by rfl) (a_ (pv 0) (a_ (pv 2) (a_ h_ (a_ (m_ DB hr.mo (by rfl) (a_ (pv 0) (a_ (pv 2) (a_ h_ (a_ (pv 1) d_))))) d_))))))))),⟨_,Z,g,A',c,b,ps,ws,Z,G,λH1 s1=>?_⟩⟩;show⟨_,Z,_,Z,g,A',c,b,ps,ws,n,Z,G.keep s1,hn,λH2 s2=>?_⟩;have S2:=s1.trans s2;show⟨_,Z,g,A',c,b,ps,ws,Z,G.keep S2,λp aU H3 hp s3 h3 fi TA=>?_⟩;have S3:=S2.trans s3;show⟨_,Z,_,Z,_,Z,_,Z,_,Z,g,A',c,b,ps,ws,p,aU,0,n,Z,G.keep S3,h3,fi,TA,hn,λH4 s4=>?_⟩;have S4:=S3.trans s4;have nn:=Mx.yC b 0 ps ws n;have mo:=Mx.uE b 0 ps ws n (b ^ ps.sum-n);rw[show n+(b ^ ps.sum-n)=b ^ ps.sum by lia] at mo;obtain⟨r,cE⟩:∃r:Nat,Mx.aD b 0 ps ws n= r :=⟨(Mx.aD b 0 ps ws n).toNat,by lia⟩;show cE▸?_;show⟨g,A',c,b,ps,ws,p,aU,0,r,Z,G.keep S4,s4 _ _ h3,fi,TA.keep s4,λH' s' h=>k1 H' (S4.trans s') (by lia),λm H' s' hm e1 e2=>k2 m H' (S4.trans s') ?_ hm e1 (by lia)⟩;have e3:=Mx.uD b 0 ps ws m;have:=Mx.Lv (b:=b) (d:=0) (ps:=ps) (ws:=ws) (n:=n) (m:=m+1) (by lia);lia
inductive uF(K:PySem.W.Frag)(vs:List V)(H:Hp)(Q:VK)(aq:XK):Prop
 | mk:∀(a:Addr) (ns:List Int),(vs=[.ref a])->(ag K H a (ns.map V.int))->(ns.length<=63)->(∀H',Q (.bl true) H')->uF K vs H Q aq
end Hv
namespace Mx
open Me Mg Mu
theorem Lz{b:Nat}:∀ {gs:List (List (Int×Int))} {rows:List (List Int)},PySem.Paired (λg row=>List.Perm g (aT b row)) gs rows->∀F:List Int->Int,cG gs F=tr b rows F
 | _,_,.nil,_=>rfl
 | _,_,.cons r t,F=>by
  change tg _ _=tg _ _;rw[Lc r];show V_ λx=>Lz t _
def Yq(hb:0<b)(lp:0<ps.length)(hw:ws.length=ps.sum)(h:PySem.Paired (λg row=>List.Perm g (aT b row)) gs (Ma.aW ps ws))(ok:∀g∈gs,fV g)(d:Nat):oP gs d=aD b d ps ws (b ^ ps.sum):=by
 have hl:gs.length=ps.length:=by rw[h.length,Ma.X_]
 rw[K' (by lia) ok,Lz h,<-CH hb ps ws _ hw];rfl
def Yr(hb:0<b)(lp:0<ps.length)(hw:ws.length=ps.sum)(h0:(Ma.aW ps ws)[0]?=some row):dm (eI b (Ma.aW ps ws) (keys (aT b row)))=aD b 0 ps ws (b ^ ps.sum):=by
 rw[<-WV hb h0,<-W2 hb hw lp];rfl
def Ys(hb:1<=b)(ld:b<=16)(hw:∀x∈row,-9<=x/\x<=9)(hl:row.length<=6)(h:g.Perm (aT b row)):fV g:=by
 have rc:=xE hw ld;have hk:(keys g).Perm _:=h.map _;show⟨by rw[hk.length_eq];show Cs hb row,hk.nodup_iff.mpr rc.nd,λk Yt=>?_,λt=>?_⟩
 .have:=rc.bd k (hk.mem_iff.mp Yt);lia
 .have e:=JT h rc.nd t;have:=JS ld hl t;unfold gv;rw[e];show this
end Mx
namespace Hv
open PySem L2
inductive yF(vs:List V)(H:Hp)(Q:VK)(aq:XK):Prop
 | mk:∀d:Nat,(vs=[.int d])->(Q .au H)->yF vs H Q aq
def yG:Sp:=λvs H Q _=>∃f A c b ps ws,∃d k:Nat,vs=[.ref f,.int d,.int k]/\aV H f A c b ps ws/\(∀H':Hp,ae H H'->Mx.aD b d ps ws (b ^ ps.sum)<=k->Q .au H')/\∀(m:Nat) (H':Hp),ae H H'->m<b ^ ps.sum->Mx.eO b d ps ws m=1->Mx.aD b d ps ws m=k->Q (.int m) H'
def LA:Sp:=λvs H Q _=>∃f A c b ps ws,∃k:Nat,vs=[.ref f,.int k]/\aV H f A c b ps ws/\(∀H':Hp,ae H H'->Mx.aD b 0 ps ws (b ^ ps.sum)<=k->Q .au H')/\∀(m:Nat) (H':Hp),ae H H'->m<b ^ ps.sum->Mx.eO b 0 ps ws m=1->Mx.aD b 0 ps ws m=k->Q (.int m) H'
def Yu:aI ["thing"] ["thing"] (f_ Bs):=⟨Z,Z,Z,by decide,Z,by decide,by decide⟩
def Yv(F:ay K "need_place" "need_place" Bs f fd)(D1:ai P w K mg base 1 "is_whole" ["thing"] qv):av P w K mg base aE 2 f fd ["thing"] yF:=by
 show F.ok Yu λak A outer s H vs Q E hr h=>?_
 .obtain⟨d,rfl,k⟩:=h;show⟨_,g_<|C_ (PW.pt<|je (N_<|L_<|m_ D1 hr (by rfl)<|a_ (pv 0) d_)<|jO<|r_ r6 (pv 0) h_<|bx _) A_ q_,(⟨_,Z,.int d,Z,.int _,_,Z,aK ⟨_,Z,_,_,Z,Z,_,Z,?_⟩⟩)⟩;have e:decide ((d:Int)<0)=false:=decide_eq_false (by lia);show aK k
def Yw:aI ["frame","d","k"] ["frame","d","k"] (f_ By):=⟨Z,Z,Z,by decide,Z,by decide,by decide⟩
def LB(F:ay K "near_by" "near_by" By f fd)(D5:ai P w K mg base 5 "need_frame" ["thing"] fS)(DM:ai P w K mg base 2 "need_miss" ["thing"] ph)(D7:ai P w K mg base 2 "need_place" ["thing"] yF) (DT:ai P w K mg base 4 "tails_of_parts" ["frame"] pf) (DA:ai P w K mg base 11 "number_at" ["frame","tails_by_part","d","k"] rf):av P w K mg base aE 12 f fd ["frame","d","k"] yG:=by
 show F.ok Yw λak A outer s H vs Q E hr h=>?_
 .obtain⟨g,A',c,b,ps,ws,d,n,rfl,G,k1,k2⟩:=h;show⟨_,b_ (t_<|m_ D5 hr.mo (by rfl)<|a_ (pv 0) d_) <|b_ (t_<|m_ DM hr.mo (by rfl)<|a_ (pv 1) d_) <|b_ (t_<|m_ D7 hr.mo (by rfl)<|a_ (pv 2) d_) <|g_<|k_<|m_ DA hr (by rfl)<|a_ (pv 0)<|a_ (m_ DT hr.mo (by rfl)<|a_ (pv 0) d_)<|a_ (pv 1)<|a_ (pv 2) d_,(⟨_,Z,g,A',c,b,ps,ws,Z,G,λH1 s1=>⟨_,Z,d,Z,?_⟩⟩)⟩;show⟨_,Z,n,Z,⟨_,Z,_,Z,g,A',c,b,ps,ws,Z,G.keep s1,λp aU H3 hp s3 h3 fi TA=>?_⟩⟩;have S3:=s1.trans s3;show⟨_,Z,_,Z,g,A',c,b,ps,ws,p,aU,d,n,Z,G.keep S3,h3,fi,TA,λH' s' h=>k1 H' (S3.trans s') h,λm H' s' h1 h2 h3=>k2 m H' (S3.trans s') h1 h2 h3⟩
def Yx:aI ["frame","k"] ["frame","k"] (f_ Bx):=⟨Z,Z,Z,by decide,Z,by decide,by decide⟩
def Yy(F:ay K "even_by" "even_by" Bx f fd)(DB:ai P w K mg base 12 "near_by" ["frame","d","k"] yG):av P w K mg base aE 13 f fd ["frame","k"] LA:=by
 show F.ok Yx λak A outer s H vs Q E hr h=>?_
 .obtain⟨g,A',c,b,ps,ws,n,rfl,G,k⟩:=h;show⟨_,g_<|k_<|m_ DB hr (by rfl)<|a_ (pv 0)<|a_ h_<|a_ (pv 1) d_,⟨_,Z,_,Z,g,A',c,b,ps,ws,0,n,Z,G,k⟩⟩
inductive yH(vs:List V)(H:Hp)(Q:VK)(aq:XK):Prop
 | mk:∀f a c b ps ws,∀d:Nat,(vs=[.ref f,.int d])->(aV H f a c b ps ws)->(∀H',ae H H'->Q (.int (Mx.aD b d ps ws (b ^ ps.sum))) H')->yH vs H Q aq
inductive yI(vs:List V)(H:Hp)(Q:VK)(aq:XK):Prop
 | mk:∀f a c b ps ws,(vs=[.ref f])->(aV H f a c b ps ws)->(∀H',ae H H'->Q (.int (Mx.aD b 0 ps ws (b ^ ps.sum))) H')->yI vs H Q aq
theorem LC{H:Hp}{b:Nat}:∀ {qs:List Addr} {rows:List (List Int)},qN H b qs rows->∃gs:List (List (Int×Int)),qQ H qs gs/\Paired (λg row=>List.Perm g (Me.aT b row)) gs rows
 | _,_,.nil=>⟨[],.nil,.nil⟩
 | _,_,.cons r t=>by
  obtain⟨g,e,p⟩:=r;obtain⟨gs,h1,h2⟩:=LC t;show⟨g::gs,.cons e h1,.cons p h2⟩
theorem LD{α β:Type}{F:α->β->Prop}:∀ {xs:List α} {ys:List β},Paired F xs ys->∀x∈xs,∃y,y∈ys/\F x y
 | _,_,.nil,_,h=>by simp at h
 | _,_,.cons r t,x,h=>by
  rcases a2B.mp h with rfl | h;.show⟨_,by simp,r⟩
  .obtain⟨y,hy,e⟩:=LD t x h;show⟨y,by simp[hy],e⟩
def Yz:aI ["frame","d"] ["frame","d"] (f_ Bq):=⟨Z,Z,Z,by decide,Z,by decide,by decide⟩
def YA(F:ay K "count_near" "count_near" Bq f fd)(D5:ai P w K mg base 5 "need_frame" ["thing"] fS)(DM:ai P w K mg base 2 "need_miss" ["thing"] ph)(DW:ai P w K mg base 3 "ways_of_parts" ["frame"] uc) (DS:ai P w K mg base 2 "count_spread_within" ["ways_by_part","width"] uj):av P w K mg base aE 6 f fd ["frame","d"] yH:=by
 show F.ok Yz λak A outer s H vs Q E hr h=>?_
 .obtain⟨g,a,c,b,ps,ws,d,rfl,G,k⟩:=h;have ok:=G.ok;have b0:0<b:=by have:=ok.b2;lia
  have l2:=ok.l2;have l4:=ok.l4;show⟨_,b_ (t_<|m_ D5 hr (by rfl)<|a_ (pv 0) d_) <|b_ (t_<|m_ DM hr.mo (by rfl)<|a_ (pv 1) d_) <|g_<|k_<|m_ DS hr.mo (by rfl)<|a_ (m_ DW hr.mo (by rfl)<|a_ (pv 0) d_)<|a_ (pv 1) d_,(⟨_,Z,g,a,c,b,ps,ws,Z,G,λH1 s1=>⟨_,Z,d,Z,?_⟩⟩)⟩;show⟨_,Z,g,a,c,b,ps,ws,Z,G.keep s1,λp qs H2 s2 hp h2 wa=>?_⟩;obtain⟨gs,wg,pg⟩:=LC wa;have gl:gs.length=ps.length:=by rw[pg.length,Ma.X_]
  have uC:∀g∈gs,Me.fV g:=λg hg=>by
   obtain⟨row,bJ,perm⟩:=LD pg g hg;show Mx.Ys b0 ok.cz (λy hy=>ok.wr y<|Ma.qt bJ y hy) (Ma.qu (λp hp=>(ok.pr p hp).2) bJ) perm
  show⟨_,Z,p,qs,gs,d,Z,h2,wg,by lia,by lia,uC,λH' s'=>?_⟩;rw[Mx.Yq b0 (by lia) ok.wl pg uC];show k H'<|s1.trans<|s2.trans s'
def YB:aI ["frame"] ["frame"] (f_ Bm):=⟨Z,Z,Z,by decide,Z,by decide,by decide⟩
def YC(F:ay K "count_even" "count_even" Bm f fd)(T:Txt mg)(DE:ai P w K mg base 6 "even_by_sums" ["frame"] xT):av P w K mg base aE 7 f fd ["frame"] yI:=by
 show F.ok YB λak A outer s H vs Q E hr h=>?_
 .obtain⟨g,a,c,b,ps,ws,rfl,G,k⟩:=h;have ok:=G.ok;have b0:0<b:=by have:=ok.b2;lia
  have l2:=ok.l2;show⟨_,g_<|k_<|Vh Z T.sum (by rfl)<|m_ DE hr (by rfl)<|a_ (pv 0) d_,(⟨_,Z,g,a,c,b,ps,ws,Z,G,λp g' H1 hp s1 kg ⟨row,bJ,perm⟩=>⟨p,_,g'.map (·.2),Z,kg,(by simp[aH]),?_⟩⟩)⟩;have e:=Me.VT perm;change Q (.int<|Me.dm g') H1;rw[e,Mx.Yr b0 (by lia) ok.wl bJ];show k H1 s1
end Hv
namespace Mx
open Me Mg Mu
def Mk(e:Nat->Int):Prop:=∀i,e i=0\/e i=1
end Mx
namespace Ma
end Ma
namespace Mx
open Me Mg Mu
def LE(h:m<=n):aD b d ps ws m<=aD b d ps ws n:=by
 have:=uE b d ps ws m (n-m);rw[show m+(n-m)=n by lia] at this;show this
def Dc(h1:eO b d ps ws m=1)(h2:eO b d ps ws n=1)(h:aD b d ps ws m=aD b d ps ws n):m=n:=by
 have e1:=uD b d ps ws m;have e2:=uD b d ps ws n;rcases Nat.lt_trichotomy m n with z | z | z
 .have:=LE (b:=b) (d:=d) (ps:=ps) (ws:=ws) (show m+1<=n by lia);lia
 .show z
 .have:=LE (b:=b) (d:=d) (ps:=ps) (ws:=ws) (show n+1<=m by lia);lia
def YD(qo:0<b)(hb:b<=16)(hw:∀x∈ws,-9<=x/\x<=9):∀y∈Ma.b6 b n L ws,-135<=y/\y<=135:=by
 intro y hy;unfold Ma.b6 at hy;obtain⟨i,hi⟩:=a3y hy;rw[a4r] at hi
 cases e1:(Ma.aB b n L L)[i]? with
 | none=>rw[e1] at hi;cases hi
 | some g =>
  cases e2:ws[i]? with
  | none=>rw[e1,e2] at hi;cases hi
  | some x =>
   rw[e1,e2] at hi;have hg:=Ma.A9 qo (a2A e1);have hx:=hw x (a2A e2);have:=Ce (m:=0) (x:=0) ⟨by decide,by decide⟩ hx hb hg;lia
theorem LF:∀ {l:List Int},(∀y∈l,-135<=y/\y<=135)->-(135*(l.length:Int))<=l.sum/\l.sum<=135*(l.length:Int)
 | [],_=>⟨by decide,by decide⟩
 | x::l,h=>by
  have h1:=h x (by simp);have h2:=LF (l:=l) λy hy=>h y<|by simp[hy]
  rw[a3d,a2P];push_cast;lia
end Mx
namespace Hv
open PySem L2
def Dd(ok:dY b ps ws):∀x∈oE b n ps ws,-810<=x/\x<=810:=λx hx=>by
 obtain⟨row,bJ,rfl⟩:=a2N.mp hx;have h1:=Ma.qu (λp hp=>(ok.pr p hp).2) bJ;have h2:=Mx.LF λy hy=>Mx.YD (by have:=ok.b2;lia) ok.cz ok.wr y<|Ma.qt bJ y hy;lia
def YE(ok:dY b ps ws):0<=qK (oE b n ps ws)/\qK (oE b n ps ws)<=1620:=by
 have hl:=Ci (n:=n) ok;obtain⟨a1,a2⟩:=Ma.H_ _ hl;obtain⟨b1,b2⟩:=Ma.E_ _ hl;have c1:=Dd ok _ a1;have c2:=Dd ok _ b1;have:=a2 _ b1;unfold qK;lia
end Hv
namespace Mx
open Me Mg Mu
end Mx
namespace Hv
open PySem L2
def yJ(b:Nat)(ps:List Nat)(ws:List Int)(n:Nat)(v:V):Prop:=(v=.au/\Mx.aD b 0 ps ws (b ^ ps.sum)=Mx.aD b 0 ps ws n)\/∃m:Nat,v=.int m/\n<=m/\m<b ^ ps.sum/\Mx.eO b 0 ps ws m=1/\Mx.aD b 0 ps ws m=Mx.aD b 0 ps ws n
def yK(b:Nat)(ps:List Nat)(ws:List Int)(n:Nat)(v:V):Prop:=(v=.au/\Mx.aD b 0 ps ws n=0)\/∃m:Nat,v=.int m/\m<n/\Mx.eO b 0 ps ws m=1/\Mx.aD b 0 ps ws m+1=Mx.aD b 0 ps ws n
def uG(b d:Nat)(ps:List Nat)(ws:List Int)(k:Nat)(v:V):Prop:=(v=.au/\Mx.aD b d ps ws (b ^ ps.sum)<=k)\/∃m:Nat,v=.int m/\m<b ^ ps.sum/\Mx.eO b d ps ws m=1/\Mx.aD b d ps ws m=k
inductive yL(vs:List V)(H:Hp)(Q:VK)(aq:XK):Prop
 | mk:∀(f a c:Addr) (b:Nat) (ps:List Nat) (ws:List Int) (n:Nat),(vs=[.ref f,.int n])->(aV H f a c b ps ws)->(n<=b ^ ps.sum)->(∀(v:V) (H':Hp),ae H H'->yJ b ps ws n v->Q v H')->yL vs H Q aq
inductive yM(vs:List V)(H:Hp)(Q:VK)(aq:XK):Prop
 | mk:∀(f a c:Addr) (b:Nat) (ps:List Nat) (ws:List Int) (n:Nat),(vs=[.ref f,.int n])->(aV H f a c b ps ws)->(n<=b ^ ps.sum)->(∀(v:V) (H':Hp),ae H H'->yK b ps ws n v->Q v H')->yM vs H Q aq
inductive De(vs:List V)(H:Hp)(Q:VK)(aq:XK):Prop
 | mk:∀(f a c:Addr) (b:Nat) (ps:List Nat) (ws:List Int) (d k:Nat),(vs=[.ref f,.int d,.int k])->(aV H f a c b ps ws)->(∀(v:V) (H':Hp),ae H H'->uG b d ps ws k v->Q v H')->De vs H Q aq
inductive yN(vs:List V)(H:Hp)(Q:VK)(aq:XK):Prop
 | mk:∀(f a c:Addr) (b:Nat) (ps:List Nat) (ws:List Int) (k:Nat),(vs=[.ref f,.int k])->(aV H f a c b ps ws)->(∀(v:V) (H':Hp),ae H H'->uG b 0 ps ws k v->Q v H')->yN vs H Q aq
def YF(vs:List V)(H:Hp)(Q:VK)(E:XK)(h:yL vs H Q E):Da vs H Q E:=by
 obtain⟨f,a,c,b,ps,ws,n,rfl,G,hn,h⟩:=h;show⟨f,a,c,b,ps,ws,n,Z,G,hn,λH' s h0=>h .au H' s<|.inl ⟨Z,h0⟩,λm H' s h1 h2 h3 h4=>h _ H' s<|.inr ⟨m,Z,h1,h2,h3,h4⟩⟩
def YG(vs:List V)(H:Hp)(Q:VK)(E:XK)(h:yM vs H Q E):C8 vs H Q E:=by
 obtain⟨f,a,c,b,ps,ws,n,rfl,G,hn,h⟩:=h;show⟨f,a,c,b,ps,ws,n,Z,G,hn,λH' s h0=>h .au H' s<|.inl ⟨Z,h0⟩,λm H' s h1 h2 h3=>h _ H' s<|.inr ⟨m,Z,h1,h2,h3⟩⟩
def YH(vs:List V)(H:Hp)(Q:VK)(E:XK)(h:De vs H Q E):yG vs H Q E:=by
 obtain⟨f,a,c,b,ps,ws,d,k,rfl,G,h⟩:=h;show⟨f,a,c,b,ps,ws,d,k,Z,G,λH' s h0=>h .au H' s<|.inl ⟨Z,h0⟩,λm H' s h1 h2 h3=>h _ H' s<|.inr ⟨m,Z,h1,h2,h3⟩⟩
def YI(vs:List V)(H:Hp)(Q:VK)(E:XK)(h:yN vs H Q E):LA vs H Q E:=by
 obtain⟨f,a,c,b,ps,ws,k,rfl,G,h⟩:=h;show⟨f,a,c,b,ps,ws,k,Z,G,λH' s h0=>h .au H' s<|.inl ⟨Z,h0⟩,λm H' s h1 h2 h3=>h _ H' s<|.inr ⟨m,Z,h1,h2,h3⟩⟩
end Hv
namespace L2
open PySem PySem.Spec PyProof.Rows
theorem LG:∀ {ys:List Str} {af:List Value},az (ys.map V.str) af->StrsAre af ys
 | [],_,.nil=>.nil
 | y::r,_,.cons h t=>by
  obtain⟨tk,rfl⟩:=h;show .cons _ _<|LG t
theorem Df:∀l:List (Str×Tok),az ((l.map (·.1)).map V.str) (strValues l)
 | []=>.nil
 | (y,t)::r=>.cons ⟨t,Z⟩ (Df r)
inductive yO(x:V)(vs:List V)(H:Hp)(Q:VK):Prop
 | mk:∀(yP:Str) (l:Addr) (ys:List Str),(x=.str yP)->(vs=[.ref l])->(H l=some (.lst (ys.map V.str)))->((ys.map (·.length)).sum+ys.length*yP.length<=16777216)->(Q (.str (Txt.join yP ys)) H)->yO x vs H Q
def uH:so X "str.join" yO:=by
 intro aa s σ H x vs v us Q I rx rv h;obtain⟨yP,l,ys,rfl,rfl,hl,hz,q⟩:=h;obtain⟨t,rfl⟩:=rx;obtain⟨u,rfl,ru⟩:=rv.one;cases ru;obtain⟨af,r,pl,_⟩:=I.list (ag.of hl);show join_list pl.isList (by simpa using LG r) hz λt' k=>⟨.str _,H,I.tok k,⟨_,Z⟩,q⟩
inductive LH(x:V)(vs:List V)(H:Hp)(Q:VK):Prop
 | mk:∀a b:Str,(x=.str a)->(vs=[.str b])->(Q (.bl (Txt.startswith a b)) H)->LH x vs H Q
def LJ:so X "str.startswith" LH:=by
 intro aa s σ H x vs v us Q I rx rv h;obtain⟨a,b,rfl,rfl,q⟩:=h;obtain⟨t,rfl⟩:=rx;obtain⟨u,rfl,ru⟩:=rv.one;obtain⟨t',rfl⟩:=ru;show SC.startswith ⟨.bl _,H,I,Z,q⟩
def Y_:dw X (.type "int") (λxs H Q=>∃z n,xs=[.str z]/\PySem.intText? z=some n/\z.length<=640/\Q (.int n) H):=by
 intro aa s σ H xs us Q I r h;obtain⟨z,n,rfl,hn,hl,q⟩:=h;obtain⟨u,rfl,t,rfl⟩:=vals1 r;show PySem.W.KIN.call_text hn hl ⟨.int n,H,I.tok _,⟨_,Z⟩,q⟩
def LK:V->List V->Hp->VK->Prop:=λx vs H Q=>∃a b:Str,x=.str a/\vs=[.str b]/\(b.length==0)=false/\a.length<=sizeLine/\(Txt.split a b).length<=sizeLine/\∀l,H l=none->Q (.ref l) (ad H l (.lst ((Txt.split a b).map V.str)))
def rh:so X "str.split" LK:=by
 intro aa s σ H x vs v us Q I rx rv h;obtain⟨a,b,rfl,rfl,hb,hz,gJ,q⟩:=h;obtain⟨t,rfl⟩:=rx;obtain⟨u,rfl,ru⟩:=rv.one;obtain⟨t',rfl⟩:=ru
 have fin:∀ l   k   n ,l.map (·.1)=Txt.split a b->EP X aa σ Q _ {s with heap:=s.heap.push {cls:=.type "list",data:=.seq (strValues l).toArray n},toks:=k}:=λl k n hl=>by
  show⟨.ref _,_,I.laid (o:=.lst _) (λb ob q=>a2y _ q) (a2D _) ⟨by rw[a2x];show gJ,strValues l,n,?_,a2F _ Z⟩,Z,q _<|I.am.fresh<|a2D _⟩;rw[<-hl];show Df l
 have args:=F.args_str_split_2 (.str a t) (.str b t')
 cases ib:(decide (a.length<b.length) || decide (Builtin.Str.strKind a<Builtin.Str.strKind b)) with
 | true=>show call_meets F.slot_str_split (typeIs_str _ _ _) F.entry_str_split args (meets_str_split_cannot_occur a b t t' ib)<|fin [(a,t)] _ 0 (if_pos ib).symm
 | false =>
  cases none:(Builtin.Str.occurrences a b 0 _ _).isEmpty with
  | true=>show call_meets F.slot_str_split (typeIs_str _ _ _) F.entry_str_split args (meets_str_split_not_found a b t t' ib hb none)<|fin [(a,t)] _ 0 ((if_neg (ne_true_of_eq_false ib)).trans<|if_pos none).symm
  | false =>
   have e:Txt.split a b=Builtin.Str.partsBetween a _ _:=(if_neg<|ne_true_of_eq_false ib).trans (if_neg<|ne_true_of_eq_false none);show call_meets F.slot_str_split (typeIs_str _ _ _) F.entry_str_split args (meets_str_split_sep a b t t' ib hb none hz<|by rw[<-e];show gJ) ?_;rw[strsFrom_eq];show fin _ _ 0<|(numbered_texts _ _).trans e.symm
inductive LL(x:V)(lo:Option Int)(hi:Option Int)(H:Hp)(Q:VK):Prop
 | mk:∀z,(x=.str z)->(z.length<=sizeLine)->(Q (.str (Txt.slice z lo hi)) H)->LL x lo hi H Q
def uI:vZ X LL:=by
 intro aa s σ H x v vl vu lo hi sl Q I rx hs pl pu h;obtain⟨z,rfl,hz,q⟩:=h;obtain⟨t,rfl⟩:=rx;show⟨"str",_,F.slot_str_getitem.lookup,typeIs_str _ _ _,?_⟩
 obtain⟨l,rfl,rfl⟩:∃l:Option _,vl=partValue l/\lo=l.map (·.1):=by
  cases pl with
  | none=>show⟨none,Z,Z⟩
  | int i t=>show⟨some (i,t),Z,Z⟩
 obtain⟨u,rfl,rfl⟩:∃u:Option _,vu=partValue u/\hi=u.map (·.1):=by
  cases pu with
  | none=>show⟨none,Z,Z⟩
  | int i t=>show⟨some (i,t),Z,Z⟩
 obtain⟨o,ho,hc,hd⟩:=hs;show wpAny_getItem_str_slice (st:=none) ⟨o,ho,hc,hd⟩ Z<|post_val_or_str ⟨a2U (Txt.slice_le z _ _) hz,λt' k=>⟨.str _,H,I.tok k,⟨_,Z⟩,q⟩⟩
def uJ(z:Str):It:=⟨λi _=>i<z.cps.size,λi H x H'=>H'=H/\∃c,z.cps[i]?=some c/\x=.str ⟨#[c]⟩,λi _=>z.cps.size<=i⟩
def YJ{K:PySem.W.Frag}:jQ P w K tg (uJ z) [it] it (λi h=>h.IsStrIter it "str_ascii_iterator" z t i) where
 mem:=by simp
 obj:=λi h st b hb=>by
  have e:b=it:=by simpa using hb
  subst e;obtain⟨o,e,c,d⟩:=st;show⟨o,e,λv z=>by rw[d] at z;cases z⟩
 keep:=λi h h' st k=>by
  obtain⟨o,e,c,d⟩:=st;show⟨o,k it (by simp) o e,c,d⟩
 item:=by
  intro X hP hw hK hc i aa s σ H E I hf st hg;obtain⟨f0,f1,f2,f3,f4,f5⟩:=hf it (by simp);have hi:=hg;have hx:=a5R hi;show wpAny_pyNext_ascii_item st hx λh' ao sb=>?_;have I1:Inv X aa σ H {s with heap:=h',toks:=s.toks+1}:=I.turned (λb o hb e=>(sb.2 b hb).trans e) f0 f1 f3 f4 f5;obtain⟨o,e,c,d⟩:=id ao;show⟨_,Z,vO e c d (by decide) ⟨.str ⟨#[z.cps[i]]⟩,H,I1,⟨_,Z⟩,⟨Z,_,hx,Z⟩,ao,λb hb=>(hf b hb).1⟩⟩
 done:=by
  intro X hP hw hK hc i aa s σ H E I hf st hg;obtain⟨f0,f1,f2,f3,f4,f5⟩:=hf it (by simp);show wpAny_pyNext_ascii_end (I.ok.hd hc) st (by simp[show z.cps.size<=i from hg]) λh' eb=>⟨Z,I.turned (λb o hb e=>eb b o hb e) f0 f1 f3 f4 f5⟩
 self:=λ_ _ _ _ _ st h=>wpAny_pyIter_striter_ascii st h
inductive LM(R:It->Hp->Prop)(x:V)(H1:Hp):Prop
 | mk:∀z:Str,(x=.str z)->(z.cps.all (·<128)=true)->(R (uJ z) H1)->LM R x H1
def YK(tl:TE):TI:=fun σ H R=>tl σ H (LM R)
def LN(hl:PE X l tl):PI X tg l (YK tl):=by
 show λaa s σ H R I h=>ar (hl aa s σ H _ I h) λv s1 ⟨x,H1,I1,r1,q1⟩=>?_;obtain⟨z,e,ha,q⟩:=q1;subst e;obtain⟨t,rfl⟩:=r1;show wpAny_pyIter_ascii ha (⟨s1.heap.objs.size,[s1.heap.objs.size],_,_,_,Z,I1.kept (t':=s1.toks) λb o e=>a2y _ e,YJ (z:=z) (t:=t),⟨_,a2F _ Z,Z,Z⟩,λb hb=>?_,q⟩);have e:b=s1.heap.objs.size:=by simpa using hb
 subst e;show I1.nJ (a2D _)<|I1.am.fresh<|a2D _
def LO{G:V->Hp->(List V->Hp->Prop)->List V->Prop}{Fin:List V->Hp->Prop}(Pv:Nat->List V->Hp->Prop)(h0:Pv 0 [] H) (hs:∀i c ys H,z.cps[i]?=some c->Pv i ys H->ys.length<sizeLine/\G (.str ⟨#[c]⟩) H (Pv (i+1)) ys) (hd:∀ys H,Pv z.cps.size ys H->Fin ys H) : ∃W:Nat->Nat->List V->Hp->Prop,(∃m,W 0 m [] H)/\∀i m ys H,W i m ys H-> ((uJ z).stop i H/\Fin ys H)\/((uJ z).go i H/\ys.length<sizeLine/\∃Nx:List V->Hp->Prop,(∀cD H',Nx cD H'->∃m',m'<m/\W (i+1) m' cD H')/\∀x H',(uJ z).gy i H x H'->G x H' Nx ys):=by
 show⟨λi m ys H=>m=z.cps.size-i/\i<=z.cps.size/\Pv i ys H,⟨z.cps.size,by simp,a3q _,h0⟩,?_⟩;rintro i m ys H ⟨rfl,hi,p⟩;by_cases aJ:i<z.cps.size
 .have hx:=a5R aJ;obtain⟨a1,a2⟩:=hs i _ ys H hx p;show .inr ⟨aJ,a1,Pv _,λcD H' p'=>⟨z.cps.size-(i+1),by omega,Z,aJ,p'⟩,λx H' y=>?_⟩;obtain⟨e,c,hc,ex⟩:=y;rw[hx] at hc;cases hc;subst e ex;show a2
 .have e:i=z.cps.size:=by omega
  subst e;show .inl ⟨a2D _,hd ys H p⟩
end L2
namespace Mt
open PySem
def fT{a b:Str}(h:a.cps.toList=b.cps.toList):a=b:=Str.ext' (Array.toList_inj.mp h)
def app_list(a b:Str):(a++b).cps.toList=a.cps.toList++b.cps.toList:=by rw[show(a++b).cps=a.cps++b.cps from rfl,a3m]
def one(c:Nat):Str:=⟨#[c]⟩
def ko(c:Nat)(a b:Str)(r:List Str):(Str.join (one c) (a::b::r)).cps.toList=a.cps.toList++c::(Str.join (one c) (b::r)).cps.toList:=by
 change((a++one c)++Str.join _ _).cps.toList=_;rw[app_list,app_list];simp[one]
theorem Dg{c:Nat}:∀ {a a' r r':List Nat},c∉a->c∉a'->a++c::r=a'++c::r'->a=a'/\r=r'
 | [],[],r,r',_,_,e=>⟨Z,by simpa using e⟩
 | [],y::b,r,r',_,h',e=>by
  simp_all
 | x::a,[],r,r',h,_,e=>by
  simp_all
 | x::a,y::b,r,r',h,h',e=>by
  simp only[a4B,a4Z] at e;obtain⟨e1,e2⟩:=Dg (λz=>h<|by simp[z]) (λz=>h'<|by simp[z]) e.2;show⟨by rw[e.1,e1],e2⟩
theorem LP{c:Nat}:∀ {ps qs:List Str},ps≠[]->qs≠[]->(∀p∈ps,c∉p.cps.toList)->(∀p∈qs,c∉p.cps.toList)->Str.join (one c) ps=Str.join (one c) qs->ps=qs
 | [],_,h,_,_,_,_=>absurd Z h
 | _::_,[],_,h,_,_,_=>absurd Z h
 | [a],[b],_,_,_,_,e=>by rw[show a=b from e]
 | [a],b::b'::r,_,_,ha,_,e=>by
  exfalso;have e':=congrArg (λx:Str=>x.cps.toList) e;simp only[ko] at e'
  show ha a (by simp)<|by
   rw[show a.cps.toList=b.cps.toList++c::(Str.join _ _).cps.toList from e'];simp
 | a::a'::r,[b],_,_,_,hb,e=>by
  exfalso;have e':=congrArg (λx:Str=>x.cps.toList) e;simp only[ko] at e'
  show hb b (by simp)<|by
   rw[<-show a.cps.toList++c::(Str.join _ _).cps.toList=b.cps.toList from e'];simp
 | a::a'::r,b::b'::r',_,_,ha,hb,e=>by
  have e':=congrArg (λx:Str=>x.cps.toList) e;simp only[ko] at e';obtain⟨e1,e2⟩:=Dg (ha a<|by simp) (hb b<|by simp) e';have ih:=LP (by simp) (by simp) (λp hp=>ha p<|a2G _ hp) (λp hp=>hb p<|a2G _ hp) (fT e2);rw[fT e1,ih]
def LQ(x y:Str):Txt.split x y≠[]:=by
 unfold Txt.split;split;.simp
 .split;.simp
  .rw[StrLaws.partsBetween_eq];obtain⟨p,r,e⟩:=StrLaws.partsFrom_ne x _ 0 _;rw[e];simp
def Dh(h:ps≠[])(hf:∀p∈ps,c∉p.cps.toList):Txt.split (Txt.join (one c) ps) (one c)=ps:=by
 rw[show Txt.join _ ps=Str.join _ ps from StrLaws.glued_eq_join _ _];show LP (LQ _ _) h (StrLaws.split_free _ c) hf<|StrLaws.join_split _ _
theorem mem_join{c d:Nat}:∀ {ps:List Str},d∈(Str.join (one c) ps).cps.toList->d=c\/∃p∈ps,d∈p.cps.toList
 | [],h=>by simp[Str.join,Str.empty] at h
 | [a],h=>.inr ⟨a,by simp,h⟩
 | a::b::r,h=>by
  rw[ko] at h;rcases a3j.mp h with h | h;.show .inr ⟨a,by simp,h⟩
  .rcases a2B.mp h with h | h;.show .inl h
   .rcases mem_join h with h | ⟨p,hp,h⟩;.show .inl h
    .show .inr ⟨p,a2G _ hp,h⟩
def txt(i:Int):Str:=Str.ofString (toString i)
def LR(c:Nat):Bool:=c==45 || (48<=c&&c<=57)
def uK(i:Int):Bool:=(txt i).cps.toList.all LR&&decide ((txt i).length<=3)&&decide (1<=(txt i).length)&&(PySem.intText? (txt i)==some i)
def YL:∀k:Fin 30,uK ((k:Int)-9)=true:=by decide
def Di(h : -9<=i/\i<=20):uK i=true:=by
 have:=YL ⟨(i+9).toNat,by lia⟩;have e:(((⟨(i+9).toNat,by lia⟩:Fin 30)))-9=i:=by lia
 rw[e] at this;show this
def lF(h : -9<=i/\i<=20):PySem.intText? (txt i)=some i:=by
 have:=Di h;simp only[uK,a2H,beq_iff_eq] at this;show this.2
def Dj(h : -9<=i/\i<=20):1<=(txt i).length/\(txt i).length<=3:=by
 have:=Di h;simp only[uK,a2H,decide_eq_true_eq] at this;show⟨this.1.2,this.1.1.2⟩
def YM(h : -9<=i/\i<=20)(hc:c∈(txt i).cps.toList):c=45\/(48<=c/\c<=57):=by
 have:=Di h;simp only[uK,a2H] at this;have:=a2K.mp this.1.1.1 c hc;simpa [LR] using this
def uL(h : -9<=i/\i<=20)(hd:d=58\/d=43\/d=32):d∉(txt i).cps.toList:=λhc=>by
 have:=YM h hc;lia
def jx(ps:List Nat):Str:=Txt.join (one 43) (ps.map λ(p:Nat)=>txt (p:Int))
def jy(ws:List Int):Str:=Txt.join (one 32) (ws.map txt)
def fText(b:Nat)(ps:List Nat)(ws:List Int):Str:=Txt.join (one 58) [txt (b:Int),jx ps,jy ws]
def YN(h:∀p∈ps,p<=16):58∉(jx ps).cps.toList:=λhc=>by
 rw[show jx ps=Str.join _ _ from StrLaws.glued_eq_join _ _] at hc;rcases mem_join hc with z | ⟨q,hq,z⟩;.cases z
 .obtain⟨p,hp,rfl⟩:=a2N.mp hq;have:=h p hp;show uL (by lia) (.inl Z) z
def YO(h:∀x∈ws,-9<=x/\x<=9):58∉(jy ws).cps.toList:=λhc=>by
 rw[show jy ws=Str.join _ _ from StrLaws.glued_eq_join _ _] at hc;rcases mem_join hc with z | ⟨q,hq,z⟩;.cases z
 .obtain⟨p,hp,rfl⟩:=a2N.mp hq;have:=h p hp;show uL (by lia) (.inl Z) z
def yQ(h0:ps≠[])(h:∀p∈ps,p<=16):Txt.split (jx ps) (one 43)=ps.map λ(p:Nat)=>txt (p:Int) :=
 Dh (by simpa using h0) λq hq=>by
  obtain⟨p,hp,rfl⟩:=a2N.mp hq;have:=h p hp;show uL (by lia)<|.inr<|.inl Z
def yR(h0:ws≠[])(h:∀x∈ws,-9<=x/\x<=9):Txt.split (jy ws) (one 32)=ws.map txt :=
 Dh (by simpa using h0) λq hq=>by
  obtain⟨p,hp,rfl⟩:=a2N.mp hq;have:=h p hp;show uL (by lia)<|.inr<|.inr Z
def yS(hb:b<=16)(hp:∀p∈ps,p<=16)(hw:∀x∈ws,-9<=x/\x<=9):Txt.split (fText b ps ws) (one 58)=[txt (b:Int),jx ps,jy ws] :=
 Dh (by simp) λq hq=>by
  simp only[a2B,a2Q,or_false] at hq;rcases hq with rfl | rfl | rfl;.show uL (by lia)<|.inl Z
  .show YN hp
  .show YO hw
def yT(hi : -9<=i/\i<=20)(hj : -9<=j/\j<=20)(e:txt i=txt j):i=j:=by
 have:=lF hi;rw[e,lF hj] at this;show(a2J this).symm
theorem map_inj{α:Type}{f:α->Str}:∀ {xs ys:List α},(∀x∈xs,∀y∈ys,f x=f y->x=y)->xs.map f=ys.map f->xs=ys
 | [],[],_,_=>rfl
 | [],_::_,_,e=>by simp at e
 | _::_,[],_,e=>by simp at e
 | x::xs,y::ys,h,e=>by
  simp only[a2X,a4Z] at e;rw[h x (by simp) y (by simp) e.1,map_inj (λa ha b hb=>h a (a2G _ ha) b<|a2G _ hb) e.2]
def YQ(hb:b<=16)(hp:∀p∈ps,p<=16)(hw:∀x∈ws,-9<=x/\x<=9)(bO:b'<=16)(gZ:∀p∈uM,p<=16)(qU:∀x∈uN,-9<=x/\x<=9) (n1:ps≠[]) (n2:uM≠[]) (n3:ws≠[]) (n4:uN≠[]) (e:fText b ps ws=fText b' uM uN):b=b'/\ps=uM/\ws=uN:=by
 have e1:=yS hb hp hw;rw[e,yS bO gZ qU] at e1;simp only[a4Z,and_true] at e1;obtain⟨x1,x2,x3⟩:=e1;show⟨?_,?_,?_⟩
 .have:=yT (by lia) (by lia) x1;lia
 .have e2:=yQ n1 hp;rw[<-x2,yQ n2 gZ] at e2;show(map_inj (λx hx y hy z=>?_) e2).symm;have h1:=gZ x hx;have h2:=hp y hy;have:=yT (by lia) (by lia) z;lia
 .have e2:=yR n3 hw;rw[<-x3,yR n4 qU] at e2;show(map_inj (λx hx y hy z=>?_) e2).symm;have h1:=qU x hx;have h2:=hw y hy;show yT (by lia) (by lia) z
def colon:Str.ofString ":"=one 58:=by decide
def plus:Str.ofString "+"=one 43:=by decide
def space:Str.ofString " "=one 32:=by decide
end Mt
namespace Hv
open PySem L2
theorem boot_str:bootBuiltins "str"=some (.type "str"):=PyProof.Rows.boot_str
abbrev cF:Str:="0123456789"
inductive yU(vs:List V)(H:Hp)(Q:VK)(aq:XK):Prop
 | mk:∀(c:Nat) (a:Addr) (ns:List Int),(vs=[.str (Mt.one c),.ref a])->(H a=some (.lst (ns.map V.int)))->(ns.length<=30)->((∀n∈ns,-9<=n/\n<=16))->(∀H',ae H H'->Q (.str (Txt.join (Mt.one c) (ns.map Mt.txt))) H')->yU vs H Q aq
inductive yV(vs:List V)(H:Hp)(Q:VK)(aq:XK):Prop
 | mk:∀f a c b ps ws,(vs=[.ref f])->(aV H f a c b ps ws)->(∀H',ae H H'->Q (.str (Mt.fText b ps ws)) H')->yV vs H Q aq
def uO(hm:X.mg "len"=none)(hg:Gl X "len")(ha:PE X a ta)(hs:starEach [a] X.env=[(false,eval a X.env)]:=by rfl) : PE X (.Call (.Name "len" p) [a] [] pos) (vX (λxs H Q=>∃z,xs=[.str z]/\z.length<=sizeLine/\Q (.int z.length) H) (kM ta ee)):=p_ RE hg hm PySem.boot_len (a_ ha d_ hs) (he:=hs)
def YR:aI ["text","most"] ["text","most"] (f_ qy):=⟨Z,Z,Z,by decide,Z,by decide,by decide⟩
def YS:aI ["text","most"] ["text","most"] (f_ BB):=⟨Z,Z,Z,by decide,Z,by decide,by decide⟩
def LT:aI ["sign","numbers"] ["sign","numbers"] (f_ qz):=⟨Z,Z,Z,by decide,Z,by decide,by decide⟩
def LU{n:Int}(h:n.natAbs<32):n.natAbs.log2<1920:=by
 by_cases h0:n.natAbs=0;.rw[h0];decide
 .show a2L ((a5T h0).mpr (show n.natAbs<2 ^ 5 by lia))<|by decide
theorem yW:∀ {ns:List Int},(∀n∈ns,-9<=n/\n<=16)->((ns.map Mt.txt).map (·.length)).sum<=3*ns.length
 | [],_=>by simp
 | n::r,h=>by
  have h1:=(Mt.Dj (i:=n)<|by have:=h n a2Y;lia).2;have h2:=yW λm hm=>h m<|a2G _ hm;simp only[a2X,a3d,a2P];lia
def YT(F:ay K "joined_by" "joined_by" qz f fd)(hS:mg "str"=none):av P w K mg base aE 1 f fd ["sign","numbers"] yU:=by
 show F.ok LT λak A outer s H vs Q E hr h=>?_
 .obtain⟨c,a,ns,rfl,ha,hl,hn,k⟩:=h;show⟨_,g_<|k_<|dh PySem.F.plainAttrs_str PySem.F.slot_str_join PySem.F.type_str_join uH (pv 0)<|a_ (P_ (f_ qz) ["sign","numbers"] [] [] Z (B_<|pv 1) (λcl C s H fp=>O_) (λcl C s H fp=>G_ S_ (by rfl) hS boot_str<|a_ (pv 0) d_)<|by decide) d_,(⟨_,Z,Z,_,Z,a,Z,⟨_,ag.of ha⟩,z_ (K:=K) (a:=a) (xs:=ns.map V.int) (λi ys H2=>ys=((ns.take i).map Mt.txt).map V.str/\ae H H2) ⟨by simp,ae.refl _⟩ (λi ys H2 _ p=>ag.of (p.2 _ _ ha)) ?_ ?_⟩)⟩
  .rintro i x ys H2 hx ⟨rfl,s2⟩
   obtain⟨n,cC,rfl⟩:∃n:Int,ns[i]?=some n/\x=.int n:=by
    rw[a2E] at hx
    cases e:ns[i]? with
    | none=>rw[e] at hx;cases hx
    | some n=>rw[e] at hx;show⟨n,Z,(a2J hx).symm⟩
   have hb:=hn n (a2A cC);show⟨bT<|by simp;lia,_,Z,n,Z,?_,?_,s2⟩;.show LU<|by lia
   .rw[a2I,cC];simp[Mt.txt]
  .rintro ys H2 ⟨rfl,s2⟩ l cW;rw[a2x,a2M];show⟨_,l,ns.map _,Z,Z,c_,?_,k _<|D_ s2<|s2.free cW⟩;have:=yW hn;rw[a2x];change _+ns.length*1<=_;lia
def Dk(c:Nat)(ys:List Str):(Txt.join (Mt.one c) ys).length<=(ys.map (·.length)).sum+ys.length:=by
 rw[show(Txt.join _ ys).length=(ys.map _).sum+(ys.length-1)*(Mt.one c).length from size_glued _ _];change _+(ys.length-1)*1<=_;lia
def YU(h:∀x∈ws,-9<=x/\x<=9):(Mt.jy ws).length<=4*ws.length:=by
 have h1:=Dk 32 (ws.map Mt.txt);have h2:=yW λn hn=>by have:=h n hn;lia
 rw[a2x] at h1;unfold Mt.jy;lia
def YV(h:∀p∈ps,p<=16):(Mt.jx ps).length<=4*ps.length:=by
 have e:Mt.jx ps=Txt.join (Mt.one 43) ((ps.map λ(p:Nat)=>(p:Int)).map Mt.txt):=by rw[a3v];rfl
 have h1:=Dk 43 ((ps.map λ(p:Nat)=>(p:Int)).map Mt.txt)
 have h2:=yW (ns:=ps.map λ(p:Nat)=> p ) λn hn=>by
  obtain⟨p,hp,rfl⟩:=a2N.mp hn;have:=h p hp;lia
 rw[a2x,a2x] at h1;rw[a2x] at h2;rw[e];lia
def YW:aI ["frame"] ["frame"] (f_ BC):=⟨Z,Z,Z,by decide,Z,by decide,by decide⟩
def YX(F:ay K "show_frame" "show_frame" BC f fd)(hS:mg "str"=none)(D5:ai P w K mg base 5 "need_frame" ["thing"] fS)(DJ:ai P w K mg base 1 "joined_by" ["sign","numbers"] yU):av P w K mg base aE 6 f fd ["frame"] yV:=by
 show F.ok YW λak A outer s H vs Q E hr h=>?_
 .obtain⟨g,a,c,b,ps,ws,rfl,G,k⟩:=h;have ok:=G.ok;show⟨_,b_ (t_ (m_ D5 hr (by rfl) (a_ (pv 0) d_))) (g_ (k_ (dh PySem.F.plainAttrs_str PySem.F.slot_str_join PySem.F.type_str_join uH n_ (a_ (x_ (a_ (G_ S_ (by rfl) hS boot_str (a_ (ce (pv 0) h_) d_)) (a_ (m_ DJ hr.mo (by rfl) (a_ n_ (a_ (ce (pv 0) h_) d_))) (a_ (m_ DJ hr.mo (by rfl) (a_ n_ (a_ (ce (pv 0) h_) d_))) d_)))) d_)))),⟨_,Z,g,a,c,b,ps,ws,Z,G,λH1 s1=>?_⟩⟩;have G1:=G.keep s1;have hb:=ok.cz;have Li:((b:Nat):Int).natAbs.log2<1920:=LU (by lia);show⟨Z,_,Z,_,_,_,_,Z,Z,aP.of G1.tp,Z,⟨_,Z,Li,?_⟩⟩;rw[Mt.plus,Mt.space];show⟨_,Z,_,_,_,_,Z,Z,aP.of G1.tp,Z,⟨43,a,ps.map λ(p:Nat)=>(p:Int),Z,by rw[<-Bb];show G1.hp,by rw[a2x];have:=ok.l4;lia,λn hn=>?_,λH2 s2=>?_⟩⟩
  .obtain⟨p,hp,rfl⟩:=a2N.mp hn;have:=ok.pr p hp;lia
  have G2:=G1.keep s2;show⟨_,Z,_,_,_,_,Z,Z,aP.of G2.tp,Z,⟨32,c,ws,Z,G2.hw,by rw[ok.wl];have:=ok.sum;lia,λn hn=>by have:=ok.wr n hn;lia,λH3 s3=>⟨sz (by simp),λl hl=>⟨_,l,[Mt.txt (b:Int),Mt.jx ps,Mt.jy ws],Z,Z,?_,?_,?_⟩⟩⟩⟩
  .rw[c_];change some (HO.lst [V.str (Mt.txt (b:Int)),V.str (Txt.join (Mt.one 43) ((ps.map λ(p:Nat)=>(p:Int)).map Mt.txt)),V.str (Txt.join (Mt.one 32) (ws.map Mt.txt))])=_;rw[a3v];rfl
  .have t1:=(Mt.Dj (i:=(b:Int)) (by lia)).2;have t2:=YV (ps:=ps) λp hp=>by have:=ok.pr p hp;lia
   have t3:=YU (ws:=ws) ok.wr;have l4:=ok.l4;have lw:=ok.wl;have hs:=ok.sum;change(Mt.txt (b:Int)).length+((Mt.jx ps).length+((Mt.jy ws).length+0))+3*(Str.ofString ":").length<=16777216;rw[show(Str.ofString ":").length=1 from rfl];lia
  .rw[Mt.colon];show k _ (s1.trans (s2.trans (s3.trans (e_ hl))))
def Dl:PySem.W.kitOne K (.type "str") (.type "str")=some true:=by kernel_rfl
def iS{ys:List Str}{i:Nat}(h:(ys.map V.str)[i]?=some x):∃y:Str,ys[i]?=some y/\x=.str y:=by
 rw[a2E] at h
 cases e:ys[i]? with
 | none=>rw[e] at h;cases h
 | some d=>rw[e] at h;show⟨d,Z,(a2J h).symm⟩
def Dm{α:Type}{f:α->Str}{ys:List α}{i:Nat}(h:(ys.map f)[i]?=some x):∃y,ys[i]?=some y/\x=f y:=by
 rw[a2E] at h
 cases e:ys[i]? with
 | none=>rw[e] at h;cases h
 | some d=>rw[e] at h;show⟨d,Z,(a2J h).symm⟩
def YY:aI ["base","parts","weights"] ["base","parts","weights"] (f_ sV):=⟨Z,Z,Z,by decide,Z,by decide,by decide⟩
def LV:aI ["text","pieces","parts","weights","frame"] ["text"] (f_ sW):=⟨Z,Z,Z,by decide,Z,by decide,by decide⟩
def yX:aI ["text","frame"] ["text"] (f_ wW):=⟨Z,Z,Z,by decide,Z,by decide,by decide⟩
end Hv
namespace Mt
open PySem PyProof.Rows
def rj{a b:Str}(h:(a==b)=true):a=b:=eq_of_beq h
def len_list(z:Str):z.length=z.cps.toList.length:=by simp[Str.length]
def rm{i:Nat}(h:i<=z.length):(Txt.slice z (some (i:Int)) none).cps.toList=z.cps.toList.drop i:=by
 rw[slice_from_eq (by lia) (by lia) Z];simp only[a5e];rw[a3f];rw[a3c,<-len_list];lia
def YZ{j:Nat}(h:j<=z.length):(Txt.slice z none (some (j:Int))).cps.toList=z.cps.toList.take j:=by
 have e:=rj (slice_closes_toL (x:=z) (j:= j ) (by lia)<|by lia);rw[e];simp
def yY(z:Str)(c:Nat):Txt.startswith z (one c)=(z.cps.toList.head?==some c):=by
 unfold Txt.startswith
 cases h:z.cps.toList with
 | nil =>
  have:z.length=0:=by rw[len_list,h];rfl
  rw[this];rfl
 | cons d r =>
  have hl:1<=z.length:=by rw[len_list,h];simp
  have e1:decide (0+(one c).length<=z.length)=true:=decide_eq_true (by change 0+1<=z.length;lia);rw[e1,a5u];change(z.cps.extract 0 (0+1)==#[c])=_
  have e2:z.cps.extract 0 (0+1)=#[d]:=by
   apply Array.toList_inj.mp;rw[a5x,h];rfl
  rw[e2];by_cases hd:d=c;.simp
  .simp[hd]
def dr(c:Nat):Bool:=decide (48<=c)&&decide (c<=57)
def uP(h:dr c=true):∃k:Fin 10,c=48+(k:Nat):=by
 simp only[dr,a2H,decide_eq_true_eq] at h;show⟨⟨c-48,by lia⟩,by lia⟩
def bG(z:Str)(m:Int):Bool:=decide ((1:Int)<=z.length)&&decide ((z.length:Int)<=m)&&!(decide (1<z.length)&&z.cps.toList.head?==some 48)&&z.cps.toList.all dr
def dC(z:Str)(m:Int):Bool:=if Txt.startswith z (one 45) then !decide (z=Str.ofString "-0")&&bG (Txt.slice z (some 1) none) m else bG z m
def LW:∀k:Fin 10,((⟨#[48+(k:Nat)]⟩:Str)==txt ((k:Nat):Int))=true:=by decide
def two_txt:∀k l:Fin 10,(k:Nat)=0\/((⟨#[48+(k:Nat),48+(l:Nat)]⟩:Str)==txt (((k:Nat):Int)*10+((l:Nat):Int)))=true:=by decide
def Y0:∀k:Fin 10,(k:Nat)=0\/((⟨#[45,48+(k:Nat)]⟩:Str)==txt (-((k:Nat):Int)))=true:=by decide
def Y1:((⟨#[45,48]⟩:Str)==Str.ofString "-0")=true:=by decide
def LX(h:bG z 1=true):∃n:Nat,n<=9/\z=txt (n:Int):=by
 simp only[bG,a2H,decide_eq_true_eq] at h;obtain⟨⟨⟨h1,h2⟩,_⟩,h3⟩:=h;have hl:=len_list z
 match e:z.cps.toList with
 | []=>rw[e] at hl;simp at hl;lia
 | [c] =>
  rw[e] at h3;simp at h3;obtain⟨k,rfl⟩:=uP h3;show⟨k,by lia,by rw[<-rj (LW k)];show fT<|by rw[e]⟩
 | c::d::r=>rw[e] at hl;simp at hl;lia
def Y2(h:bG z 2=true):∃n:Nat,n<=99/\z=txt (n:Int):=by
 simp only[bG,a2H,decide_eq_true_eq,a3V,Bool.and_eq_false_iff,decide_eq_false_iff_not] at h;obtain⟨⟨⟨h1,h2⟩,h4⟩,h3⟩:=h;have hl:=len_list z
 match e:z.cps.toList with
 | []=>rw[e] at hl;simp at hl;lia
 | [c] =>
  rw[e] at h3;simp at h3;obtain⟨k,rfl⟩:=uP h3;show⟨k,by lia,by rw[<-rj (LW k)];show fT<|by rw[e]⟩
 | [c,d] =>
  rw[e] at h3 h4 hl;simp at h3 hl;obtain⟨k,rfl⟩:=uP h3.1;obtain⟨l,rfl⟩:=uP h3.2;rcases two_txt k l with h0 | h0;.simp_all
  .show⟨k*10+l,by lia,?_⟩;have:=rj h0;push_cast;rw[<-this];show fT<|by rw[e]
 | c::d::x::r=>rw[e] at hl;simp at hl;lia
def Y3(h:dC z 1=true):∃n:Int,-9<=n/\n<=9/\z=txt n:=by
 unfold dC at h;split at h
 .rename_i hs;rw[yY] at hs;simp only[a2H,a3V,decide_eq_false_iff_not] at h;obtain⟨h0,h1⟩:=h
  match e:z.cps.toList with
  | []=>rw[e] at hs;simp at hs
  | c::r =>
   rw[e] at hs;simp at hs;subst hs;have hl:1<=z.length:=by rw[len_list,e];simp
   have es:=rm hl;rw[e] at es;simp at es;simp only[bG,a2H,decide_eq_true_eq] at h1;obtain⟨⟨⟨h1,h2⟩,_⟩,h3⟩:=h1;rw[len_list,es] at h1 h2;rw[es] at h3
   match r,h1,h2,h3,e with
   | [],h1,_,_,_=>simp at h1
   | [d],_,_,h3,e =>
    simp at h3;obtain⟨k,rfl⟩:=uP h3;have ez:z=⟨#[45,48+ k ]⟩:=fT (by rw[e]);rcases Y0 k with hk | hk
    .show absurd ?_ h0;rw[ez,hk];show rj Y1
    .show⟨- (k:Nat) ,by lia,by lia,by rw[ez];show rj hk⟩
   | d::x::r,_,h2,_,_=>simp at h2;lia
 .obtain⟨n,h1,h2⟩:=LX h;show⟨n,by lia,by lia,h2⟩
def Dn(z:Str)(c:Nat):Txt.join (one c) (Txt.split z (one c))=z:=by
 rw[show Txt.join _ _=Str.join _ _ from StrLaws.glued_eq_join _ _];show StrLaws.join_split _ _
def Do(h:∀d∈z.cps.toList,d<128)(hp:p∈Txt.split z (one c)):(∀d∈p.cps.toList,d<128)/\p.length<=z.length:=by
 have e:=StrLaws.join_split z (one c)
 have aL:∀ ps ,p∈ps->(∀d∈p.cps.toList,d∈(Str.join (one c) ps).cps.toList)/\p.cps.toList.length<=(Str.join (one c) ps).cps.toList.length:=λps=>by
  induction ps with
  | nil=>intro h;simp at h
  | cons a r ih =>
   intro hp
   cases r with
   | nil =>
    rw[a2Z.mp hp]
    have e1:(Str.join (one c) [a])=a:=by
     have:=StrLaws.glued_eq_join (one c) [a];rfl
    show⟨λd hd=>hd,a2D _⟩
   | cons b r =>
    rw[ko];rcases a2B.mp hp with rfl | hp;.show⟨λd hd=>a3Q _ hd,by simp⟩
    .have:=ih hp;show⟨λd hd=>a3b _ (a2G _ (this.1 d hd)),by rw[a2O,a2P];lia⟩
 have:=aL _ hp;rw[e] at this;show⟨λd hd=>h d (this.1 d hd),by rw[len_list,len_list];show this.2⟩
end Mt
namespace Hv
open PySem L2
def cg(z:Str):Prop:=∀c∈z.cps.toList,c<128
def Y4:∀k:Fin 128,(!(Builtin.Str.occurrences cF ⟨#[(k:Nat)]⟩ 0 cF.length 1).isEmpty)=Mt.dr k:=by decide
def LY(h:cg z):z.cps.all (·<128)=true:=by
 rw[<-Array.all_toList,a2K];show λc hc=>decide_eq_true<|h c hc
def fJ{aY:List Stmt}(h:bQ X aY t)(w:∀D σ H,t' D σ H->t D σ H):bQ X aY t':=λaa s σ H D I q=>h aa s σ H D I<|w D σ H q
inductive rn(vs:List V)(H:Hp)(Q:VK)(aq:XK):Prop
 | mk:∀(z:Str) (m:Int),(vs=[.str z,.int m])->(cg z)->(z.length<=1000)->(∀H',ae H H'->Q (.bl (Mt.bG z m)) H')->rn vs H Q aq
inductive uQ(vs:List V)(H:Hp)(Q:VK)(aq:XK):Prop
 | mk:∀(z:Str) (m:Int),(vs=[.str z,.int m])->(cg z)->(z.length<=1000)->(∀H',ae H H'->Q (.bl (Mt.dC z m)) H')->uQ vs H Q aq
inductive LZ(D:Ends)(σ:St)(H:Hp):Prop
 | mk:∀z:Str,(σ[0]?=some (some (.str z)))->(cg z)->(z.length<=1000)->(∀H',ae H H'->D.rt (.bl (z.cps.toList.all Mt.dr)) H')->LZ D σ H
def Y5(T:Txt mg)(hF:mg "FIGURES"=some (.str cF tk)):bQ (Cx.iy (bR aE P w K mg base ["text","most"] "is_written" (f_ qy) f ak A outer s H E)) [(I_ qy).getD 1 (.Pass ⟨0,0,0,0⟩)] LZ:=by
 show fJ (g_<|k_<|p_ (qm Z) (by rfl) T.all boot_all<|a_ (P_ (f_ qy) ["text","most"] [] [] Z (LN<|pv 0) (λcl C s H fp=>O_) (λcl C s H fp=>sd GN (pv 0) (U_ (v:=.str cF) (by rfl) hF ⟨tk,Z⟩)<|by rfl)<|by decide) d_) λD σ H1 h=>?_;obtain⟨z,e0,bW,hl,k⟩:=h;have hz:z.cps.size<=1000:=hl;show⟨_,e0,z,Z,LY bW,LO (λi ys H2=>i<=z.cps.size/\ys=((z.cps.toList.take i).map Mt.dr).map V.bl/\ae H1 H2) ⟨a3q _,Z,ae.refl _⟩ ?_ ?_⟩
 .rintro i c ys H2 hc ⟨hi,rfl,s2⟩;have jr:=(a3s.mp hc).1;rw[<-a4K] at hc;have hm:=a2A hc;show⟨bT<|by simp;lia,_,Z,_,_,Z,Z,jr,?_,s2⟩;have:=Y4 ⟨c,bW c hm⟩;rw[show(!(Builtin.Str.occurrences cF ⟨#[c]⟩ 0 _ 1).isEmpty)=Mt.dr c from this,a2I,hc];simp
 .rintro ys H2 ⟨_,rfl,s2⟩ D' hD;have e:z.cps.toList.take z.cps.size=z.cps.toList:=a3f (by simp);rw[e];show⟨D',z.cps.toList.map _,Z,ag.of c_,?_⟩;rw[show(z.cps.toList.map _).all id=z.cps.toList.all Mt.dr by simp[a4k]];show k _<|D_ s2<|s2.free hD
def Y6(F:ay K "is_written" "is_written" qy f fd)(T:Txt mg)(hF:∃t,mg "FIGURES"=some (.str cF t)):av P w K mg base aE 1 f fd ["text","most"] rn:=by
 obtain⟨tk,hF⟩:=hF;show F.ok YR λak A outer s H vs Q E hr h=>?_
 .obtain⟨z,m,rfl,bW,l9,k⟩:=h;show⟨_,b_ (C_ (PW.pt (je (N_ (AB jT jT h_ (uO T.len (by rfl) (pv 0)) (pv 1))) (jO (PW.pt (vH (r_ r9 (uO T.len (by rfl) (pv 0)) h_ (bx _)) (As (r_ dW (sr AI (pv 0) h_ (by intro _ _;rfl)) n_ (bx _)))))))) (g_ (k_ ff)) q_) (Y5 T hF),?_⟩;have hz:z.length<=sizeLine:=a2U l9 (by decide);show⟨_,Z,z,Z,hz,_,_,Z,Z,_,Z,?_⟩;by_cases h1:(1:Int)<=(z.length:Int)
  .rw[decide_eq_true h1];show bj ⟨_,Z,_,_,Z,Z,_,Z,?_⟩;by_cases h2:(z.length:Int)<=m
   .show RY h2 ⟨_,Z,z,Z,hz,_,_,Z,Z,_,Z,kX (λh3=>?_) (λh3=>?_)⟩
    .have mJ:1<z.length:=by lia
     cases hl:z.cps.toList with
     | nil=>rw[Mt.len_list,hl] at mJ;simp at mJ
     | cons c r =>
      show⟨_,Z,z,0,c,Z,Z,hz,by rw[hl];show J_ Z,Z,_,Z,?_⟩;by_cases hc:c=48
      .have e:V.str ⟨#[c]⟩=V.str (Str.ofString "0"):=by rw[hc];rfl
       rw[decide_eq_true e];have ef:Mt.bG z m=false:=by simp[Mt.bG,hl,hc,mJ]
       have:=k H (ae.refl _);rw[ef] at this;show bj this
      .have ne:¬ V.str ⟨#[c]⟩=V.str (Str.ofString "0"):=λe=>hc (by
        injection e with e';have e2:(⟨#[c]⟩:Str).cps=(Str.ofString "0").cps:=congrArg Str.cps e';have e3:(#[c]:Array Nat)=#[48]:=e2;simpa using e3);rw[decide_eq_false ne]
       have ef:Mt.bG z m=z.cps.toList.all Mt.dr:=by
        simp only[Mt.bG,decide_eq_true h1,decide_eq_true h2,hl];simp[hc]
       rw[ef] at k;show aK ⟨z,Z,bW,l9,k⟩
    .have mJ:¬ 1<z.length:=λz1=>h3 (decide_eq_true (by lia))
     have ef:Mt.bG z m=z.cps.toList.all Mt.dr:=by
      simp only[Mt.bG,decide_eq_true h1,decide_eq_true h2,decide_eq_false mJ];simp
     rw[ef] at k;show aK ⟨z,Z,bW,l9,k⟩
   .rw[decide_eq_false h2];have ef:Mt.bG z m=false:=by simp only[Mt.bG,decide_eq_false h2];simp
    have:=k H (ae.refl _);rw[ef] at this;show bj this
  .rw[decide_eq_false h1];have ef:Mt.bG z m=false:=by simp only[Mt.bG,decide_eq_false h1];simp
   have:=k H (ae.refl _);rw[ef] at this;show aK ⟨false,Z,bj this⟩
def Y7(F:ay K "is_written_with_sign" "is_written_with_sign" BB f fd)(DW:ai P w K mg base 1 "is_written" ["text","most"] rn):av P w K mg base aE 2 f fd ["text","most"] uQ:=by
 show F.ok YS λak A outer s H vs Q E hr h=>?_
 .obtain⟨z,m,rfl,bW,l9,k⟩:=h;have hz:z.length<=sizeLine:=a2U l9 (by decide);show⟨_,b_ (C_ (L_ (dh PySem.F.plainAttrs_str PySem.F.slot_str_startswith PySem.F.type_str_startswith LJ (pv 0) (a_ n_ d_))) (g_ (k_ (pZ (sd rZ (pv 0) n_ (bx _)) (pY (m_ DW hr (by rfl) (a_ (jX uI (pv 0) (iF h_) lX) (a_ (pv 1) d_))))))) q_) (g_ (k_ (m_ DW hr (by rfl) (a_ (pv 0) (a_ (pv 1) d_))))),⟨_,Z,Z,_,_,Z,Z,_,Z,?_⟩⟩;have em:Str.ofString "-"=Mt.one 45:=by decide
  show em▸?_
  cases hs:Txt.startswith z (Mt.one 45) with
  | true =>
   by_cases h0:z=Str.ofString "-0"
   .show bj ⟨_,Z,Z,false,?_,aK ?_⟩
    .rw[decide_eq_true (by rw[h0])];rfl
    .have:=k H (ae.refl _);rwa [show Mt.dC z m=false by simp only[Mt.dC,hs,if_true,decide_eq_true h0];rfl] at this
   .show bj ⟨_,Z,Z,true,?_,bj ?_⟩
    .have ne:¬ V.str z=V.str (Str.ofString "-0"):=λe=>h0 (by injection e);rw[decide_eq_false ne];rfl
    .show⟨_,Z,_,Z,z,Z,hz,_,Z,_,_,Z,?_,?_,?_⟩
     .intro c hc
      have hl:1<=z.length:=by
       rw[Mt.yY] at hs;rw[Mt.len_list]
       cases hh:z.cps.toList with
       | nil=>rw[hh] at hs;simp at hs
       | cons a b=>simp
      have:=Mt.rm hl;have e:(Txt.slice z (some 1) none).cps.toList=z.cps.toList.drop 1:=this;rw[e] at hc;show bW c (a3D hc)
     .have hl:1<=z.length:=by
       rw[Mt.yY] at hs;rw[Mt.len_list]
       cases hh:z.cps.toList with
       | nil=>rw[hh] at hs;simp at hs
       | cons a b=>simp
      have e:(Txt.slice z (some 1) none).cps.toList=z.cps.toList.drop 1:=Mt.rm hl;rw[Mt.len_list,e,a3c,<-Mt.len_list];lia
     .rwa [show Mt.dC z m=Mt.bG (Txt.slice z (some 1) none) m by simp only[Mt.dC,hs,if_true,decide_eq_false h0];rfl] at k
  | false =>
   show aK ⟨_,Z,_,Z,_,_,Z,bW,l9,?_⟩;rwa [show Mt.dC z m=Mt.bG z m by simp only[Mt.dC,hs];rfl] at k
inductive yZ(vs:List V)(H:Hp)(Q:VK)(aq:XK):Prop
 | mk:∀(z:Str) (l1 l2:Addr) (ps ws:List Str),(vs=[.str z,.ref l1,.ref l2])->(cg z)->(z.length<=1000)->(H l1=some (.lst (ps.map V.str)))->(H l2=some (.lst (ws.map V.str)))->(ps.length<=1000)->(ws.length<=1000)->((∀p∈ps,cg p/\p.length<=1000))->((∀p∈ws,cg p/\p.length<=1000))->(∀H',ae H H'->Q (.bl (Mt.bG z 2&&ps.all (λp=>Mt.bG p 1)&&ws.all λp=>Mt.dC p 1)) H')->yZ vs H Q aq
def y0(z:Str):Prop:=∃b ps ws,dY b ps ws/\z=Mt.fText b ps ws
inductive uR(vs:List V)(H:Hp)(Q:VK)(aq:XK):Prop
 | mk:∀v,(vs=[v])->(((∃z,v=.str z/\cg z/\z.length<=300/\(∀b ps ws f a c H',z=Mt.fText b ps ws->ae H H'->aV H' f a c b ps ws->H f=none->H a=none->H c=none->a≠c->Q (.ref f) H')/\(¬ y0 z->∀H',ae H H'->Q .au H'))\/(cM H v/\(∀z,v≠.str z)/\∀H',ae H H'->Q .au H')))->uR vs H Q aq
def Y8:PySem.W.kitOne K (.type "NoneType") (.type "str")=some false:=by kernel_rfl
def Y9:PySem.W.kitOne K (.type "bool") (.type "str")=some false:=by kernel_rfl
def tw_:PySem.W.kitOne K (.type "int") (.type "str")=some false:=by kernel_rfl
def Y':PySem.W.kitOne K (.type "list") (.type "str")=some false:=by kernel_rfl
def Za:PySem.W.kitOne K (.type "tuple") (.type "str")=some false:=by kernel_rfl
def Zb:PySem.W.kitOne K (.type "dict") (.type "str")=some false:=by kernel_rfl
def L3(t:cM H v)(n:∀z,v≠.str z):∃ty,f9 K H v ty/\PySem.W.kitOne K ty (.type "str")=some false:=by
 cases t with
 | au=>show⟨_,.au,Y8⟩
 | bl b=>show⟨_,.bl b,Y9⟩
 | int i=>show⟨_,.int i,tw_⟩
 | str x=>show absurd Z<|n x
 | lst e=>show⟨_,.lst e,Y'⟩
 | tup e=>show⟨_,.tup e,Za⟩
 | dK e=>show⟨_,.dK e,Zb⟩
def L4{α:Type}{p:α->Bool}{l:List α}{x:α}(h:l[i]?=some x):((l.take (i+1)).map p).map V.bl=((l.take i).map p).map V.bl++[V.bl (p x)]:=by
 rw[a2I,h];simp
def Zc(F:ay K "is_writing" "is_writing" sV f fd)(T:Txt mg)(DW:ai P w K mg base 1 "is_written" ["text","most"] rn)(DS:ai P w K mg base 2 "is_written_with_sign" ["text","most"] uQ) : av P w K mg base aE 3 f fd ["base","parts","weights"] yZ:=by
 show F.ok YY λak A outer s H vs Q E hr h=>?_
 .obtain⟨z,l1,l2,ps,ws,rfl,bW,hz,h1,h2,lp,lw,ap,aw,k⟩:=h;show⟨_,b_ (C_ (PW.pt (je (N_ (L_ (m_ DW hr.mo (by rfl) (a_ (pv 0) (a_ h_ d_))))) (jO (N_ (L_ (p_ (qm Z) (by rfl) T.all boot_all (a_ (P_ (f_ sV) ["base","parts","weights"] [] [] Z (B_ (pv 1)) (λcl C s H fp=>O_) (λcl C s H fp=>m_ DW hr.mo (by rfl) (a_ (pv 0) (a_ h_ d_))) (by decide)) d_))))))) (g_ (k_ ff)) q_) (g_ (k_ (p_ (qm Z) (by rfl) T.all boot_all (a_ (P_ (f_ sV) ["base","parts","weights"] [] [] Z (B_ (pv 2)) (λcl C s H fp=>O_) (λcl C s H fp=>m_ DS hr (by rfl) (a_ (pv 0) (a_ h_ d_))) (by decide)) d_)))),(⟨_,Z,z,2,Z,bW,hz,λH1 s1=>⟨_,Z,?_⟩⟩)⟩
  cases e1:Mt.bG z 2 with
  | false =>
   rw[e1] at k;show bj (k H1 s1)
  | true =>
  show aK (⟨_,Z,l1,Z,⟨_,ag.of (s1 _ _ h1)⟩,z_ (K:=K) (a:=l1) (xs:=ps.map V.str) (λi ys H2=>ys=((ps.take i).map λp=>Mt.bG p 1).map V.bl/\ae H1 H2) ⟨Z,ae.refl _⟩ (λi ys H2 _ q=>ag.of (q.2 _ _ (s1 _ _ h1))) ?_ ?_⟩)
  .rintro i x ys H2 hx ⟨rfl,s2⟩;obtain⟨y,hy,rfl⟩:=iS hx;have hm:=a2A hy;show⟨bT (by simp;lia),_,Z,y,1,Z,(ap y hm).1,(ap y hm).2,λH3 s3=>⟨((L4 hy).symm),s2.trans s3⟩⟩
  rintro ys H2 ⟨rfl,s2⟩ l hl;rw[a2x,a2M];show⟨l,ps.map λp=>Mt.bG p 1,Z,ag.of c_,_,Z,?_⟩;show (show(ps.map λp=>Mt.bG p 1).all id=ps.all (λp=>Mt.bG p 1) by simp[a4k])▸?_;have S3:=(s1.trans s2).trans (e_ (o:=.lst ((ps.map λp=>Mt.bG p 1).map V.bl)) hl);generalize ad H2 l (.lst ((ps.map λp=>Mt.bG p 1).map V.bl))=H3 at S3⊢
  cases e2:ps.all (λp=>Mt.bG p 1) with
  | false =>
   rw[e1,e2] at k;show bj (k H3 S3)
  | true =>
  show aK ?_;rw[e1,e2] at k;show⟨_,Z,l2,Z,⟨_,ag.of (S3 _ _ h2)⟩,z_ (λi ys H4=>ys=((ws.take i).map λp=>Mt.dC p 1).map V.bl/\ae H3 H4) ⟨Z,ae.refl _⟩ (λi ys H4 _ q=>ag.of (q.2 _ _ (S3 _ _ h2))) ?_ ?_⟩
  .rintro i x ys H4 hx ⟨rfl,s4⟩;obtain⟨y,hy,rfl⟩:=iS hx;have hm:=a2A hy;show⟨bT (by simp;lia),_,Z,y,1,Z,(aw y hm).1,(aw y hm).2,λH5 s5=>⟨((L4 hy).symm),s4.trans s5⟩⟩
  rintro ys H4 ⟨rfl,s4⟩ l' cW;rw[a2x,a2M];show⟨l',ws.map λp=>Mt.dC p 1,Z,ag.of c_,?_⟩;rw[show(ws.map λp=>Mt.dC p 1).all id=ws.all (λp=>Mt.dC p 1) by simp[a4k]];show k _ (D_ (S3.trans s4) ((S3.trans s4).free cW))
theorem L5:∀ {ps:List Str},(ps.all λp=>Mt.bG p 1)=true->∃ns:List Nat,ps=(ns.map λ(n:Nat)=>Mt.txt (n:Int))/\∀n∈ns,n<=9
 | [],_=>⟨[],Z,by simp⟩
 | p::r,h=>by
  simp only[a3x,a2H] at h;obtain⟨n,hn,rfl⟩:=Mt.LX h.1;obtain⟨ns,rfl,hs⟩:=L5 h.2
  show⟨n::ns,Z,λm hm=>by
   rcases a2B.mp hm with rfl | hm;.show hn
   .show hs m hm⟩
theorem L6:∀ {ps:List Str},(ps.all λp=>Mt.dC p 1)=true->∃ns:List Int,ps=ns.map Mt.txt/\∀n∈ns,-9<=n/\n<=9
 | [],_=>⟨[],Z,by simp⟩
 | p::r,h=>by
  simp only[a3x,a2H] at h;obtain⟨n,h1,h2,rfl⟩:=Mt.Y3 h.1;obtain⟨ns,rfl,hs⟩:=L6 h.2
  show⟨n::ns,Z,λm hm=>by
   rcases a2B.mp hm with rfl | hm;.show⟨h1,h2⟩
   .show hs m hm⟩
def Ze:∀k:Fin 100,(PySem.intText? (Mt.txt ((k:Nat):Int))==some ((k:Nat):Int)&&decide ((Mt.txt ((k:Nat):Int)).length<=2))=true:=by decide
def y6{n:Nat}(h:n<=99):PySem.intText? (Mt.txt (n:Int))=some (n:Int)/\(Mt.txt (n:Int)).length<=2:=by
 have:=Ze ⟨n,by lia⟩;simp only[a2H,decide_eq_true_eq,beq_iff_eq] at this;show this
def Zf:∀k:Fin 17,Mt.bG (Mt.txt ((k:Nat):Int)) 2=true:=by decide
def Zg:∀k:Fin 10,Mt.bG (Mt.txt ((k:Nat):Int)) 1=true:=by decide
def Zh:∀k:Fin 19,Mt.dC (Mt.txt (((k:Nat):Int)-9)) 1=true:=by decide
def Zi(ok:dY b ps ws):(Mt.bG (Mt.txt (b:Int)) 2&&(ps.map λ(p:Nat)=>Mt.txt (p:Int)).all (λp=>Mt.bG p 1)&&(ws.map Mt.txt).all λp=>Mt.dC p 1)=true:=by
 simp only[a2H,a2K,a2N,forall_exists_index,and_imp];show⟨⟨Zf ⟨b,by have:=ok.cz;lia⟩,λx p hp e=>?_⟩,λx n hn e=>?_⟩
 .rw[<-e];show Zg ⟨p,by have:=ok.pr p hp;lia⟩
 .rw[<-e];have h:=ok.wr n hn;have:=Zh ⟨(n+9).toNat,by lia⟩;have e2:(((n+9).toNat))-9=n:=by lia
  simp only[e2] at this;show this
def L7{n m:Nat}(hn:n<=99)(hm:m<=99)(e:Mt.txt (n:Int)=Mt.txt (m:Int)):n=m:=by
 have h:=(y6 hn).1;rw[e,(y6 hm).1] at h;lia
def Zj(h:M_ (iJ b ps ws)=true):dY b ps ws:=by
 unfold iJ at h;rw[IM] at h;simp only[a2H,decide_eq_true_eq,a2K,a2x] at h;obtain⟨⟨⟨h1,h2⟩,h3,h4,h5⟩,h6,h7⟩:=h;show⟨by lia,by lia,h4,h5,λp hp=>?_,?_,h6⟩
 .have:=h3  p  (a2N.mpr ⟨p,hp,Z⟩);lia
 .have e:((ps.map λ(p:Nat)=>(p:Int)).sum)=(ps.sum):=by
   clear h1 h2 h3 h4 h5 h6 h7
   induction ps with
   | nil=>rfl
   | cons p r ih=>simp_all
  rw[e] at h7;lia
def Zk(hb:b<=99)(hp:∀p∈ps,p<=9)(hw:∀x∈ws,-9<=x/\x<=9)(l1:ps.length<=301)(l2:ws.length<=301):Sh (iJ b ps ws):=by
 have h1:=tI (ns:=ps.map λ(p:Nat)=> p ) λn hn=>by
  obtain⟨p,gZ,rfl⟩:=a2N.mp hn;have:=hp p gZ;lia
 have h2:=tI λn hn=>by have:=hw n hn;lia
 have h3:=B' (i:= b ) (by lia);rw[a2x] at h1;unfold Sh iJ;simp only[PyData.weight,PyData.weightAll] at h3⊢;lia
def Dp(z:Str)(c:Nat):(Txt.split z (Mt.one c)).length<=z.length+1:=by
 have e:=StrLaws.join_split z (Mt.one c)
 have aL:∀ps:List Str,ps.length<=(Str.join (Mt.one c) ps).cps.toList.length+1:=λps=>by
  induction ps with
  | nil=>simp
  | cons a r ih =>
   cases r with
   | nil=>simp
   | cons b r =>
    rw[Mt.ko,a2O,a2P];simp only[a2P] at ih⊢;lia
 have:=aL (Txt.split z<|Mt.one c);rw[e,<-Mt.len_list] at this;show this
def Zl{f:Addr}{fd:FuncData}(F:ay K "frame_or_none" "frame_or_none" sW f fd)(T:Txt mg)(hS:mg "str"=none)(D4:ai P w K mg base 4 "is_frame" ["thing"] tG)(DW:ai P w K mg base 3 "is_writing" ["base","parts","weights"] yZ) : av P w K mg base aE 5 f fd ["text"] uR:=by
 show F.ok LV λak A outer s H vs Q E hr h=>?_
 .obtain⟨v,rfl,h⟩:=h;have nd:=LV.nd;rcases h.symm with⟨t,nz,k2⟩ | ⟨z,rfl,bW,hz,k1,k2⟩
  .obtain⟨ty,t1,t2⟩:=L3 (K:=K) t nz;show⟨_,b_ (C_ (N_ (L_ (p_ mi (by rfl) T.fF boot_isinstance (a_ (pv 0) (a_ (lf hS boot_str) d_))))) (g_ (k_ iu)) q_) A_,⟨_,Z,_,_,_,_,Z,t1,t2,false,Z,bj (k2 H (ae.refl _))⟩⟩
  show⟨_,b_ (C_ (N_ (L_ (p_ mi (by rfl) T.fF boot_isinstance (a_ (pv 0) (a_ (lf hS boot_str) d_))))) (g_ (k_ iu)) q_) (b_ (j_ 1 (dh PySem.F.plainAttrs_str PySem.F.slot_str_split PySem.F.type_str_split rh (pv 0) (a_ n_ d_))) (b_ (C_ (r_ rZ (eV T.len (by rfl) (pv 1)) h_ (bx _)) (g_ (k_ iu)) q_) (b_ (j_ 2 (dh PySem.F.plainAttrs_str PySem.F.slot_str_split PySem.F.type_str_split rh (bH (pv 1) h_) (a_ n_ d_))) (b_ (j_ 3 (dh PySem.F.plainAttrs_str PySem.F.slot_str_split PySem.F.type_str_split rh (bH (pv 1) h_) (a_ n_ d_))) (b_ (C_ (N_ (L_ (m_ DW hr.mo (by rfl) (a_ (bH (pv 1) h_) (a_ (pv 2) (a_ (pv 3) d_)))))) (g_ (k_ iu)) q_) (b_ (j_ 4 (gX (a_ (G_ Y_ (by rfl) T.int boot_int (a_ (bH (pv 1) h_) d_)) (a_ (P_ (f_ sW) ["text","pieces","parts","weights","frame"] [] [] Z (B_ (pv 2)) (λcl C s H fp=>O_) (λcl C s H fp=>G_ Y_ (by rfl) T.int boot_int (a_ (pv 0) d_)) (by decide)) (a_ (P_ (f_ sW) ["text","pieces","parts","weights","frame"] [] [] Z (B_ (pv 3)) (λcl C s H fp=>O_) (λcl C s H fp=>G_ Y_ (by rfl) T.int boot_int (a_ (pv 0) d_)) (by decide)) d_))))) (g_ (k_ (vI (L_ (m_ D4 hr (by rfl) (a_ (pv 4) d_))) (pv 4) iu))))))))),⟨_,Z,_,_,_,_,Z,.str _,Dl,true,Z,aK ?_⟩⟩;show⟨_,Z,Z,_,_,Z,Z,Z,a2U hz (by decide),?_⟩;rw[Mt.colon];have mG:=λp hp=>Mt.Do (z:=z) (c:=58) (p:=p) bW hp;have nY:=Dp z 58;have L8:=Mt.Dn z 58
  have hF:∀b ps ws,dY b ps ws->z=Mt.fText b ps ws->Txt.split z (Mt.one 58)=[Mt.txt (b:Int),Mt.jx ps,Mt.jy ws]:=λb ps ws ok e=>by
   rw[e];show Mt.yS ok.cz (λp hp=>by have:=ok.pr p hp;lia) ok.wr
  generalize Txt.split z (Mt.one 58)=jz at mG nY L8 hF⊢;show⟨a2U (show jz.length<=1000 by lia) (by decide),λl0 h0=>?_⟩;have S0:=e_ (o:=.lst (jz.map V.str)) h0;have u0:ad H l0 (.lst (jz.map V.str)) l0=some (.lst (jz.map V.str)):=c_;change(kG _ _) _ _ (ad H l0 (.lst (jz.map V.str)));generalize ad H l0 (.lst (jz.map V.str))=H0 at S0 u0⊢;show⟨_,Z,l0,_,Z,.inl (ag.of u0),Z,_,Z,?_⟩;by_cases h3:¬ jz.length=3
  .rw[show(!decide (V.int (((jz.map V.str).length:Nat):Int)=V.int 3))=true by
    rw[a2x];simp only[a3V,decide_eq_false_iff_not];intro e;injection e with e;lia];show bj (k2 (λ⟨b,ps,ws,ok,e⟩=>h3 (by rw[hF b ps ws ok e];rfl)) H0 S0)
  have h3:jz.length=3:=Decidable.of_not_not h3
  obtain⟨p0,p1,p2,rfl⟩:∃p0 p1 p2,jz=[p0,p1,p2]:=by
   match jz,h3 with
   | [a,b,c],_=>show⟨a,b,c,Z⟩
  show aK ?_;have a0:=mG p0 (by simp);have a1:=mG p1 (by simp);have a2:=mG p2 (by simp);show⟨_,Z,_,_,_,_,Z,Z,ag.of u0,Z,⟨Z,_,_,Z,Z,Z,a2U (show p1.length<=1000 by lia) (by decide),?_⟩⟩;rw[Mt.plus];have Dq:=λp hp=>Mt.Do (z:=p1) (c:=43) (p:=p) a1.1 hp;have bY:=Dp p1 43;have L9:=Mt.Dn p1 43;have iM:=Mt.LQ p1 (Mt.one 43)
  have Dr:∀ps:List Nat,(ps.map λ(p:Nat)=>Mt.txt (p:Int))≠[]->(∀p∈ps,p<=16)->p1=Mt.jx ps->Txt.split p1 (Mt.one 43)=ps.map λ(p:Nat)=>Mt.txt (p:Int):=λps n h e=>by
   rw[e];show Mt.yQ (λz=>n (by rw[z];rfl)) h
  generalize Txt.split p1 (Mt.one 43)=s1 at Dq bY L9 iM Dr⊢;show⟨a2U (show s1.length<=1000 by lia) (by decide),λl1 h1=>?_⟩;have S1:=e_ (o:=.lst (s1.map V.str)) h1;have u1:ad H0 l1 (.lst (s1.map V.str)) l1=some (.lst (s1.map V.str)):=c_;generalize ad H0 l1 (.lst (s1.map V.str))=H1 at S1 u1⊢;show⟨_,Z,_,_,_,_,Z,Z,ag.of (S1 _ _ u0),Z,⟨Z,_,_,Z,Z,Z,a2U (show p2.length<=1000 by lia) (by decide),?_⟩⟩;rw[Mt.space];have Ds:=λp hp=>Mt.Do (z:=p2) (c:=32) (p:=p) a2.1 hp;have aS:=Dp p2 32;have mC:=Mt.Dn p2 32
  have Dt:∀ws:List Int,ws≠[]->(∀x∈ws,-9<=x/\x<=9)->p2=Mt.jy ws->Txt.split p2 (Mt.one 32)=ws.map Mt.txt:=λws n h e=>by
   rw[e];show Mt.yR n h
  generalize Txt.split p2 (Mt.one 32)=s2 at Ds aS mC Dt⊢;show⟨a2U (show s2.length<=1000 by lia) (by decide),λl2 h2=>?_⟩;have S2:=e_ (o:=.lst (s2.map V.str)) h2;have u2:ad H1 l2 (.lst (s2.map V.str)) l2=some (.lst (s2.map V.str)):=c_;generalize ad H1 l2 (.lst (s2.map V.str))=H2 at S2 u2⊢;have Zm:=S0.trans (S1.trans S2);show⟨_,Z,_,_,_,_,Z,Z,ag.of (S2 _ _ (S1 _ _ u0)),Z,⟨_,Z,_,Z,p0,l1,l2,s1,s2,Z,a0.1,by lia,S2 _ _ u1,u2,by lia,by lia,λp hp=>⟨(Dq p hp).1,by have:=(Dq p hp).2;lia⟩,λp hp=>⟨(Ds p hp).1,by have:=(Ds p hp).2;lia⟩,λH3 s3=>⟨_,Z,?_⟩⟩⟩;have uS:=Zm.trans s3
  cases eW:(Mt.bG p0 2&&s1.all (λp=>Mt.bG p 1)&&s2.all λp=>Mt.dC p 1) with
  | false =>
   show bj (k2 (λ⟨b,ps,ws,ok,e⟩=>?_) H3 uS);have e3:=hF b ps ws ok e;injection e3 with Du e3;injection e3 with Dv e3;injection e3 with Dw e3;have l2:=ok.l2;have hs:=ok.sum;have hw:=ok.wl;have Dx:=Dr ps (λz=>by have:=congrArg List.length z;simp at this;rw[this] at l2;simp at l2) (λp hp=>by have:=ok.pr p hp;lia) Dv;have Dy:=Dt ws (λz=>by rw[z] at hw;simp at hw;lia) ok.wr Dw;rw[Du,Dx,Dy,Zi ok] at eW;cases eW
  | true =>
  simp only[a2H] at eW;obtain⟨n0,wv,rfl⟩:=Mt.Y2 eW.1.1;obtain⟨ps,rfl,Dz⟩:=L5 eW.1.2;obtain⟨ws,rfl,DD⟩:=L6 eW.2;show aK ?_;have v0:=s3 _ _ (S2 _ _ (S1 _ _ u0));have v1:=s3 _ _ (S2 _ _ u1);have v2:=s3 _ _ u2
  have ez:z=Mt.fText n0 ps ws:=by
   rw[<-L8,<-L9,<-mC];rfl
  rw[a2x] at bY aS;have q1:=y6 wv;show⟨_,Z,_,_,_,_,Z,Z,ag.of v0,Z,⟨_,_,Z,q1.1,by lia,(⟨_,Z,l1,Z,⟨_,ag.of v1⟩,z_ (K:=K) (a:=l1) (xs:=(ps.map λ(p:Nat)=>Mt.txt (p:Int)).map V.str) (λi ys H4=>ys=aA (ps.take i)/\H3=H4) ⟨by simp[aA],Z⟩ (λi ys H4 _ q=>by rw[<-q.2];show ag.of v1) ?_ ?_⟩)⟩⟩
  .rintro i x ys H4 hx ⟨rfl,rfl⟩;obtain⟨y,hy,rfl⟩:=iS hx;obtain⟨p,hp,rfl⟩:=Dm hy;have qO:=y6 (n:=p) (by have:=Dz p (a2A hp);lia);show⟨bT (by simp[aA];lia),_,Z,_,_,Z,qO.1,by lia,?_,Z⟩;rw[a2I,hp];simp[aA]
  rintro ys H4 ⟨rfl,rfl⟩ a ha;rw[a2x,a2x,a2M];have S4:=e_ (o:=.lst (aA ps)) ha;have ua:ad H3 a (.lst (aA ps)) a=some (.lst (aA ps)):=c_;generalize ad H3 a (.lst (aA ps))=H4 at S4 ua⊢;show⟨_,Z,l2,Z,⟨_,ag.of (S4 _ _ v2)⟩,z_ (K:=K) (a:=l2) (xs:=(ws.map Mt.txt).map V.str) (λi ys H5=>ys=(ws.take i).map V.int/\H4=H5) ⟨by simp,Z⟩ (λi ys H5 _ q=>by rw[<-q.2];show ag.of (S4 _ _ v2)) ?_ ?_⟩
  .rintro i x ys H5 hx ⟨rfl,rfl⟩;obtain⟨y,hy,rfl⟩:=iS hx;obtain⟨n,hn,rfl⟩:=Dm hy;have Lf:=DD n (a2A hn);show⟨bT (by simp;lia),_,Z,_,_,Z,Mt.lF (by lia),a2U (Mt.Dj (i:=n) (by lia)).2 (by decide),?_,Z⟩;rw[a2I,hn];simp
  rintro ys H5 ⟨rfl,rfl⟩ c hc;rw[a2x,a2x,a2M];show⟨sz (by simp),λg hg=>?_⟩;have S5:=e_ (o:=.lst (ws.map V.int)) hc;have S6:=e_ (o:=.tup [.int n0,.ref a,.ref c]) hg;have t1:(ad (ad H4 c (.lst (ws.map V.int))) g (.tup [.int n0,.ref a,.ref c])) g=some (.tup [.int n0,.ref a,.ref c]):=c_;have t2:=S6 _ _ (S5 _ _ ua);have t3:=S6 _ _ (c_ (H:=H4) (a:=c) (o:=.lst (ws.map V.int)));have fg:H g=none:=uS.free (S4.free (S5.free hg));have fa:H a=none:=uS.free ha;have fc:H c=none:=uS.free (S4.free hc);have ac:a≠c:=l_ ua hc;have SG:=uS.trans (S4.trans (S5.trans S6));have tr:L2.Tree (ad (ad H4 c (.lst (ws.map V.int))) g (.tup [.int n0,.ref a,.ref c])) (.ref g) (iJ n0 ps ws) := .tup t1 (.cons (.int _) (.cons (.lst t2 (by rw[Bb];show tJ _)) (.cons (.lst t3 (tJ _)) .nil)));show⟨_,Z,_,iJ n0 ps ws,Z,tr,Zk wv Dz DD (by lia) (by lia),λH7 s7=>⟨_,Z,?_⟩⟩
  cases eF:M_ (iJ n0 ps ws) with
  | true =>
   have ok:=Zj eF;have G:aV (ad (ad H4 c (.lst (ws.map V.int))) g (.tup [.int n0,.ref a,.ref c])) g a c n0 ps ws:=⟨t1,t2,t3,ok⟩;show bj ⟨_,Z,k1 n0 ps ws g a c H7 ez (SG.trans s7) (G.keep s7) fg fa fc ac⟩
  | false =>
   show aK (k2 (λ⟨b,qs,vs,ok,e⟩=>?_) H7 (SG.trans s7));have e3:=hF b qs vs ok e;injection e3 with Du e3;injection e3 with Dv e3;injection e3 with Dw e3;have l2:=ok.l2;have hs:=ok.sum;have hw:=ok.wl;have Dx:=Dr qs (λz=>by have:=congrArg List.length z;simp at this;rw[this] at l2;simp at l2) (λp hp=>by have:=ok.pr p hp;lia) Dv;have Dy:=Dt vs (λz=>by rw[z] at hw;simp at hw;lia) ok.wr Dw;have x0:n0=b:=L7 wv (by have:=ok.cz;lia) Du;have x1:ps=qs:=Mt.map_inj (λx hx y hy h=>L7 (by have:=Dz x hx;lia) (by have:=ok.pr y hy;lia) h) Dx;have x2:ws=vs:=Mt.map_inj (λx hx y hy h=>Mt.yT (by have:=DD x hx;lia) (by have:=ok.wr y hy;lia) h) Dy;rw[x0,x1,x2,IN ok] at eF;cases eF
end Hv
namespace L2
open PySem PySem.Spec PyProof.Rows
def zb(h0:Heap)(H:Hp)(h:Heap)(x:Addr)(C a0 fl:Value):Prop:=h0.get? x=none/\H x=none/\ ∃oe vs T oT ts,h.get? x=some oe/\(oe.cls=C/\vs[0]?=some a0/\oe.dict=none)/\oe.data=.fields vs/\vs[1]?=some (.ref T)/\h0.get? T=none/\H T=none/\T≠x/\h.get? T=some oT/\oT.data=.fields ts/\ts[3]?=some fl
abbrev mQ(h0:Heap)(H:Hp)(h:Heap)(x:Addr)(C a0:Value):Prop:=zb h0 H h x C a0 .none
structure jA(h0:Heap)(H:Hp)(fs:List Addr)(h h':Heap):Prop where
 keep:∀b o,h.get? b=some o->b∉fs->h0.get? b≠none\/H b≠none->h'.get? b=some o
 slot:∀b o,h.get? b=some o->b∈fs->∃sl,h'.get? b=some {o with slots:=sl}
 there:∀b o,h0.get? b≠none->h.get? b=some o->∃o',h'.get? b=some o'
def jA.trans(a:jA h0 H fs h h1)(b:jA h0 H fs h1 h2):jA h0 H fs h h2 :=
 ⟨λc o e n z=>b.keep c o (a.keep c o e n z) n z,λc o e hc=>by
  obtain⟨sl,e1⟩:=a.slot c o e hc;obtain⟨pw,e2⟩:=b.slot c _ e1 hc;show⟨pw,e2⟩,λc o n e=>by
  obtain⟨o1,e1⟩:=a.there c o n e;show b.there c o1 n e1⟩
section
variable{s:Shared}
def L'(jB:A.frames=some (env::outer))(hl:s.heap.FunFrames b0 (env::outer))(hf:env.frame=some L)
  (he:s.heap.get? x=some oe) (hd:oe.data=.fields vs) (hsz:1<vs.size)
  (h:∀ h'  (T:Addr)  oT   ts ,s.heap.objs.size<=T->(∀b o,s.heap.get? b=some o->b∉bv (env::outer)->b≠x->h'.get? b=some o)->(∀b o,s.heap.get? b=some o->b∈bv (env::outer)->∃sl,h'.get? b=some {o with slots:=sl})->
   h'.get? x=some (Obj.mapFields (·.setIfInBounds 1 (.ref T)) oe)->h'.get? T=some oT->oT.data=.fields ts->ts[3]?=some (rawInt L)->Q () {s with heap:=h'}) :
  wpAny M A (do let a <-frameOf env;let pl <-entryPlaceOf L Zn;let b <-EntryCells.newEntry DG a .none (rawInt L) .none pl;setField (.ref x) 1 b) Q E s:=by
 have xf:x∉bv (env::outer):=λhm=>by
  obtain⟨_,o,ho,Zo⟩:=hl.mem hm;rw[he] at ho;cases ho;show Zo vs hd
 show wpAny_bind (wpAny_frameOf_fun jB hl hf λg ⟨gs,g1,g2⟩=>wpAny_bind (wpAny_entryPlaceOf λpl cy=>?_));show wpAny_bind (wpAny_newObj_type ?_ (cy.sizeOk5 _ _ _ _ _));have x1:=(g1 x xf).trans he;have nT:=a3u (a2C x1);generalize xG:({cls:=.type "traceback",data:=.fields ([DG,.ref L,.none,rawInt L,.none]++(if pl.isEmpty then List.replicate 6 Value.none else pl)).toArray}:Obj)=ob;have nf:ob.isFreed=false:=by rw[<-xG];rfl
 have x2:=a2y ob x1;show wpAny_setField x2 hd hsz ?_;have dd:=Obj.data_mapFields hd (·.setIfInBounds 1 (Value.ref g.objs.size));have tt:((g.push ob).update x (Obj.mapFields (·.setIfInBounds 1 (Value.ref g.objs.size)))).get? g.objs.size=some ob:=(a3r _ _ (Ne.symm nT)).trans (a2F g nf);show h _ g.objs.size ob ([DG,.ref L,.none,rawInt L,.none]++(if pl.isEmpty then List.replicate 6 Value.none else pl)).toArray (by rw[gs];show a2D _) (λb o e n nx=>?_) (λb o e hb=>?_) (a3Y _ x2 (Obj.isFreed_of_fields dd)) tt (by rw[<-xG]) ?_;.show(a3r _ _ (Ne.symm nx)).trans (a2y ob ((g1 b n).trans e))
 .obtain⟨sl,e1⟩:=g2 b o e;show⟨sl,(a3r _ _ (λz:x=b=>xf (by rw[z];show hb))).trans (a2y ob e1)⟩
 .simp_all
def Mb{h:Heap}{T:Addr}(hT:h.objs.size<=T){h0:Heap}(iT:∀b o,h0.get? b=some o->∃o',h.get? b=some o'):h0.get? T=none:=by
 cases q:h0.get? T with
 | none=>rfl
 | some o =>
  obtain⟨o',e⟩:=iT T o q;show absurd (a2C e)<|Nat.not_lt.mpr hT
def Mc{h:Heap}{T:Addr}(hT:h.objs.size<=T){H:Hp}(iU:∀b o,H b=some o->∃o',h.get? b=some o'):H T=none:=by
 cases q:H T with
 | none=>rfl
 | some o =>
  obtain⟨o',e⟩:=iU T o q;show absurd (a2C e)<|Nat.not_lt.mpr hT
def Md(jB:A.frames=some (env::outer))(hl:s.heap.FunFrames b0 (env::outer))(hf:env.frame=some L) (fl:mQ h0 H s.heap x C a0) (iT:∀b o,h0.get? b=some o->∃o',s.heap.get? b=some o') (iU:∀b o,H b=some o->∃o',s.heap.get? b=some o') (h:∀h',jA h0 H (bv (env::outer)) s.heap h'->zb h0 H h' x C a0 (rawInt L)->Q () {s with heap:=h'}):wpAny M A (noteFrame (.ref x) env) Q E s:=by
 obtain⟨x0,xH,oe,vs,T,oT,ts,he,⟨c1,c2,c3⟩,hd,h1,T0,TH,Tx,hT,lG,h3⟩:=fl;unfold noteFrame;simp only[hf];show wpAny_bind (wpAny_field he hd h1 ?_);rw[if_pos (by simp)];show wpAny_bind (wpAny_field hT lG h3 ?_);rw[if_neg (by simp[rawInt])];show wpAny_bind (wpAny_setField hT lG (a3s.mp h3).1 ?_);have ge:∀b,b≠T->(s.heap.update T (Obj.mapFields (·.setIfInBounds 3 Value.none))).get? b=s.heap.get? b:=λb hb=>a3r _ _ (Ne.symm hb)
 have Tf:T∉bv (env::outer):=λhm=>by
  obtain⟨_,o,ho,nf⟩:=hl.mem hm;rw[hT] at ho;cases ho;show nf ts lG
 have aS:=hl.of_keeps λb o e nf=>⟨o,(ge b (λz=>by simp_all)).trans e,Z⟩;show L' jB aS hf ((ge x (Ne.symm Tx)).trans he) hd (a3s.mp h1).1 λh' T' DH DQ z0 z1 z2 z3 z4 z5 z6=>?_;have sT:s.heap.objs.size<=T':=by simp_all
 have DU:=a3u (a2L (a2C he) sT);show h h' ⟨λb o e n z=>z1 b o ((ge b (λq=>?_)).trans e) n (λq=>?_),λb o e hb=>z2 b o ((ge b (λq=>Tf (q▸hb))).trans e) hb,λb o n e=>?_⟩ ⟨x0,xH,_,_,T',DH,DQ,z3,⟨(Obj.cls_mapFields _ _).trans c1,?_,?_⟩,Obj.data_mapFields hd _,?_,Mb sT iT,Mc sT iU,DU,z4,z5,z6⟩;.grind
 .grind
 .by_cases hb:b∈bv (env::outer)
  .obtain⟨sl,e1⟩:=z2 b o ((ge b (λq=>Tf (q▸hb))).trans e) hb;show⟨_,e1⟩
  .show⟨o,z1 b o ((ge b (λq=>n (by rw[q];show T0))).trans e) hb (λq=>n (by rw[q];show x0))⟩
 .rw[a5n (by decide)];show c2
 .obtain⟨a,b,c,d⟩:=oe;cases c <;> first | show c3 | cases hd
 .rw[a4b (a3s.mp h1).1]
def Zp(jB:A.frames=some (env::outer))(hl:s.heap.FunFrames b0 (env::outer))(hf:env.frame=some L) (he:s.heap.get? x=some oe) (hd:oe.data=.fields vs) (DY:oe.dict=none) (h1:vs[1]?=some .none) (lB:vs[0]?=some a0) (x0:h0.get? x=none) (xH:H x=none) (iT:∀b o,h0.get? b=some o->∃o',s.heap.get? b=some o') (iU:∀b o,H b=some o->∃o',s.heap.get? b=some o') (h:∀h',jA h0 H (bv (env::outer)) s.heap h'->zb h0 H h' x oe.cls a0 (rawInt L)->Q () {s with heap:=h'}):wpAny M A (noteFrame (.ref x) env) Q E s:=by
 unfold noteFrame;simp only[hf];show wpAny_bind<|wpAny_field he hd h1 ?_;show L' jB hl hf he hd (a3s.mp h1).1 λh' T' DH DQ sT z1 z2 z3 z4 z5 z6=>?_;have DU:=a3u (a2L (a2C he) sT);show h h' ⟨λb o e n z=>z1 b o e n<|λq=>?_,z2,λb o n e=>?_⟩ ⟨x0,xH,_,_,T',DH,DQ,z3,⟨Obj.cls_mapFields _ _,?_,?_⟩,Obj.data_mapFields hd _,?_,Mb sT iT,Mc sT iU,DU,z4,z5,z6⟩;.simp_all
 .by_cases hb:b∈bv (env::outer)
  .obtain⟨sl,e1⟩:=z2 b o e hb;show⟨_,e1⟩
  .show⟨o,z1 b o e hb<|λq=>n<|by rw[q];show x0⟩
 .rw[a5n (by decide)];show lB
 .obtain⟨a,b,c,d⟩:=oe;cases c <;> first | show DY | cases hd
 .rw[a4b (a3s.mp h1).1]
def zc(hl:s.heap.FunFrames b0 l)(f:zb h0 H s.heap x C a0 fl) (iT:∀b o,h0.get? b=some o->∃o',s.heap.get? b=some o') (iU:∀b o,H b=some o->∃o',s.heap.get? b=some o') (h:∀h',jA h0 H (bv l) s.heap h'->mQ h0 H h' x C a0->Q () {s with heap:=h'}):wpAny M A (setFlight (.ref x) none) Q E s:=by
 obtain⟨x0,xH,oe,vs,T,oT,ts,he,hc,hd,h1,T0,TH,Tx,hT,lG,h3⟩:=f;have Mh:=(a3s.mp h3).1;show wpAny_bind (wpAny_field he hd h1 ?_);show wpAny_setField hT lG Mh ?_;have ge:∀b,b≠T->(s.heap.update T (Obj.mapFields (·.setIfInBounds 3 ((none:Option Addr).elim Value.none λf=>rawInt f)))).get? b=s.heap.get? b:=λb hb=>a3r _ _ (Ne.symm hb)
 have Tf:T∉bv l:=λhm=>by
  obtain⟨_,o,ho,nf⟩:=hl.mem hm;rw[hT] at ho;cases ho;show nf ts lG
 have tt:=a3Y (Obj.mapFields (·.setIfInBounds 3 ((none:Option Addr).elim Value.none λf=>rawInt f))) hT (Obj.isFreed_of_fields (Obj.data_mapFields lG _));show h _ ⟨λb o e n z=>(ge b (λq=>?_)).trans e,λb o e hb=>⟨o.slots,(ge b (λq=>Tf (q▸hb))).trans e⟩,λb o n e=>⟨o,(ge b (λq=>n (by rw[q];show T0))).trans e⟩⟩ ⟨x0,xH,oe,vs,T,_,_,(ge x (Ne.symm Tx)).trans he,hc,hd,h1,T0,TH,Tx,tt,Obj.data_mapFields lG _,?_⟩;.simp_all
 .rw[a4b Mh];rfl
theorem DZ{h h' b0:Heap}:∀ {l:List Env},h.FunFrames b0 l->(∀b o,h.get? b=some o->b∈bv l->∃sl,h'.get? b=some {o with slots:=sl})->h'.FunFrames b0 l
 | [],_,_=>trivial
 | env::l,⟨kk,⟨L,o,hf,hn,ho,hd⟩,r⟩,hs=>by
  have e:bv (env::l)=L::bv l:=by rw[bv,a4S,hf];rfl
  rw[e] at hs;obtain⟨sl,e1⟩:=hs L o ho (by simp);show⟨kk,⟨L,_,hf,hn,e1,hd⟩,DZ r λb o' eb hb=>hs b o' eb<|by simp[hb]⟩
def Zq(jB:A.frames=some (env::outer))(hl:s.heap.FunFrames b0 (env::outer))(hf:env.frame=some L) (fl:mQ h0 H s.heap x C a0) (iT:∀b o,h0.get? b=some o->∃o',s.heap.get? b=some o') (am:bC P w H s.heap) (nA:∀b∈bv (env::outer),H b=none) (iU:∀b o,H b=some o->∃o',s.heap.get? b=some o') (h:∀h',jA h0 H (bv (env::outer)) s.heap h'->mQ h0 H h' x C a0->Q () {s with heap:=h'}):wpAny M A (leaving env (.ref x)) Q E s:=by
 show wpAny_bind<|Md jB hl hf fl iT iU λh2 nr fa=>(zc (l:=env::outer) (DZ hl nr.slot) fa (λb o e=>?_) (λb o e=>?_) λh3 rp Ea=>h h3 (nr.trans rp) Ea)
 .obtain⟨o1,e1⟩:=iT b o e;show nr.there b o1 (by rw[e];show λz=>by cases z) e1
 .obtain⟨o1,e1⟩:=iU b o e;show⟨o1,nr.keep b o1 e1 (λz=>by rw[nA b z] at e;cases e)<|.inr<|by rw[e];show λz=>by cases z⟩
def Zr(jB:A.frames=some (env::outer))(hl:s.heap.FunFrames b0 (env::outer))(hf:env.frame=some L) (he:s.heap.get? x=some oe) (hd:oe.data=.fields vs) (DY:oe.dict=none) (h1:vs[1]?=some .none) (lB:vs[0]?=some a0) (x0:h0.get? x=none) (xH:H x=none) (iT:∀b o,h0.get? b=some o->∃o',s.heap.get? b=some o') (nA:∀b∈bv (env::outer),H b=none) (iU:∀b o,H b=some o->∃o',s.heap.get? b=some o') (h:∀h',jA h0 H (bv (env::outer)) s.heap h'->mQ h0 H h' x oe.cls a0->Q () {s with heap:=h'}):wpAny M A (leaving env (.ref x)) Q E s:=by
 show wpAny_bind<|Zp jB hl hf he hd DY h1 lB x0 xH iT iU λh2 nr fa=>(zc (l:=env::outer) (DZ hl nr.slot) fa (λb o e=>?_) (λb o e=>?_) λh3 rp Ea=>h h3 (nr.trans rp) Ea)
 .obtain⟨o1,e1⟩:=iT b o e;show nr.there b o1 (by rw[e];show λz=>by cases z) e1
 .obtain⟨o1,e1⟩:=iU b o e;show⟨o1,nr.keep b o1 e1 (λz=>by rw[nA b z] at e;cases e)<|.inr<|by rw[e];show λz=>by cases z⟩
end
def cr.there(x:cr P w H h a o):∃u,h.get? a=some u:=by
 cases o with
 | lst xs=>obtain⟨_,_,_,_,e⟩:=x;show⟨_,e⟩
 | tup xs=>obtain⟨_,_,_,ob,e,_⟩:=x;show⟨_,e⟩
 | dK kvs=>obtain⟨_,_,_,_,ob,_,_,e,_⟩:=x;show⟨_,e⟩
 | dT kvs=>obtain⟨_,_,_,_,ob,_,_,e,_⟩:=x;show⟨_,e⟩
 | set S n=>obtain⟨ob,_,_,_,e,_⟩:=x;show⟨_,e⟩
 | ins C dx fs=>obtain⟨_,_,_,e,_⟩:=x;show⟨_,e⟩
 | own y=>obtain⟨ob,e⟩:=x;show⟨_,e⟩
 | xd fs=>obtain⟨_,⟨od,_,_,e,_⟩,_⟩:=x;show⟨_,e⟩
 | vA lo hi=>obtain⟨_,_,_,e⟩:=x;show⟨_,e⟩
 | bV ob u=>show⟨_,x.1⟩
 | lT ps=>show⟨_,x⟩
 | met f y=>show⟨_,x⟩
 | ext φ=>obtain⟨_,⟨o,e⟩,_⟩:=x;show⟨_,e⟩
def bt(P:Program)(w:World):gC:=λouter H s E e s'=>∃(x C:Addr) (a0:Value) (H':Hp),e=.ref x/\s'.os=s.os/\AllBare s'.gens/\Un (bv outer) [] H H' s.heap s'.heap/\bC P w H' s'.heap/\mQ s.heap H' s'.heap x (.ref C) a0/\E (.ref C) none H'
section
variable{K:PySem.W.Frag}
def Zs{σ:St}(I:Inv (bR (bt P w) P w K mg base N qual scope f cd A outer s H E) aa σ H' s')(pz:mQ s.heap H' s'.heap x (.ref C) a0)(hE:E (.ref C) none H') : (bR (bt P w) P w K mg base N qual scope f cd A outer s H E).xe (.ref x) s':=by
 have gN:∀b:Addr,b∉(bR (bt P w) P w K mg base N qual scope f cd A outer s H E).ex:=λb z=>absurd (show b∈ []  from z) (by simp);have uT:bv (bR (bt P w) P w K mg base N qual scope f cd A outer s H E).stack=s.heap.objs.size::bv outer:=rfl;show Zq I.ok.frames I.stack Z pz (λb o e=>I.base.there b o e (gN b)) I.am I.kF (λb o e=>(I.am b o e).there) λZt ⟨k1,k2,k3⟩ Eb=>?_;have fQ:∀b o,s.heap.get? b=some o->b≠s.heap.objs.size:=λb o e=>a2V (a2C e);have Ec:∀b o,s.heap.get? b=some o->b∉bv outer->b∉bv (bR (bt P w) P w K mg base N qual scope f cd A outer s H E).stack:=λb o e n z=>by simp_all
 show⟨x,C,a0,H',Z,I.os,I.bare,⟨λb o e n nb _=>?_,λb o e n hb _=>?_,λb o e n _=>I.base.free b o e n (gN b),λb o e _=>?_,I.base.fM,I.base.fm,I.base.f6⟩,λb o e=>?_,Eb,hE⟩;.show k1 b o (I.base.keep b o e n nb (gN b)) (Ec b o e nb) (.inl (by rw[e];show λz=>by cases z))
 .obtain⟨sl,e1⟩:=I.base.slot b o e n hb (gN b);obtain⟨pw,e2⟩:=k2 b _ e1 (show b∈s.heap.objs.size::bv outer from a2G _ hb);show⟨pw,e2⟩
 .obtain⟨o',e1⟩:=I.base.there b o e (gN b);show k3 b o' (by rw[e];show λz=>by cases z) e1
 .show(I.am b o e).gt (λc u hc q=>?_) (λ_ q=>q) λ_ _ q=>q;have mR:H' c≠none:=by grind
  show k1 c u q (λz=>mR (I.kF c z)) (.inr mR)
def Zu:jV (bt P w) (bR (bt P w) P w K mg base N qual scope f cd A outer s H E) E:=λaa σ H1 s1 e s' I ⟨x,C,a0,H',he,os,bare,un,am,pz,hE⟩=>by
 subst he;have I':=I.rV os un am bare (λb z=>absurd z<|by simp);have gN:∀b:Addr,b∉(bR (bt P w) P w K mg base N qual scope f cd A outer s H E).ex:=λb z=>absurd (show b∈ []  from z)<|by simp
 have Mi:∀b,s1.heap.get? b=none->s.heap.get? b=none:=λb z=>by
  cases q:s.heap.get? b with
  | none=>rfl
  | some o =>
   obtain⟨o',e1⟩:=I.base.there b o q (gN b);rw[z] at e1;cases e1
 obtain⟨x0,xH,oe,vs,T,oT,ts,he,hc,hd,h1,T0,TH,r⟩:=pz;show Zs I' ⟨Mi _ x0,xH,oe,vs,T,oT,ts,he,hc,hd,h1,Mi _ T0,TH,r⟩ hE
def Zv{σ:St}(I0:Inv (bR (bt P w) P w K mg base N qual scope f cd A outer s H E) aa σ H1 s1)(hx:Heap.MadeExcOf s1.heap h' x (.ref C) vs)(hE:E (.ref C) none H1) : (bR (bt P w) P w K mg base N qual scope f cd A outer s H E).xe (.ref x) {s1 with heap:=h'}:=by
 have gN:∀b:Addr,b∉(bR (bt P w) P w K mg base N qual scope f cd A outer s H E).ex:=λb z=>absurd (show b∈ []  from z) (by simp);have uT:bv (bR (bt P w) P w K mg base N qual scope f cd A outer s H E).stack=s.heap.objs.size::bv outer:=rfl;have I:Inv (bR (bt P w) P w K mg base N qual scope f cd A outer s H E) aa σ H1 {s1 with heap:=h'}:=I0.kept hx.keeps;obtain⟨t,he,_,_⟩:=hx.there
 have x0:s.heap.get? x=none:=by
  cases q:s.heap.get? x with
  | none=>rfl
  | some o =>
   obtain⟨o',e1⟩:=I0.base.there x o q (gN x);rw[hx.new] at e1;cases e1
 have xH:H1 x=none:=by
  cases q:H1 x with
  | none=>rfl
  | some o =>
   obtain⟨o',e1⟩:=(I0.am x o q).there;rw[hx.new] at e1;cases e1
 show Zr I.ok.frames I.stack Z he Z Z Z Z x0 xH (λb o e=>I.base.there b o e (gN b)) I.kF (λb o e=>(I.am b o e).there) λZt ⟨k1,k2,k3⟩ Eb=>?_;have fQ:∀b o,s.heap.get? b=some o->b≠s.heap.objs.size:=λb o e=>a2V (a2C e);have Ec:∀b o,s.heap.get? b=some o->b∉bv outer->b∉bv (bR (bt P w) P w K mg base N qual scope f cd A outer s H E).stack:=λb o e n z=>by simp_all
 show⟨x,C,_,H1,Z,I.os,I.bare,⟨λb o e n nb _=>?_,λb o e n hb _=>?_,λb o e n _=>I.base.free b o e n (gN b),λb o e _=>?_,I.base.fM,I.base.fm,I.base.f6⟩,λb o e=>?_,Eb,hE⟩;.show k1 b o (I.base.keep b o e n nb (gN b)) (Ec b o e nb) (.inl (by rw[e];show λz=>by cases z))
 .obtain⟨sl,e1⟩:=I.base.slot b o e n hb (gN b);obtain⟨pw,e2⟩:=k2 b _ e1 (show b∈s.heap.objs.size::bv outer from a2G _ hb);show⟨pw,e2⟩
 .obtain⟨o',e1⟩:=I.base.there b o e (gN b);show k3 b o' (by rw[e];show λz=>by cases z) e1
 .show(I.am b o e).gt (λc u hc q=>?_) (λ_ q=>q) λ_ _ q=>q
  have mR:H1 c≠none:=by
   rcases hc with hc | hc;.rw[hc,e];show λz=>by cases z
   .rw[hc];show λz=>by cases z
  show k1 c u q (λz=>mR (I.kF c z)) (.inr mR)
structure lJ(base:Heap)(C:Addr)(dM fj B:String)(dN:List Value):Prop where
 fb:ExcBaseFacts B dM fj dN
 ob:∃bm N nm q bs hdct sn sub ab col dd k0 k1 k2 k3 k5 mN,base.get? C=some (excClassObj nm q C N bs bm hdct sn sub ab col dd k0 k1 k2 k3 k5 dM)/\base.Ns N mN/\mN "__init__"=none/\OwnTail base dN bm
def Zw(E:XK)(C:Addr)(te:TE):TS:=λ_ σ H=>te σ H λ_ H1=>E (.ref C) none H1
def pA{np cK pos:Pos}(O:lJ base C dM fj B dN)(hg:Gl (bR (bt P w) P w K mg base N qual scope f cd A outer s H E) x)(hm:mg x=some (.ref C)) (he:PE (bR (bt P w) P w K mg base N qual scope f cd A outer s H E) e te) (hd:(x==("__debug__":Str))=false:=by decide) (hs:starEach [e] (bR (bt P w) P w K mg base N qual scope f cd A outer s H E).env=[(false,eval e (bR (bt P w) P w K mg base N qual scope f cd A outer s H E).env)]:=by rfl) : PS (bR (bt P w) P w K mg base N qual scope f cd A outer s H E) (.Raise (some (.Call (.Name x np) [e] [] cK)) none pos) (Zw E C te):=by
 intro aa s1 σ H1 D I h;obtain⟨bm,Nc,nm,q,bs,hdct,sn,sub,ab,col,dd,k0,k1,k2,k3,k5,mN,hC,hN,uU,T⟩:=O.ob;show wpAny_Raise_call_subT (nm:=nm) (q:=q) (N:=Nc) (bs:=bs) (hdct:=hdct) (sn:=sn) (sub:=sub) (ab:=ab) (col:=col) (dd:=dd) (k0:=k0) (k1:=k1) (k2:=k2) (k3:=k3) (k5:=k5) O.fb (T.hasType O.fb.hasBase) (I.ok.hd Z) (by show hs▸?_;rfl) uU (pW I hg hm ⟨Z,?_⟩ hd);show hs▸?_;show Calls.evalArgs_plain (Calls.spliced_cons (ar (he aa s1 σ H1 _ I h) λv s2 ⟨y,H2,I2,ry,q2⟩=>Calls.spliced_nil ⟨Z,a2U (show 1<=1000 by decide) (by decide),I2.bk _ _ hC,hN.keeps I2.bk,T.keeps I2.bk,λh' e hx=>Zv I2 hx q2⟩))
end
section
variable{K:PySem.W.Frag}
def ay.dQ{st:Stmt}(F:ay K x qual st f fd)(S:aI N ps (f_ st)) (sj:∀ ak   A   outer   s   H   vs   Q   E ,bD k (A.deeper (envOfC qual (f_ st) s.heap.objs.size f ak))->sp vs H Q E-> ∃t,bQ (bR (bt P w) P w K mg base N qual (f_ st) f ak A outer s H E) (I_ st) t/\t {nx:=λ_ H'=>Q .au H',rt:=Q} (start N vs) H)(len:∀vs H Q E,sp vs H Q E->vs.length=ps.length:=by intro _ _ _ _ h;first|(cases h;subst_vars;rfl)|((repeat obtain⟨_,h⟩:=h);subst_vars;rfl)):av P w K mg base (bt P w) (k+1) f fd ps sp:=by
 obtain⟨oc,od,kV,bz,pm,an,ak,ct,df,rfl,lk,gU⟩:=F.ex;show He lk gU S len λA outer s H vs Q E hr jW=>sj ak A _ s H vs Q E hr jW
def av.up(F:av P w K mg base aE k f fd ps sp):av P w K mg base (bt P w) k f fd ps sp :=
 ⟨F.len,λA outer s H args us vs Q E hr he hb hv hs=>codeAny_mono (F.run A _ s H _ us vs Q E hr he hb hv hs) λr s' hq=>by
  cases r with
  | error e=>show False.elim hq
  | ok fl=>cases fl <;> show hq⟩
def Zx(X:K.In base)(q:PySem.W.excIn K C dN dM=true):∃nm qn N bs bm hdct sn sub ab col dd k0 k1 k2 k3 k5 cd, base.get? C=some (excClassObj nm qn C N bs bm hdct sn sub ab col dd k0 k1 k2 k3 k5 dM)/\PySem.W.clsIn K C=some cd/\cd.mro=.ref C::bm/\PySem.W.nsOkIn K N=true/\PySem.W.nsIn K N "__init__"=some none/\PySem.W.tailIn K dN bm=true:=by
 unfold PySem.W.excIn at q;split at q
 .rename_i Ed cl sl look;split at q
  .rename_i C' bm k0 k1 k2 k3 n k5 hm hs;simp only[beq_iff_eq,a2H,a3V] at q;have ⟨⟨⟨⟨⟨eC,eN⟩,noDel⟩,ht⟩,am⟩,uU⟩:=q;subst eC eN
   cases cl with
   | mk nm bs mro ns qn hd sn sub ab col Zy =>
   have em:=hm;have ed:Zy=false:=noDel;subst em ed
   have km:sl=#[k0,k1,k2,k3,some (.builtin n),k5]:=by
    cases sl with
    | mk l=>show congrArg _ hs
   subst km
   have ec:PySem.W.clsIn K C'=some ⟨nm,bs,.ref C'::bm,ns,qn,hd,sn,sub,ab,col,false⟩:=by
    unfold PySem.W.clsIn;rw[look]
   show⟨nm,qn,ns,bs,bm,hd,sn,sub,ab,col,Ed,k0,k1,k2,k3,k5,⟨nm,bs,.ref C'::bm,ns,qn,hd,sn,sub,ab,col,false⟩,X _ _ look,ec,Z,am,uU,ht⟩
  .cases q
 .cases q
def uV(fb:ExcBaseFacts B dM fj dN)(X:K.In base)(q:PySem.W.excIn K C dN dM=true):lJ base C dM fj B dN:=by
 obtain⟨nm,qn,ns,bs,bm,hd,sn,sub,ab,col,Ed,k0,k1,k2,k3,k5,cd,a1,_,_,am,uU,ht⟩:=Zx X q;show⟨fb,bm,ns,nm,qn,bs,hd,sn,sub,ab,col,Ed,k0,k1,k2,k3,k5,base.nsMap ns,a1,.of_isNs<|PySem.W.isNs_of_in X am,PySem.W.nsMap_none_of_in X am uU,PySem.W.tail_of_in X ht⟩
end
def XP(X:Cx)(aa:List (Addr×Obj))(R:St->Addr->Hp->Prop)(e:Value)(s':Shared):Prop := ∃(x C:Addr) (a0:Value) (σ:St) (H1 H':Hp) (s1:Shared),e=.ref x/\Inv X aa σ H1 s1/\s'.os=s1.os/\AllBare s'.gens/\Un (bv X.stack) [] H1 H' s1.heap s'.heap/\bC X.prog X.w H' s'.heap/\mQ s1.heap H' s'.heap x (.ref C) a0/\R σ C H'
abbrev TX:=Ends->(St->Addr->Hp->Prop)->St->Hp->Prop
def PX(X:Cx)(st:Stmt)(t:TX):Prop := ∀(aa:List (Addr×Obj)) (s:Shared) (σ:St) (H:Hp) (D:Ends) (R:St->Addr->Hp->Prop),Inv X aa σ H s->t D R σ H->wpAny (model X.prog X.w) X.A (exec st X.env) (SP X aa D) (XP X aa R) s
def Mj(X:Cx)(st:List Stmt)(t:TX):Prop := ∀(aa:List (Addr×Obj)) (s:Shared) (σ:St) (H:Hp) (D:Ends) (R:St->Addr->Hp->Prop),Inv X aa σ H s->t D R σ H->wpAny (model X.prog X.w) X.A (execs st X.env) (SP X aa D) (XP X aa R) s
def ZA{st:Stmt}(h:PX X st tx):Mj X [st] tx:=λaa s σ H D R I hw=>by
 show wpAny_execs_cons<|ar (h aa s σ H D R I hw) λfl s1 q=>?_
 cases fl with
 | next=>show wpAny_execs_nil q
 | brk=>show q
 | cont=>show q
 | ret u=>show q
section
variable{X:Cx}{s1:Shared}
def Ee(un:Un (bv X.stack) [] H1 H' s1.heap h)(nr:jA s1.heap H' (bv X.stack) h h2):Un (bv X.stack) [] H1 H' s1.heap h2 :=
 ⟨λb o e n nb nx=>nr.keep b o (un.keep b o e n nb nx) nb<|.inl (by rw[e];show λz=>by cases z),
  λb o e n hb nx=>by
   obtain⟨sl,e1⟩:=un.slot b o e n hb nx;obtain⟨pw,e2⟩:=nr.slot b _ e1 hb;show⟨pw,e2⟩,
  un.free,λb o e nx=>by
   obtain⟨o',e1⟩:=un.there b o e nx;show nr.there b o' (by rw[e];show λz=>by cases z) e1,un.fM,un.fm,un.f6⟩
def Ef(am:bC P w H' h)(nr:jA h0 H' fs h h2)(sD:∀b∈fs,H' b=none):bC P w H' h2:=λb o e=>by
 show(am b o e).gt (λc u hc q=>?_) (λ_ q=>q) λ_ _ q=>q;have mR:H' c≠none:=by grind
 show nr.keep c u q (λz=>mR<|sD c z)<|.inr mR
end
section
variable{σ:St}
def ZB(I:Inv X aa σ H s)(hN:X.N.Nodup)(hi:X.N[i]?=some x)(hk:X.env.scope.names.lookup x=some .local)(hv:σ[i]?=some (some v))(Eg:pU X.env.scope x) (uW:X.env.kindOf x=some .local) (h:∀s',Inv X aa (σ.set i none) H s'->Q () s'):wpAny M A (unbindName X.env x) Q E s:=by
 obtain⟨m,hn,hl⟩:=id I.loc;have rT:(X.env.scope.kind==.class || (X.env.scope.kind==.module&&X.env.locals != X.env.globals))=false:=by rw[I.ok.kind];rfl
 have vE:i<σ.length:=by rw[I.len];show(a2z.mp hi).1
 have jb:=I.jb;obtain⟨u0,r0,lk⟩:=hl i x v hi hv Eg
 have hm:m x=some u0:=by
  rcases lk with⟨_,e⟩ | ⟨k,_⟩;.show e
  .simp_all
 show wpAny_unbindName_local uW hn hm rT λh' u cC hs=>?_;obtain⟨oL,_,_,Gn,_⟩:=id hn;have ol:∀b o,X.cJ.heap.get? b=some o->b≠X.env.locals:=λb o e=>a2V (a2L (a2C e) I.ok.above);show h _ ⟨I.ok,I.os,I.bare,⟨λb o e n hb hx=>(hs.2 b (ol b o e)).trans (I.base.keep b o e n hb hx),λb o e n hb hx=>?_,I.base.free,λb o e hx=>?_,I.base.fM,I.base.fm,I.base.f6⟩,⟨_,cC,λj y v' e1 e2 e3=>?_⟩,λy c e=>?_,I.free,I.fu,λp hp=>?_,λb ob e=>?_,by simpa using I.len⟩
 .obtain⟨sl,e1⟩:=I.base.slot b o e n hb hx;show⟨sl,(hs.2 b (ol b o e)).trans e1⟩
 .obtain⟨o',e1⟩:=I.base.there b o e hx;show⟨o',(hs.2 b (ol b o e)).trans e1⟩
 .by_cases hj:j=i;.simp_all
  .rw[a4d (Ne.symm hj)] at e2;obtain⟨u',r',q⟩:=hl j y v' e1 e2 e3;show⟨u',r',?_⟩;rcases q with⟨k,e⟩ | ⟨k,c,e,z⟩
   .have ny:y≠x:=λe=>hj (Ar hN e1 (e▸hi));show .inl ⟨k,by change(if y=x then u else m y)=some u';rw[if_neg ny];show e⟩
   .show .inr ⟨k,c,e,z.sameBut hs (jb y c e)⟩
 .obtain⟨w',z⟩:=I.cell y c e;show⟨w',z.sameBut hs (jb y c e)⟩
 .obtain⟨e,n,ne,nf,d⟩:=I.pin p hp;show⟨(hs.2 p.1 ne).trans e,n,ne,nf,d⟩
 .show(I.am b ob e).gt (λc w' hc q=>(hs.2 c λz=>?_).trans q) (λ_ q=>q) λ_ _ q=>q;have hf:=I.free;rw[<-z] at hf;rcases hc with hc | hc;.rw[<-hc,hf] at e;cases e
  .rw[hf] at hc;cases hc
end
def Up(K:PySem.W.Frag)(C B:Addr):Prop:=PySem.W.mroIn K C (.ref B)=some true/\PySem.W.mroIn K B (.type "BaseException")=some true/\PySem.W.typeIn K (.ref B)=some (.type "type")
def ZC{K:PySem.W.Frag}{os:OsState}(X:K.In h)(u:Up K C B)(he:h.get? e=some oe)(rT:oe.cls=.ref C)(hq:Q true ⟨h,g,d,t,os⟩):wpAny M A (excMatches (.ref e) (.ref B)) Q E ⟨h,g,d,t,os⟩:=by
 have L1:=PySem.W.looks_mroIn (M:=M) X u.1;have L2:=PySem.W.looks_mroIn (M:=M) X u.2.1
 obtain⟨od,cd,sl,hB⟩:∃od cd sl,h.get? B=some ⟨.type "type",od,.cls cd,sl⟩:=by
  have z:=u.2.1;have y:=u.2.2;unfold PySem.W.mroIn PySem.W.clsIn at z;split at z
  .rename_i look;unfold PySem.W.typeIn at y;simp only[look] at y;cases y;show⟨_,_,_,X _ _ look⟩
  .cases z
 have f:=tc_notTuple;repeat (first | (with_reducible show wpAny_loadPart_at he ?_;rw[rT]) | with_reducible show wpAny_loadPart_at hB ?_ | with_reducible show L2.at ?_ | with_reducible show L1.at ?_ | wp_step)
 show hq
abbrev Cx.marked(X:Cx)(v:Option Value):Cx:={X with A:=X.A.mark v,calm:=false}
section
variable{σ:St}
def Inv.mark(I:Inv X aa σ H s)(v:Option Value):Inv (X.marked v) aa σ H s := ⟨⟨I.ok.mod,I.ok.kind,I.ok.glob,I.ok.blt,I.ok.above,I.ok.inj,I.ok.has,I.ok.nt,(λz=>by cases z),I.ok.frames,I.ok.pV,I.ok.rR,I.ok.bs,I.ok.iq,I.ok.nu,I.ok.nv,I.ok.gu,I.ok.kB⟩,I.os,I.bare,I.base,I.loc,I.cell,I.free,I.fu,I.pin,I.am,I.len⟩
def Inv.unmark(ok:X.Ok)(I:Inv (X.marked v) aa σ H s):Inv X aa σ H s:=⟨ok,I.os,I.bare,I.base,I.loc,I.cell,I.free,I.fu,I.pin,I.am,I.len⟩
def pB(x C:Addr):HO:=.ext λh=>∃o,h.get? x=some o/\o.cls=.ref C/\o.dict=none/\∃vs,o.data=.fields vs
def ZD(I:Inv X aa σ H s)(hx:H x=none)(x0:X.cJ.heap.get? x=none)(xl:x≠X.env.locals)(xc:∀y c,X.env.cells.lookup y=some c->c≠x)(xp:∀p∈X.pn++aa,p.1≠x)(ok:cr X.prog X.w (ad H x o) s.heap x o):Inv X aa σ (ad H x o) s:=by
 have ne:∀b u,H b=some u->b≠x:=λb u e z=>by rw[z,hx] at e;cases e
 have n0:∀b u,X.cJ.heap.get? b=some u->b≠x:=λb u e z=>by rw[z,x0] at e;cases e
 show⟨I.ok,I.os,I.bare,⟨I.base.keep,I.base.slot,λb u e n fN=>?_,I.base.there,λb xs e=>?_,λb u xs e=>?_,λb ps e=>?_⟩,I.loc,I.cell,by rw[i_ xl.symm];show I.free,λy c e=>by rw[i_ (xc y c e)];show I.fu y c e,λp hp=>?_,λb u e=>?_,I.len⟩;.rw[i_ (n0 b u e)];show I.base.free b u e n fN
 .have e1:=I.base.fM b xs e;rw[i_ (ne b _ e1)];show e1
 .have e1:=I.base.fm b u xs e;rw[i_ (ne b _ e1)];show e1
 .obtain⟨more,e1⟩:=I.base.f6 b ps e;show⟨more,by rw[i_ (ne b _ e1)];show e1⟩
 .obtain⟨a1,a2,a3,a4,a5⟩:=I.pin p hp;show⟨a1,by rw[i_ (xp p hp)];show a2,a3,a4,a5⟩
 .by_cases z:b=x
  .subst z;rw[c_] at e;cases e;show ok
  .rw[i_ z] at e;show(I.am b u e).gt (λ_ _ _ q=>q) (λc q=>by rw[i_ (ne c _ q)];show q) λc xs q=>by rw[i_ (ne c _ q)];show q
end
def ZE(K:PySem.W.Frag)(B:Addr)(ie:Nat)(tb:TX)(ts:TS):TS:=λD σ H=>tb D (λaF C H'=>Up K C B/\∀x,H' x=none->ts {nx:=λbI H2=>D.nx (bI.set ie none) H2,rt:=λ_ _=>False} (aF.set ie (some (.ref x))) (ad H' x (pB x C))) σ H
def ZF(hb:Mj X body tb)(wA:X.ex=[])(eT:X.stack=X.env::X.outer)(ZG:X.env.frame=some X.env.locals)(hN:X.N.Nodup)(hi:X.N[ie]?=some n) (Mn:Loc X.env.scope n) (hk:X.env.scope.names.lookup n=some .local) (uW:X.env.kindOf n=some .local) (Eg:pU X.env.scope n) (hg:Gl X cx) (hm:X.mg cx=some (.ref B)) (hs:∀v,bQ (X.marked v).iy (Mm::Ml) ts) (hd:(cx==("__debug__":Str))=false:=by decide) : PS X (.Try body [.ExceptHandler (some (.Name cx cp)) (some n) (Mm::Ml) hp] [] [] pos) (ZE X.K B ie tb ts):=by
 show λaa s σ H D I h=>wpAny_Try_except (wpAny_mono (hb aa s σ H D _ I h) (λf s1 q=>?_) λe s1 q=>?_)
 .cases f with
  | next=>show wpAny_execs_nil q
  | brk=>show q
  | cont=>show q
  | ret u=>show q
 obtain⟨x,C,a0,iA,H1,H',sc,rfl,Ic,os,bare,un,am,pz,up,hR⟩:=q;have nil:∀(P:Addr->Prop),∀b∈([]:List Addr),P b:=λ_ b z=>absurd z (by simp);have I1:Inv X aa iA H' s1:=Ic.rV os un am bare (nil _);have uT:bv (X.env::X.outer)=bv X.stack:=by rw[eT]
 show Md (by rw[<-eT];show Ic.ok.frames) (by rw[<-eT];show I1.stack) ZG pz (λb o e=>un.there b o e (by simp)) (λb o e=>(am b o e).there) λh2 Eh fa=>?_;rw[uT] at Eh;have Ei:=Ee un Eh;have Ej:=Ef am Eh (λb hb=>I1.kF b hb);have I2:Inv X aa iA H' {s1 with heap:=h2}:=Ic.rV os Ei Ej bare (nil _);show zc I2.stack fa (λb o e=>Ei.there b o e (by simp)) (λb o e=>(Ej b o e).there) λh3 rp Mo=>?_;have Ek:=Ee Ei rp;have El:=Ef Ej rp (λb hb=>I2.kF b hb);have I3:Inv X aa iA H' {s1 with heap:=h3}:=Ic.rV os Ek El bare (nil _)
 obtain⟨ox,ZH,ZI⟩:∃o,h3.get? x=some o/\o.cls=.ref C:=by
  obtain⟨_,_,oe,_,_,_,_,e1,e2,_⟩:=Mo;show⟨oe,e1,e2.1⟩
 show wpAny_handleBy_cons (codeAny_handlers_test (pW (I3.mark (some (.ref x))) hg hm ?_ hd)) (by intro z;cases z);show ZC I3.cb up ZH ZI (codeAny_handlers_suite_as ?_);show zc I3.stack Mo (λb o e=>Ek.there b o e (by simp)) (λb o e=>(El b o e).there) λh4 Mp ZJ=>?_;have ZK:=Ee Ek Mp;have ZL:=Ef El Mp (λb hb=>I3.kF b hb);have I4:Inv X aa iA H' {s1 with heap:=h4}:=Ic.rV os ZK ZL bare (nil _);obtain⟨x0,xH,Mr,ZM,_,_,_,e4,c4,d4,_⟩:=ZJ;have fQ:∀b o,sc.heap.get? b=some o->b≠x:=λb o e z=>by rw[z,x0] at e;cases e
 have I5:Inv X aa iA (ad H' x (pB x C)) {s1 with heap:=h4}:=by
  show ZD I4 xH ?_ ?_ ?_ ?_ ⟨⟨Mr,e4,c4.1,c4.2.2,ZM,d4⟩,⟨Mr,e4⟩,λg1 g2 ⟨o,a1,a2⟩ k=>⟨o,k o a1,a2⟩⟩
  .cases z:X.cJ.heap.get? x with
   | none=>rfl
   | some o =>
    obtain⟨o',e'⟩:=Ic.base.there x o z (by rw[wA];simp);show absurd Z (fQ x o' e')
  .obtain⟨m,⟨o,_,_,ho,_⟩,_⟩:=id Ic.loc;show(fQ _ o ho).symm
  .intro y c e;obtain⟨w',o,ho,_⟩:=Ic.cell y c e;show fQ _ o ho
  .show λp gZ=>fQ _ _ (Ic.pin p gZ).1
 show nC I5 hN hi Mn (v:=.ref x) Z (λs6 I6=>(wpAny_mono (hs (some (.ref x)) aa s6 _ _ _ ((I6.mark (some (.ref x))).gx _) (hR x xH)) (λf s7 q7=>?_) λ_ _ z=>False.elim z)) (.inr hk)
 cases f with
 | brk=>obtain⟨_,_,_,z⟩:=q7;show z.elim
 | cont=>obtain⟨_,_,_,z⟩:=q7;show z.elim
 | ret u=>obtain⟨_,_,_,_,_,z⟩:=q7;show z.elim
 | next =>
  obtain⟨eU,H7,ZN,q8⟩:=q7;have I7:Inv X aa eU H7 s7:=Inv.unmark Ic.ok ZN.iz;have bE:ie<eU.length:=by rw[I7.len];show(a2z.mp hi).1
  change wpAny _ _ (bindName X.env n .none>>=λ_=>unbindBehindTheSuite X.env n hp) _ _ s7;show wpAny_bind (wpAny_bindName (nC I7 hN hi Mn (v:=.au) Z (λs8 I8=>?_) (.inr hk)));unfold unbindBehindTheSuite;show wpAny_onRaise (ZB I8 hN hi hk (a4j bE) Eg uW λs9 I9=>?_);rw[List.set_set] at I9;show⟨_,H7,I9,q8⟩
end L2
namespace L2
open PySem PySem.Spec PyProof.Rows PySem.W
structure iV(K:Frag)(C:Addr):Prop where
 hg:findIn K (.ref C) "__getattribute__"=some (some (.builtin "BaseException.__getattribute__"))
 hh:findIn K (.ref C) "__getattr__"=some none
 fo:findObj K C none "__class__"=some (.bind (.builtin "getset_descriptor.__get__") (.builtin "object.__class__"))
 hm:mroIn K C (.type "object")=some true
 hb:mroIn K C (.type "BaseException")=some true
section
variable{K:Frag}
def Ms(h:mroIn K C v=some b):∃cd,clsIn K C=some cd:=by
 unfold mroIn at h
 cases e:clsIn K C with
 | none=>rw[e] at h;cases h
 | some cd=>show⟨cd,Z⟩
def Mv(c:iV K C)(X:K.In s.heap)(I:PySem.W.InstAt s.heap x ox C none)(h:Q (.done (.ret (.ref C))) s):wpAny (model prog w) A (Builtin.«object.__getattribute__» ⟨[.ref x,.str "__class__" tk],[]⟩) Q E s:=by
 have L0:=I.type (M:=model prog w);have L1:=looks_find (M:=model prog w) X I c.fo;obtain⟨hh,gg,d,t,os⟩:=s;show wpAny_bind<|wpAny_pure<|wpAny_bind<|wpAny_pure<|wpAny_bind<|L0.at<|wpAny_bind<|L1.at ?_;show wpAny_bind<|wpAny_holding<|wpAny_call<|class_get X I c.hm (wpAny_pure h)
def ZO(c:iV K C)(X:K.In s.heap)(I:PySem.W.InstAt s.heap x ox C none)(h:R (.ok (.ret (.ref C))) s):codeAny (model prog w) A (.call (.builtin "BaseException.__getattribute__") ⟨[.ref x,.str "__class__" tk],[]⟩) R s:=by
 have L0:=I.type (M:=model prog w);have L1:=looks_mroIn (M:=model prog w) X c.hb;have LI:Looks (model prog w) s.heap (isInstance (.ref x) (.type "BaseException")) true:=L0.andThen L1;obtain⟨hh,gg,d,t,os⟩:=s;show codeAny_call_builtin F.excAttr_ValueError.ga.plain F.entry_bexc_ga ?_;have hk:builtinKind "BaseException.__getattribute__"=some .slot:=by decide
 have ZP:splitId "BaseException.__getattribute__"=some ("BaseException","__getattribute__"):=by decide
 have ha:=F.args_bexc_ga (.ref x) (.str "__class__" tk);simp only[checkBuiltinCall,hk,ZP];show wpAny_bind (LI.at ?_);simp only[Bool.not_true,a3B,if_false];unfold argsOk at ha;generalize Manifest.signature? "BaseException.__getattribute__"=o at ha⊢
 cases o with
 | none=>show wpAny_pure (Mv (s:=⟨hh,gg,d,t,os⟩) c X I h)
 | some Mw =>
  have zd:Bind.checkArgs "BaseException.__getattribute__" Mw ⟨[.ref x,.str "__class__" tk],[]⟩=pure ():=ha;change wpAny _ _ (Bind.checkArgs "BaseException.__getattribute__" Mw ⟨[.ref x,.str "__class__" tk],[]⟩) _ _ _;rw[zd];show wpAny_pure (Mv (s:=⟨hh,gg,d,t,os⟩) c X I h)
def ZQ(c:iV K C)(X:K.In s.heap)(I:PySem.W.InstAt s.heap x ox C none)(h:Q (some (.ref C)) {s with toks:=s.toks+1}):wpAny (model prog w) A (getAttr? (.ref x) "__class__") Q E s:=by
 obtain⟨hh,gg,d,t,os⟩:=s;have L0:=I.type (M:=model prog w);have L1:=looks_findIn (M:=model prog w) X c.hg;have L2:=looks_findIn (M:=model prog w) X c.hh;show wpAny_bind<|wpAny_mkText<|wpAny_bind<|wpAny_attempt<|wpAny_holding<|wpAny_bind<|L0.at<|wpAny_bind<|L1.at ?_;have mz:(Value.builtin "BaseException.__getattribute__"==Value.builtin "object.__getattribute__")=false:=by decide
 have iL:(onTheHeap (Value.ref C)&&Value.builtin "BaseException.__getattribute__"==Value.builtin "object.__getattribute__")=false:=by rfl
 unfold getAttrByItsOwn hookBefore callGetattribute boundAndCalled;show wpAny_bind<|L2.at<|wpAny_bind<|wpAny_attempt<|wpAny_holding ?_;show wpAny_bind<|wpAny_pure<|wpAny_call<|ZO c X I (handed_on Z (wpAny_pure h))
def My(c:iV K C):KitX K (.ref x) (.ref C) (λh=>∃ox,PySem.W.InstAt h x ox C none) where
 ty:=λ_ _ _ ⟨_,I⟩=>I.type
 it:=λ_ _ X _=>by
  obtain⟨cd,q⟩:=Ms c.hm;unfold clsIn at q;split at q
  .rename_i a1 a2 a3 a4 look;intro A' Q' E' s' keep z;show wpAny_bind<|wpAny_loadPart (keep _ _<|X _ _ look)<|wpAny_pure z
  .cases q
 ne:=λh tp dd af n sl X iW=>by
  obtain⟨cd,q⟩:=Ms c.hm;show Bool.eq_false_iff.mpr λsame=>?_;have e:=Value.ref.inj (beq_iff_eq.mp same);subst e;unfold clsIn at q;split at q
  .rename_i a1 a2 a3 a4 look;cases (X _ _ look).symm.trans iW
  .cases q
 ca:=λX ⟨_,I⟩ k=>ZQ c X I k
end
def Mz(ok:bC P w H h)(e:H x=some (pB x C)):∃ox,PySem.W.InstAt h x ox C none:=by
 obtain⟨⟨o,a1,a2,a3,vs,a4⟩,_⟩:=(show cr P w H h x _ from ok x _ e);show⟨o,a1,a2,?_,?_⟩
 .unfold notCls;rw[a4]
 .rw[a3];show trivial
def rq:dw X (.builtin "isinstance") (λxs H Q=>∃x C b,∃d:V,∃dv:Value,xs=[.ref x,d]/\H x=some (pB x C)/\iV X.K C/\(∀u,RelV d u->u=dv)/\kitOne X.K (.ref C) dv=some b/\Q (.bl b) H):=by
 intro aa s σ H xs us Q I r h;obtain⟨x,C,b,d,dv,rfl,hx,c,ZR,e,q⟩:=h;obtain⟨u,v,rfl,rx,ry⟩:=vals2 r;cases (show u=Value.ref x from rx);cases ZR v ry;show kia_one (My c) I.cb (Mz I.am hx) e (λz=>nomatch z) λtk=>⟨.bl b,H,I.tok tk,Z,q⟩
end L2
namespace L2
open PySem PySem.Spec PyProof.Rows
def cO(a b:Sp):Sp:=λvs H Q E=>a vs H Q E\/b vs H Q E
section
variable{K:PySem.W.Frag}
def av.or(F:av P w K mg base CX k f fd ps sp)(G:av P w K mg base CX k f fd ps kO):av P w K mg base CX k f fd ps (cO sp kO) := ⟨λvs H Q E h=>h.elim (F.len vs H Q E)<|G.len vs H Q E,λA outer s H args us vs Q E hr he hb hv hs=>hs.elim (F.run A _ s H _ us vs Q E hr he hb hv)<|G.run A _ s H _ us vs Q E hr he hb hv⟩
def av.less(F:av P w K mg base CX k f fd ps sp)(h:∀vs H Q E,kO vs H Q E->sp vs H Q E):av P w K mg base CX k f fd ps kO := ⟨λvs H Q E z=>F.len vs H Q E<|h vs H Q E z,λA outer s H args us vs Q E hr he hb hv hs=>F.run A _ s H _ us vs Q E hr he hb hv<|h vs H Q E hs⟩
structure ci(P:Program)(w:World)(K:PySem.W.Frag)(mg:Str->Option Value)(base:Heap)(k:Nat)(x:Str)(ps:List Str)(sp:Sp):Prop where
 ex:∃f fd,av P w K mg base (bt P w) k f fd ps sp/\mg x=some (.ref f)/\PySem.W.keepIn K (.ref f)=true/\Binds K fd ps []
theorem ai.less(D:ai P w K mg base k x ps sp)(h:∀vs H Q E,kO vs H Q E->sp vs H Q E):ai P w K mg base k x ps kO:=by
 obtain⟨f,fd,G,r⟩:=D.ex;show⟨f,fd,G.less h,r⟩
end
section
variable{K:PySem.W.Frag}{p pos:Pos}
def fK(D:ci P w K mg base k x ps sp)(hr:bD k (bR (bt P w) P w K mg base N qual scope f cd A outer s H E).A)(hg:Gl (bR (bt P w) P w K mg base N qual scope f cd A outer s H E) x)(ha:PA (bR (bt P w) P w K mg base N qual scope f cd A outer s H E) (e::es) t) (fE:(x==("__debug__":Str))=false:=by decide) (he:starEach (e::es) (bR (bt P w) P w K mg base N qual scope f cd A outer s H E).env=(false,eval e (bR (bt P w) P w K mg base N qual scope f cd A outer s H E).env)::starEach es (bR (bt P w) P w K mg base N qual scope f cd A outer s H E).env:=by rfl) (cy:(backTo pos (starEach es (bR (bt P w) P w K mg base N qual scope f cd A outer s H E).env)).any (·.1)=false:=by rfl):PE (bR (bt P w) P w K mg base N qual scope f cd A outer s H E) (.Call (.Name x p) (e::es) [] pos) (se sp [] E t):=by
 obtain⟨f',fd,G,h1,h2,h3⟩:=D.ex;show G7 G hr hg h1 h2 h3 .nil Zu ha fE he cy
end
end L2
namespace Hv
open PySem L2
def cs(l:List Addr):Nat->Addr:=λj=>l.getD j 0
end Hv
namespace L2
open PySem PySem.Spec PyProof.Rows PySem.W
theorem MA{K:Frag}{t:Value}:∀ {af:List Value},(∀c∈af,kitOne K t c=some false)->kitAny K t af=some false
 | [],_=>by rfl
 | c::r,h=>by
  unfold kitAny;rw[h c a2Y];show MA λd hd=>h d<|a2G _ hd
theorem MB:∀ {cs:List Addr} {af:List Value},az (cs.map V.ref) af->af=cs.map Value.ref
 | [],_,h=>by cases h;rfl
 | c::r,_,h=>by
  cases h with
  | cons a b=>rw[MB b,a2X,show _=Value.ref c from a]
def ZS:dw X (.builtin "isinstance") (λxs H Q=>∃x C t,∃cs:List Addr,xs=[.ref x,.ref t]/\H x=some (pB x C)/\H t=some (.tup (cs.map V.ref))/\iV X.K C/\(∀c∈cs,kitOne X.K (.ref C) (.ref c)=some false)/\Q (.bl false) H):=by
 intro aa s σ H xs us Q I r h;obtain⟨x,C,t,cs,rfl,hx,ht,c,hk,q⟩:=h;obtain⟨u,v,rfl,rx,ry⟩:=vals2 r;cases (show u=Value.ref x from rx);cases (show v=Value.ref t from ry);obtain⟨af,hv,⟨⟨oc,od,dt,sl⟩,e,h2,n,h3⟩,_⟩:=I.tuple (aP.of ht);have ei:=MB hv;subst ei;cases (show oc=_ from h2);cases (show dt=_ from h3);show kia_tup (My c) I.cb (Mz I.am hx) e (MA λd hd=>?_) (λz=>nomatch z) λtk=>⟨.bl _,H,I.tok tk,Z,q⟩;obtain⟨a,ha,rfl⟩:=a2N.mp hd;show hk a ha
end L2
namespace L2
open PySem PySem.Spec PyProof.Rows
end L2
namespace Hv
open PySem L2
structure Kind(K:PySem.W.Frag)(c:Nat->Addr)(C:Addr)(i:Nat):Prop where
 cl:iV K C
 lt:i<10
 kt:∀j,j<10->PySem.W.kitOne K (.ref C) (.ref (c j))=some (decide (i=j))
 kv:PySem.W.kitOne K (.ref C) (.type "ValueError")=some true
structure MC(mg:Str->Option Value)(c:Nat->Addr):Prop where
 n0:mg "NoFrame"=some (.ref (c 0))
 n1:mg "NoNumber"=some (.ref (c 1))
 n2:mg "NoPart"=some (.ref (c 2))
 n3:mg "NoSum"=some (.ref (c 3))
 n4:mg "NoMiss"=some (.ref (c 4))
 n5:mg "NoEven"=some (.ref (c 5))
 n6:mg "NoFrames"=some (.ref (c 6))
 n7:mg "NoText"=some (.ref (c 7))
 n8:mg "NoName"=some (.ref (c 8))
 n9:mg "NoRow"=some (.ref (c 9))
 ve:mg "ValueError"=none
def ZT:bootBuiltins "ValueError"=some (.type "ValueError"):=by first | grind | rfl
def ZU:∀vs H Q E,Bc vs H Q E->tG vs H Q E:=λvs H Q E ⟨f,a,c,b,ps,ws,e,G,k⟩=>⟨_,_,e,G.tree,Ur G.ok,λH' s'=>by rw[IN G.ok];show k H' s'⟩
inductive ze(vs:List V)(H:Hp)(Q:VK)(aq:XK):Prop
 | mk:∀z b ps ws,(vs=[.str z])->(cg z)->(z.length<=300)->(dY b ps ws)->(z=Mt.fText b ps ws)->(∀f a c H',ae H H'->aV H' f a c b ps ws->H f=none->H a=none->H c=none->a≠c->Q (.ref f) H')->ze vs H Q aq
def ZV(H:Hp)(v:V):Prop:=(∃z,v=.str z/\cg z/\z.length<=300/\¬ y0 z)\/(cM H v/\∀z,v≠.str z)
inductive zg(C:Addr)(vs:List V)(H:Hp)(jC:VK)(E:XK):Prop
 | mk:∀v,(vs=[v])->(ZV H v)->(∀H',ae H H'->E (.ref C) none H')->zg C vs H jC E
def ZW(F:ay K "read_frame" "read_frame" wW f fd)(D:ai P w K mg base 5 "frame_or_none" ["text"] uR):av P w K mg base aE 6 f fd ["text"] ze:=by
 show F.ok yX λak A outer s H vs Q E hr h=>?_
 .obtain⟨z,b,ps,ws,rfl,bW,hl,ok,e,k⟩:=h;have nd:=yX.nd;show⟨_,b_ (j_ 1<|m_ D hr (by rfl)<|a_ (pv 0) d_) <|b_ (C_ (r_ AA (pv 1) iu<|bx _) A_ q_) <|g_<|k_<|pv 1,(⟨_,Z,_,Z,.inl ⟨z,Z,bW,hl,λb' uM uN g a c H' e' s' G f1 f2 f3 f4=>⟨_,Z,Z,_,Z,aK ⟨_,Z,?_⟩⟩,λn=>absurd ⟨b,ps,ws,ok,e⟩ n⟩⟩)⟩
  have w0:∀ {b:Nat} {ps:List Nat} {ws:List Int},dY b ps ws->ws≠[]:=λ{b ps ws} ok z=>by
   have h1:=ok.wl;have h2:=ok.sum;rw[z] at h1;simp at h1;lia
  have pC:∀ {b:Nat} {ps:List Nat} {ws:List Int},dY b ps ws->∀p∈ps,p<=16:=λok p hp=>by have:=ok.pr p hp;lia
  obtain⟨rfl,rfl,rfl⟩:=Mt.YQ ok.cz (pC ok) ok.wr G.ok.cz (pC G.ok) G.ok.wr (by have:=ok.l2;intro z;rw[z] at this;simp at this) (by have:=G.ok.l2;intro z;rw[z] at this;simp at this) (w0 ok) (w0 G.ok) (e.symm.trans e');show k g a c H' s' G f1 f2 f3 f4
def ZX(F:ay K "read_frame" "read_frame" wW f fd)(D:ai P w K mg base 5 "frame_or_none" ["text"] uR)(O:lJ base C dM fj B dN)(hm:mg "NoText"=some (.ref C)):av P w K mg base (bt P w) 6 f fd ["text"] (zg C):=by
 show F.dQ yX λak A outer s H vs Q E hr h=>?_
 .obtain⟨v,rfl,h,k⟩:=h;have nd:=yX.nd;show⟨_,b_ (j_ 1<|m_ D hr (by rfl)<|a_ (pv 0) d_) <|b_ (C_ (r_ AA (pv 1) iu<|bx _) (g_<|pA O (by rfl) hm n_) q_) A_,?_⟩;rcases h with⟨z,rfl,bW,hl,nw⟩ | ⟨t,nz⟩;.show⟨_,Z,_,Z,.inl ⟨z,Z,bW,hl,λb ps ws g a c H' e s' G _ _ _ _=>absurd ⟨b,ps,ws,G.ok,e⟩ nw,λ_ H' s'=>⟨_,Z,Z,_,Z,bj<|k H' s'⟩⟩⟩
  .show⟨_,Z,_,Z,.inr ⟨t,nz,λH' s'=>⟨_,Z,Z,_,Z,bj<|k H' s'⟩⟩⟩
abbrev a2q:List Str:=["ask","thing","found","e","kinds","others"]
structure PP(D:List Addr) where
 holds:Hp->V->Prop
 per:∀H H' v,Kp D H H'->holds H v->holds H' v
abbrev Le(P P':PP D):Prop:=∀H v,P.holds H v->P'.holds H v
def Cp(ps:List (Option (PP D)))(σ:St)(H:Hp):Prop:=Paired (λ(q:Option (PP D)) (o:Option V)=>∀P,q=some P->∃v,o=some v/\P.holds H v) ps σ
def tT(d:Addr)(ps:List (Option (PP [d])))(P:PP [d]):TE:=fun σ H Q=>Cp ps σ H/\JH H d/\∀v H',JH H' d->Kp [d] H H'->P.holds H' v->Q v H'
abbrev ET(X:Cx)(d:Addr)(ps:List (Option (PP [d])))(e:Expr)(P:PP [d]):Prop:=PE X e (tT d ps P)
def bB(k:Nat)(x:V):Prop:=b7 x 0 (k:Int)=false
inductive gm(C:Addr)(uX:Nat->V->Prop)(vs:List V)(H:Hp)(jC:VK)(E:XK):Prop
 | mk:∀f a c b ps ws x,(vs=[.ref f,x])->(aV H f a c b ps ws)->(cM H x)->(uX (b ^ ps.sum) x)->(∀H',ae H H'->E (.ref C) none H')->gm C uX vs H jC E
inductive zh(C:Addr)(uX:Nat->V->Prop)(vs:List V)(H:Hp)(jC:VK)(E:XK):Prop
 | mk:∀f a c b ps ws,∀(d:Nat) (x:V),(vs=[.ref f,.int d,x])->(aV H f a c b ps ws)->(cM H x)->(uX (b ^ ps.sum) x)->(∀H',ae H H'->E (.ref C) none H')->zh C uX vs H jC E
def ZY(F:ay K "need_bound" "need_bound" wM f fd)(D2:ai P w K mg base 2 "is_between" ["thing","least","greatest"] jk)(D6:ai P w K mg base 6 "how_many" ["frame"] lh) (O:lJ base CN dM fj B dN) (hm:mg "NoNumber"=some (.ref CN)):av P w K mg base (bt P w) 7 f fd ["frame","thing"] (gm CN bB):=by
 show F.dQ KZ λak A outer s H vs Q E hr h=>?_
 .obtain⟨g,a,c,b,ps,ws,x,rfl,G,tx,hx,k⟩:=h;show⟨_,g_<|C_ (N_<|L_<|m_ D2 hr.mo (by rfl)<|a_ (pv 1)<|a_ h_<|a_ (m_ D6 hr (by rfl)<|a_ (pv 0) d_) d_) (g_<|pA O (by rfl) hm n_) q_,(⟨_,Z,_,Z,g,a,c,b,ps,ws,Z,G,λH1 s1=>⟨x,0,_,Z,tx.keep s1,_,Z,?_⟩⟩)⟩;have fN:=hx;rw[fN];show bj<|k H1 s1
def ZZ(F:ay K "near_below" "near_below" wU f fd)(D5:ai P w K mg base 5 "need_frame" ["thing"] fS)(DM:ai P w K mg base 2 "need_miss" ["thing"] ph)(DL:ci P w K mg base 7 "need_bound" ["frame","thing"] (cO kj (gm CN bB))):av P w K mg base (bt P w) 11 f fd ["frame","d","n"] (zh CN bB):=by
 show F.dQ Lq λak A outer s H vs Q E hr h=>?_
 .obtain⟨g,a,c,b,ps,ws,d,x,rfl,G,tx,hx,k⟩:=h;show⟨_,b_ (t_<|m_ D5 hr.mo (by rfl)<|a_ (pv 0) d_)<|b_ (t_<|m_ DM hr.mo (by rfl)<|a_ (pv 1) d_)<|b_ (t_<|fK DL hr.mo (by rfl)<|a_ (pv 0)<|a_ (pv 2) d_) A_,(⟨_,Z,g,a,c,b,ps,ws,Z,G,λH1 s1=>⟨_,Z,d,Z,⟨_,Z,_,Z,.inr ⟨g,a,c,b,ps,ws,x,Z,G.keep s1,tx.keep s1,hx,λH2 s2=>k H2 (s1.trans s2)⟩⟩⟩⟩)⟩
def Z0(F:ay K "next_even" "next_even" wS f fd)(D5:ai P w K mg base 5 "need_frame" ["thing"] fS)(DL:ci P w K mg base 7 "need_bound" ["frame","thing"] (cO kj (gm CN bB))):av P w K mg base (bt P w) 12 f fd ["frame","n"] (gm CN bB):=by
 show F.dQ Db λak A outer s H vs Q E hr h=>?_
 .obtain⟨g,a,c,b,ps,ws,x,rfl,G,tx,hx,k⟩:=h;show⟨_,b_ (t_<|m_ D5 hr.mo (by rfl)<|a_ (pv 0) d_)<|b_ (t_<|fK DL hr.mo (by rfl)<|a_ (pv 0)<|a_ (pv 1) d_) A_,(⟨_,Z,g,a,c,b,ps,ws,Z,G,λH1 s1=>⟨_,Z,_,Z,.inr ⟨g,a,c,b,ps,ws,x,Z,G.keep s1,tx.keep s1,hx,λH2 s2=>k H2 (s1.trans s2)⟩⟩⟩)⟩
def Z1(F:ay K "last_even" "last_even" wT f fd)(D5:ai P w K mg base 5 "need_frame" ["thing"] fS)(DL:ci P w K mg base 7 "need_bound" ["frame","thing"] (cO kj (gm CN bB))):av P w K mg base (bt P w) 12 f fd ["frame","n"] (gm CN bB):=by
 show F.dQ C9 λak A outer s H vs Q E hr h=>?_
 .obtain⟨g,a,c,b,ps,ws,x,rfl,G,tx,hx,k⟩:=h;show⟨_,b_ (t_<|m_ D5 hr.mo (by rfl)<|a_ (pv 0) d_)<|b_ (t_<|fK DL hr.mo (by rfl)<|a_ (pv 0)<|a_ (pv 1) d_) A_,(⟨_,Z,g,a,c,b,ps,ws,Z,G,λH1 s1=>⟨_,Z,_,Z,.inr ⟨g,a,c,b,ps,ws,x,Z,G.keep s1,tx.keep s1,hx,λH2 s2=>k H2 (s1.trans s2)⟩⟩⟩)⟩
structure lK(P:Program)(w:World)(K:PySem.W.Frag)(mg:Str->Option Value)(base:Heap)(k:Nat)(C:Addr)(m:Str)(ps:List Str)(sp:Sp):Prop where
 ex:∃f fd,av P w K mg base aE k f fd ps sp/\qa K C m f/\Binds K fd ps []
structure zi(P:Program)(w:World)(K:PySem.W.Frag)(mg:Str->Option Value)(base:Heap)(k:Nat)(x:Str)(C:Addr)(ps:List Str)(sp:Sp):Prop where
 ex:∃f fd,av P w K mg base aE k f fd ps sp/\Mk K C f/\mg x=some (.ref C)/\Binds K fd ps []
section
variable{p pos bo:Pos}
def a2r{pl:Sem Bool}(c:cS X.K C)(D:lK X.prog X.w X.K X.mg X.base k C m ps sp)(hr:bD k X.A)(he:PE X o ta)(ha:PA X (e::es) t)
  (eT:starEach (e::es) X.env=(false,eval e X.env)::starEach es X.env:=by rfl) (cy:(backTo pos (starEach es X.env)).any (·.1)=false:=by rfl)
  (ht:eval (.Call (.Attribute o m bo) (e::es) [] pos) X.env=(do
   let ov <-eval o X.env
   standAt bo.atName
   let (f,first) <-holding [ov] (getMethod ov m pl)
   callWith pos f first (backTo pos (starEach (e::es) X.env)) (backToKw pos (keywordEach [] X.env))):=by rfl) :
  PE X (.Call (.Attribute o m bo) (e::es) [] pos) (sf C m sp [] E0 ta t):=by
 obtain⟨f,fd,G,h1,h2⟩:=D.ex;show G8 he c h1 G hr h2 .nil sB ha eT cy ht
def MD(c:cS X.K C)(D:lK X.prog X.w X.K X.mg X.base k C m ps sp)(hr:bD k X.A)(he:PE X o ta)
  (ht:eval (.Call (.Attribute o m bo) [] [] pos) X.env=(do
   let ov <-eval o X.env
   standAt bo.atName
   let (f,first) <-holding [ov] (getMethod ov m pl)
   callWith pos f first (backTo pos (starEach [] X.env)) (backToKw pos (keywordEach [] X.env))):=by rfl) :
  PE X (.Call (.Attribute o m bo) [] [] pos) (sf C m sp [] E0 ta ee):=by
 obtain⟨f,fd,G,h1,h2⟩:=D.ex;show Rk he c h1 G hr h2 .nil sB ht
end
abbrev AF:=Addr×Addr×Addr
inductive zj(vs:List V)(H:Hp)(Q:VK)(aq:XK):Prop
 | mk:∀(f a c:Addr) (b:Nat) (ps:List Nat) (ws:List Int),(vs=[.ref f])->(aV H f a c b ps ws)->(∀(f' a' c':Addr) (H':Hp),ae H H'->aV H' f' a' c' b ps ws->H f'=none->H a'=none->H c'=none->a'≠c'->Q (.ref f') H')->zj vs H Q aq
abbrev evN(b:Nat)(ps:List Nat)(ws:List Int):Int:=Mx.aD b 0 ps ws (b ^ ps.sum)
inductive zk(vs:List V)(H:Hp)(Q:VK)(aq:XK):Prop
 | mk:∀(f a c:Addr) (b:Nat) (ps:List Nat) (ws:List Int) (p:Nat) (wt:Int),(vs=[.ref f,.int p,.int wt])->(aV H f a c b ps ws)->(p<ws.length)->(-9<=wt)->(wt<=9)->(∀(f' a' c':Addr) (H':Hp),ae H H'->aV H' f' a' c' b ps (ws.set p wt)->H f'=none->H a'=none->H c'=none->Q (.ref f') H')->zk vs H Q aq
def Z2(h:p<n):fP n (p:Int)=some p:=by
 unfold fP;simp;lia
def ME:aI ["frame"] ["frame"] (f_ Bz):=⟨Z,Z,Z,by decide,Z,by decide,by decide⟩
def Z3(F:ay K "copy_of" "copy_of" Bz f fd)(T:Txt mg):av P w K mg base aE 1 f fd ["frame"] zj:=by
 show F.ok ME λak A outer s H vs Q E hr h=>?_
 .obtain⟨f,a,c,b,ps,ws,rfl,G,k⟩:=h;show⟨_,(g_<|k_<|gX<|a_ (ce (pv 0) h_)<|a_ (G_ Hm (by rfl) T.list boot_list<|a_ (ce (pv 0) h_) d_)<|a_ (G_ Hm (by rfl) T.list boot_list<|a_ (ce (pv 0) h_) d_) d_),(⟨_,Z,_,_,_,_,Z,Z,aP.of G.tp,Z,⟨_,Z,_,_,_,_,Z,Z,aP.of G.tp,Z,⟨a,_,Z,.inl (ag.of G.hp),λa' zd=>?_⟩⟩⟩)⟩;have s1:=e_ (o:=.lst (aA ps)) zd;have u1:(ad H a'<|.lst<|aA ps) a'=_:=c_;show⟨_,Z,_,_,_,_,Z,Z,aP.of<|s1 _ _ G.tp,Z,⟨c,_,Z,.inl<|ag.of<|s1 _ _ G.hw,λc' gw=>⟨sz<|by simp,λf' MF=>?_⟩⟩⟩;have s2:=e_ (o:=.lst (ws.map V.int)) gw;have s3:=e_ (o:=.tup [.int b,.ref a',.ref c']) MF;show k f' a' c' _ (s1.trans<|s2.trans s3) ⟨c_,s3 _ _<|s2 _ _ u1,s3 _ _ c_,G.ok⟩ (s1.free<|s2.free MF) zd (s1.free gw)<|λz=>by rw[<-z,u1] at gw;cases gw
def Em:aI ["frame","place","weight","changed"] ["frame","place","weight"] (f_ wV):=⟨Z,Z,Z,by decide,Z,by decide,by decide⟩
def Z4(F:ay K "with_weight" "with_weight" wV f fd)(T:Txt mg)(ic:ai P w K mg base 2 "is_between" ["thing","least","greatest"] jk)(En:ai P w K mg base 1 "copy_of" ["frame"] zj):av P w K mg base aE 3 f fd ["frame","place","weight"] zk:=by
 show F.ok Em λak A outer s H vs Q E hr h=>?_
 .obtain⟨f,a,c,b,ps,ws,p,wt,rfl,G,hp,w1,w2,k⟩:=h;have nd:=Em.nd;show⟨_,(b_ (C_ (N_ (L_ (m_ ic hr (by rfl) (a_ (pv 1) (a_ h_ (a_ (o_ gA (eV T.len (by rfl) (ce (pv 0) h_)) h_) d_)))))) A_ q_) (b_ (C_ (N_ (L_ (m_ ic hr (by rfl) (a_ (pv 2) (a_ (rX rY h_) (a_ h_ d_)))))) A_ q_) (b_ (j_ 3 (m_ En hr.mo (by rfl) (a_ (pv 0) d_))) (b_ (nI (pv 2) (nH (ce (pv 3) h_) (pv 1) nV)) (g_ (k_ (pv 3))))))),(⟨_,Z,_,Z,Ik G.tp Z ⟨c,_,Z,.inl (ag.of G.hw),_,_,Z,Z,.int (p:Int),0,_,Z,.int _,_,Z,?_⟩⟩)⟩;rw[show b7 (.int  p ) 0 ((((ws.map V.int).length))-1)=true by simp[b7];lia];show aK ⟨_,Z,_,Z,.int wt,-9,9,Z,.int _,_,Z,?_⟩;rw[show b7 (.int wt) (-9) 9=true by simp[b7];lia];show aK ⟨_,Z,f,a,c,b,ps,ws,Z,G,λf' a' c' H1 s1 G1 nf na nc Z5=>⟨_,Z,_,Z,_,_,_,_,Z,Z,aP.of G1.tp,Z,_,Z,c',_,_,p,Z,Z,G1.hw,by rw[a2x];show Z2 hp,?_⟩⟩;have e:(ws.map V.int).set p (V.int wt)=(ws.set p wt).map V.int:=by rw[List.map_set]
  have Z6:f'≠c':=λz=>by have h1:=G1.tp;rw[z,G1.hw] at h1;cases h1
  show⟨_,Z,k f' a' c' _ ?_ ⟨by rw[i_ Z6];show G1.tp,by rw[i_ Z5];show G1.hp,by rw[c_,e],?_⟩ nf na nc⟩
  .intro y o hy;rw[i_ (λz=>by rw[z,nc] at hy;cases hy)];show s1 y o hy
  .show⟨G.ok.b2,G.ok.cz,G.ok.l2,G.ok.l4,G.ok.pr,by rw[a4V];show G.ok.wl,λv hv=>by
    rcases a5S hv with h | h;.show G.ok.wr v h
    .subst h;show⟨w1,w2⟩⟩
end Hv
namespace Hv
open PySem L2 PySem.Spec PyProof.Rows
structure iX(P:Program)(w:World)(K:PySem.W.Frag)(mg:Str->Option Value)(base:Heap)(k:Nat)(C:Addr)(m:Str)(ps:List Str)(sp:Sp):Prop where
 ex:∃f fd,av P w K mg base (bt P w) k f fd ps sp/\qa K C m f/\Binds K fd ps []
end Hv
namespace Hv
open PySem L2
def Z7(c2 c1:Addr)(n:Nat)(pl wt:V)(H:Hp)(E:XK):Prop:=(b7 pl 0 ((n:Int)-1)=false/\∀H',ae H H'->E (.ref c2) none H')\/(b7 pl 0 ((n:Int)-1)=true/\b7 wt (-9) 9=false/\∀H',ae H H'->E (.ref c1) none H')
inductive zm(c2:Addr)(c1:Addr)(vs:List V)(H:Hp)(jC:VK)(E:XK):Prop
 | mk:∀(f a c:Addr) (b:Nat) (ps:List Nat) (ws:List Int) (pl wt:V),(vs=[.ref f,pl,wt])->(aV H f a c b ps ws)->(cM H pl)->(cM H wt)->(Z7 c2 c1 ws.length pl wt H E)->zm c2 c1 vs H jC E
def ox_(F:ay K "with_weight" "with_weight" wV f fd)(T:Txt mg)(D2:ai P w K mg base 2 "is_between" ["thing","least","greatest"] jk)(O2:lJ base c2 dM fj B dN)(h2:mg "NoPart"=some (.ref c2))(O1:lJ base c1 Z8 Z9 B2 Z')(h1:mg "NoNumber"=some (.ref c1)):av P w K mg base (bt P w) 3 f fd ["frame","place","weight"] (zm c2 c1):=by
 show F.dQ Em λak A outer s H vs Q E hr h=>?_
 .obtain⟨f,a,c,b,ps,ws,pl,wt,rfl,G,tp,tw,h⟩:=h;show⟨_,b_ (C_ (N_<|L_<|m_ D2 hr (by rfl)<|a_ (pv 1)<|a_ h_<|a_ (o_ gA (eV T.len (by rfl)<|ce (pv 0) h_) h_) d_) (g_<|pA O2 (by rfl) h2 n_) q_) <|b_ (C_ (N_<|L_<|m_ D2 hr (by rfl)<|a_ (pv 2)<|a_ (rX rY h_)<|a_ h_ d_) (g_<|pA O1 (by rfl) h1 n_) q_) A_,(⟨_,Z,_,Z,Ik G.tp Z ⟨c,_,Z,.inl (ag.of G.hw),_,_,Z,Z,pl,0,_,Z,tp,_,Z,?_⟩⟩)⟩;rw[a2x];rcases h with⟨e,k⟩ | ⟨e,e2,k⟩
  .rw[e];show bj<|k H<|ae.refl _
  .rw[e];show aK ⟨_,Z,_,Z,wt,-9,9,Z,tw,_,Z,?_⟩;show e2▸?_;show bj<|k H<|ae.refl _
end Hv
namespace L2
open PySem PySem.Spec PyProof.Rows
def KD(K:PySem.W.Frag)(P:Program)(w:World)(a:Addr)(kvs:List (ax×V)):Prop := (a==sysModules)=false/\∃vs,KV kvs vs/\∀h:Heap,K.In h->h.DictOf (v_ P w) a vs
inductive MG(K:PySem.W.Frag)(P:Program)(w:World)(Q:VK)(x:V)(y:V)(H2:Hp):Prop
 | mk:∀a kvs k v,(x=.ref a)->(KD K P w a kvs)->(y=kV k)->(b8 kvs k=some v)->(Q v H2)->MG K P w Q x y H2
def a0a(K:PySem.W.Frag)(P:Program)(w:World)(td ty:TE):TE:=fun σ H Q=>td σ H λx H1=>ty σ H1 (MG K P w Q x)
inductive MH(K:PySem.W.Frag)(P:Program)(w:World)(Q:VK)(y:V)(x:V)(H2:Hp):Prop
 | mk:∀a kvs k,(x=.ref a)->(KD K P w a kvs)->(y=kV k)->(Q (.bl (!(b8 kvs k).isSome)) H2)->MH K P w Q y x H2
def qr_(K:PySem.W.Frag)(P:Program)(w:World)(ty td:TE):TE:=fun σ H Q=>ty σ H λy H1=>td σ H1 (MH K P w Q y)
def zo(ho:PE X o td)(hi:PE X i ty)(hs:BQ i):PE X (.Subscript o i pos) (a0a X.K X.prog X.w td ty):=by
 show λaa s σ H Q I h=>Ir PySem.F.slot_dict_getitem.lookup hs<|ar (ho aa s σ H _ I h) λu s1 ⟨x,H1,I1,rx,q1⟩=>ar (hi aa s1 σ H1 _ I1 q1) λiv s2 ⟨y,H2,I2,ry,a,kvs,k,v,ex,g,ey,l,q2⟩=>?_;subst ex ey;obtain rfl:u=Value.ref a:=rx;obtain⟨hd,vs,aX,dd⟩:=g;have d:=dd _ I2.cb;obtain⟨w',hw,cR⟩:=d9.some_of (v:=v) (o:=valueAt vs k) (by show l▸?_;show aX.val k);show⟨d.typeIs,wpAny_getItem_of (jo ry) d.mapOf hw ⟨v,H2,I2.tok _,cR,q2⟩⟩
def lZ_(hi:PE X i ty)(ho:PE X o td):PC X .NotIn i o (qr_ X.K X.prog X.w ty td):=by
 show λaa s σ H Q I h=>ar (hi aa s σ H _ I h) λiv s1 ⟨y,H1,I1,ry,q1⟩=>ar (ho aa s1 σ H1 _ I1 q1) λu s2 ⟨x,H2,I2,rx,a,kvs,k,ex,g,ey,q2⟩=>?_;subst ex ey;obtain rfl:u=Value.ref a:=rx;obtain⟨hd,vs,aX,dd⟩:=g;show wpAny_notIn_of (jo ry) hd (dd _ I2.cb).mapOf ?_;show ((aX.val k).sY)▸?_;show⟨.bl _,H2,I2.tok _,Z,q2⟩
end L2
namespace Mt
def ltB(c:Nat):Bool:=decide (97<=c)&&decide (c<=122)
def eQ(z:PySem.Str):Bool:=decide (1<=z.length)&&decide (z.length<=8)&&z.cps.toList.all ltB
end Mt
namespace Hv
open PySem L2
def lets:Str:=Str.ofString "abcdefghijklmnopqrstuvwxyz"
def rn_:∀k:Fin 128,(!(Builtin.Str.occurrences lets ⟨#[(k:Nat)]⟩ 0 lets.length 1).isEmpty)=Mt.ltB k:=by decide
inductive zq(vs:List V)(H:Hp)(Q:VK)(aq:XK):Prop
 | mk:∀z:Str,(vs=[.str z])->(cg z)->(z.length<=1000)->(∀H',ae H H'->Q (.bl (Mt.eQ z)) H')->zq vs H Q aq
def sl_:aI ["word"] ["word"] (f_ wX):=⟨Z,Z,Z,by decide,Z,by decide,by decide⟩
def qQ_(F:ay K "is_name" "is_name" wX f fd)(T:Txt mg)(hL:∃t,mg "LETTERS"=some (.str lets t))(hM:∃t,mg "MOST_LETTERS"=some (.int 8 t)):av P w K mg base aE 1 f fd ["word"] zq:=by
 obtain⟨tk,hL⟩:=hL;obtain⟨tm,hM⟩:=hM;show F.ok sl_ λak A outer s H vs Q E hr h=>?_
 .obtain⟨z,rfl,bW,hl,k⟩:=h;have hz:z.cps.size<=1000:=hl;have hzs:z.length<=sizeLine:=a2U hl (by decide);show⟨_,g_ (k_ (pZ (GS jT jT h_ (uO T.len (by rfl) (pv 0)) (U_ (v:=.int 8) (by rfl) hM ⟨tm,Z⟩)) (pY (p_ (qm Z) (by rfl) T.all boot_all (a_ (P_ (f_ wX) ["word"] [] [] Z (LN (pv 0)) (λcl C s H fp=>O_) (λcl C s H fp=>sd GN (pv 0) (U_ (v:=.str lets) (by rfl) hL ⟨tk,Z⟩) (by rfl)) (by decide)) d_))))),⟨_,Z,z,Z,hzs,_,_,Z,Z,_,Z,?_⟩⟩;by_cases h1: 1 <=(z.length:Int)
  .rw[decide_eq_true h1];show bj ⟨_,_,Z,Z,_,Z,?_⟩;by_cases h2:(z.length:Int)<=8
   .rw[decide_eq_true h2];show bj ⟨_,Z,z,Z,LY bW,LO (λi ys H2=>i<=z.cps.size/\ys=((z.cps.toList.take i).map Mt.ltB).map V.bl/\ae H H2) ⟨a3q _,Z,ae.refl _⟩ ?_ ?_⟩
    .rintro i c ys H2 hc ⟨hi,rfl,s2⟩;have jr:=(a3s.mp hc).1;rw[<-a4K] at hc;have hm:=a2A hc;show⟨bT (by simp;lia),_,Z,_,_,Z,Z,jr,?_,s2⟩;have:=rn_ ⟨c,bW c hm⟩;rw[show(!(Builtin.Str.occurrences lets ⟨#[c]⟩ 0 lets.length 1).isEmpty)=Mt.ltB c from this,a2I,hc];simp
    .rintro ys H2 ⟨_,rfl,s2⟩ D' hD;have e:z.cps.toList.take z.cps.size=z.cps.toList:=a3f (by simp);rw[e];show⟨D',z.cps.toList.map Mt.ltB,Z,ag.of c_,?_⟩;rw[show(z.cps.toList.map Mt.ltB).all id=z.cps.toList.all Mt.ltB by simp[a4k]]
     have ef:Mt.eQ z=z.cps.toList.all Mt.ltB:=by
      have a1:1<=z.length:=by lia
      have a2:z.length<=8:=by lia
      simp[Mt.eQ,a1,a2]
     rw[<-ef];show k _ (D_ s2 (s2.free hD))
   .rw[decide_eq_false h2]
    have ef:Mt.eQ z=false:=by
     have a2:¬ z.length<=8:=by lia
     simp[Mt.eQ,a2]
    have:=k H (ae.refl _);rw[ef] at this;show aK this
  .rw[decide_eq_false h1]
   have ef:Mt.eQ z=false:=by
    have a1:¬ 1<=z.length:=by lia
    simp[Mt.eQ,a1]
   have:=k H (ae.refl _);rw[ef] at this;show aK ⟨false,Z,aK this⟩
def kT:Str:=Str.ofString "TEXT"
def kP:Str:=Str.ofString "P"
def kW:Str:=Str.ofString "W"
def kN:Str:=Str.ofString "N"
def kK:Str:=Str.ofString "K"
def kD:Str:=Str.ofString "D"
def Eo:List Str:=[kT,kP,kW,kN,kK,kD]
def uY:List (ax×V):=[(.inr kN,.int 30),(.inr kK,.int 30),(.inr kD,.int 4),(.inr kP,.int 2),(.inr kW,.int 2)]
def zr(t:Str):Int:=if t=kN\/t=kK then 30 else if t=kD then 4 else 2
def fk(t z:Str):Bool:=if t=kT then true else if t=kW then Mt.dC z 2 else Mt.bG z (zr t)
def MI:∀t∈Eo,t≠kT->b8 uY (.inr t)=some (.int (zr t)):=by decide
def kW2:zr kW=2:=by decide
def MJ:kW≠kT:=by decide
inductive zt(vs:List V)(H:Hp)(Q:VK)(aq:XK):Prop
 | mk:∀t z:Str,(vs=[.str t,.str z])->(t∈Eo)->(cg z)->(z.length<=1000)->(∀H',ae H H'->Q (.bl (fk t z)) H')->zt vs H Q aq
def sm_:aI ["thing","word"] ["thing","word"] (f_ BD):=⟨Z,Z,Z,by decide,Z,by decide,by decide⟩
def qT_(F:ay K "fits" "fits" BD f fd)(hM:∃a,mg "MOST_FIGURES"=some (.ref a)/\KD K P w a uY)(DW:ai P w K mg base 1 "is_written" ["text","most"] rn)(DS:ai P w K mg base 2 "is_written_with_sign" ["text","most"] uQ):av P w K mg base aE 3 f fd ["thing","word"] zt:=by
 obtain⟨ma,hM,kd⟩:=hM;show F.ok sm_ λak A outer s H vs Q E hr h=>?_
 .obtain⟨t,z,rfl,ht,bW,hl,k⟩:=h;show⟨_,b_ (C_ (r_ dW (pv 0) n_ (bx _)) (g_ (k_ ff)) q_) (b_ (C_ (r_ dW (pv 0) n_ (bx _)) (g_ (k_ (m_ DS hr (by rfl) (a_ (pv 1) (a_ (zo (U_ (v:=.ref ma) (by rfl) hM Z) (pv 0) (by intro _ _;rfl)) d_))))) q_) (g_ (k_ (m_ DW hr.mo (by rfl) (a_ (pv 1) (a_ (zo (U_ (v:=.ref ma) (by rfl) hM Z) (pv 0) (by intro _ _;rfl)) d_)))))),⟨_,Z,Z,_,Z,?_⟩⟩;by_cases h1:t=kT
  .subst h1;have e:V.str kT=V.str (Str.ofString "TEXT"):=rfl;rw[decide_eq_true e];have:=k H (ae.refl _);rw[show fk kT z=true from if_pos Z] at this;show bj this
  .have n1:¬ V.str t=V.str (Str.ofString "TEXT"):=λe=>h1 (by injection e);show (decide_eq_false n1)▸?_;show aK ⟨_,Z,Z,_,Z,?_⟩;by_cases h2:t=kW
   .subst h2;have e:V.str kW=V.str (Str.ofString "W"):=rfl;show (decide_eq_true e)▸?_;show bj ⟨_,Z,_,Z,ma,uY,.inr kW,_,Z,kd,Z,MI kW ht MJ,z,_,Z,bW,hl,?_⟩;show kW2▸?_;rwa [show fk kW z=Mt.dC z 2 from(if_neg MJ).trans (if_pos Z)] at k
   .have n2:¬ V.str t=V.str (Str.ofString "W"):=λe=>h2 (by injection e);show (decide_eq_false n2)▸?_;show aK ⟨_,Z,_,Z,ma,uY,.inr t,_,Z,kd,Z,MI t ht h1,z,_,Z,bW,hl,?_⟩;rwa [show fk t z=Mt.bG z (zr t) from(if_neg h1).trans (if_neg h2)] at k
end Hv
namespace Mt
open PySem PyProof.Rows
def fg(z:Str):List Nat:=if z.cps.toList.head?=some 45 then z.cps.toList.drop 1 else z.cps.toList
def val(l:List Nat):Nat:=l.foldl (λa d=>a*10+d) 0
theorem MK{p:Nat->Bool}:∀ {l:List Nat},(∀x∈l,p x=true)->l.takeWhile p=l
 | [],_=>rfl
 | a::r,h=>by rw[List.takeWhile_cons,if_pos (h a a2Y),MK λx hx=>h x<|a2G _ hx]
def rF_(h:dr c=true)(a:Array Nat)(b:Bool):NumText.step 10 (a,b) c=some (a.push (c-48),true):=by
 have h2:48<=c/\c<=57:=by simpa [dr] using h
 unfold NumText.step NumText.digit?;have n95:(c==95)=false:=by simp;lia
 rw[n95];simp only[a3B,if_false];have e:(decide _&&decide _)=true:=h;rw[if_pos e];simp only;rw[if_pos (by lia)]
theorem ML:∀ {cs:List Nat} {a:Array Nat} {b:Bool},(∀c∈cs,dr c=true)->List.foldlM (NumText.step 10) (a,b) cs=some ((cs.map (· - 48)).foldl Array.push a,b || !cs.isEmpty)
 | [],a,b,_=>by simp
 | c::r,a,b,h=>by
  rw[List.foldlM_cons,rF_ (h c a2Y)];change List.foldlM _ (a.push _,true) r=_;rw[ML λx hx=>h x<|a2G _ hx];simp
def MM:∀(l:List Nat) (a:Array Nat),(l.foldl Array.push a).toList=a.toList++l :=by simp
def nn_(h:∀c∈cs,dr c=true)(hn:cs≠[]):∃ds:Array Nat,NumText.digits? 10 cs=some ds/\ds.toList=cs.map (· - 48):=by
 show⟨_,?_,MM _ #[]⟩;unfold NumText.digits?;rw[ML h];have:cs.isEmpty=false:=by cases cs <;> simp at hn⊢
 simp[this]
def nb(h:dr c=true):NumText.blank c=false:=by
 have h2:48<=c/\c<=57:=by simpa [dr] using h
 simp[NumText.blank];lia
def nw_(h:∀c∈cs,dr c=true)(hn:cs≠[]):(List.dropWhile NumText.blank cs.reverse).reverse=cs:=by
 have:List.dropWhile NumText.blank cs.reverse=cs.reverse:=by
  cases e:cs.reverse with
  | nil=>simp at e;show absurd e hn
  | cons a r =>
   have ha:a∈cs:=by rw[<-List.mem_reverse,e];show a2Y
   rw[List.dropWhile_cons,nb (h a ha)];rfl
 rw[this,List.reverse_reverse]
def MN(hl:z.length<=4000)(hn:fg z≠[])(hd:∀c∈fg z,dr c=true):PySem.intText? z=some (if z.cps.toList.head?=some 45 then -((val ((fg z).map (· - 48)):Nat):Int) else ((val ((fg z).map (· - 48)):Nat):Int)):=by
 obtain⟨ds,e1,e2⟩:=nn_ hd hn
 have hsz:ds.size<=4300:=by
  rw[<-a3X,e2,a2x]
  have:(fg z).length<=z.length:=by
   rw[len_list];unfold fg;split;.rw[a3c];lia
   .lia
  lia
 have ev:Array.foldl (λacc d=>acc*10+d) 0 ds=val ((fg z).map (· - 48)):=by
  rw[<-Array.foldl_toList,e2];rfl
 have Ep:∀ {c:Nat},dr c=true->48<=c/\c<=57:=λh=>by simpa [dr] using h
 have dX:∀c∈z.cps.toList,c=45\/dr c=true:=λc hc=>by
  by_cases ig:z.cps.toList.head?=some 45
  .have hf:fg z=z.cps.toList.drop 1:=by unfold fg;rw[if_pos ig]
   cases ez:z.cps.toList with
   | nil=>rw[ez] at hc;simp at hc
   | cons a r =>
    rw[ez] at hc ig;simp at ig;rcases a2B.mp hc with rfl | hc;.show .inl ig
    .show .inr (hd c (by rw[hf,ez];show hc))
  .show .inr (hd c (by unfold fg;rw[if_neg ig];show hc))
 have MO:(z.cps.all λx=>decide (x<128))=true:=by
  rw[<-Array.all_toList,a2K];intro c hc;rcases dX c hc with h | h;.show decide_eq_true (by lia)
  .have:=Ep h;show decide_eq_true (by lia)
 have a0b:numSeenOf z=z.cps.toList:=by
  change List.takeWhile _ (if (z.cps.all λx=>decide (x<128))=true then z.cps.toList else _)=_;rw[if_pos MO];show MK λc hc=>?_;rcases dX c hc with h | h;.simp;lia
  .have:=Ep h;simp;lia
 have a0c:numTextOf z=z.cps.toList:=by
  change(if (z.cps.all λx=>decide (x<128))=true then z.cps.toList else _)=_;rw[if_pos MO]
 have a0d:List.dropWhile NumText.blank z.cps.toList=z.cps.toList:=by
  cases ez:z.cps.toList with
  | nil=>rfl
  | cons a r =>
   have:NumText.blank a=false:=by
    rcases dX a (by rw[ez];show a2Y) with h | h;.subst h;rfl
    .show nb h
   rw[List.dropWhile_cons,this];rfl
 have a0e:NumText.sign z.cps.toList=(decide (z.cps.toList.head?=some 45),fg z):=by
  unfold fg
  cases ez:z.cps.toList with
  | nil=>rfl
  | cons a r =>
   by_cases ig:a=45;.subst ig;rfl
   .have h43:a≠43:=by
     rcases dX a (by rw[ez];show a2Y) with h | h;.show absurd h ig
     .have:=Ep h;lia
    have:NumText.sign (a::r)=(false,a::r):=by
     unfold NumText.sign;split;.rename_i q;injection q with q1 _;show absurd q1 ig
     .rename_i q;injection q with q1 _;show absurd q1 h43
     .rfl
    rw[this];simp[ig]
 unfold PySem.intText?;rw[a0c,a0b];unfold NumText.core;rw[a0d,a0e];simp only[beq_self_eq_true,if_true,nw_ hd hn,e1,if_pos hsz];unfold NumText.worth;rw[ev];by_cases ig:z.cps.toList.head?=some 45;.simp[ig]
 .simp[ig]
end Mt
namespace L2
open PySem PySem.Spec PyProof.Rows
end L2
namespace Mt
open PySem PyProof.Rows
abbrev a2s:Str:=Str.ofString "0123456789"
end Mt
namespace PySem
open Builtin Builtin.Str
def lL(x y:Str)(k:Int):List Str := if (decide (x.length<y.length) || decide (Builtin.Str.strKind x<Builtin.Str.strKind y))=true then [x] else if (occurrences x y 0 x.length (limitOf x k)).isEmpty=true then [x] else partsBetween x (occurrences x y 0 x.length (limitOf x k)) y.length
def cd_(x y:Str)(k:Int)(t u v:Tok)(hk:(decide (k < -(2 ^ 63:Int)) || decide (k>=2 ^ 63))=false) (h1:(decide (x.length<y.length) || decide (Builtin.Str.strKind x<Builtin.Str.strKind y))=true):Meets («str.split» ⟨[.str x t,.str y u,.int k v],[]⟩) (λA R s=>listOfItself x t A R s):=by
 obtain⟨a0f,Er⟩:=split_sep_max_tree x y k t u v hk;show .of_wp λprog w A R s h=>?_;rw[Er,h1];show wpAny_bind<|wpAny_rule<|wpAny_bind<|wpAny_newList (wpAny_pure ⟨_,Z,h⟩)<|by change 1<=sizeLine;decide
def bW_(x y:Str)(k:Int)(t u v:Tok)(hk:(decide (k < -(2 ^ 63:Int)) || decide (k>=2 ^ 63))=false) (h1:(decide (x.length<y.length) || decide (Builtin.Str.strKind x<Builtin.Str.strKind y))=false) (hy:(y.length==0)=false) (hf:(occurrences x y 0 x.length (limitOf x k)).isEmpty=true) : Meets («str.split» ⟨[.str x t,.str y u,.int k v],[]⟩) (λA R s=>listOfItself x t A R s):=by
 obtain⟨a0f,Er⟩:=split_sep_max_tree x y k t u v hk;show .of_wp λprog w A R s h=>?_;rw[Er,h1,hy,hf];show wpAny_bind<|wpAny_rule<|wpAny_bind<|wpAny_newList (wpAny_pure ⟨_,Z,h⟩)<|by change 1<=sizeLine;decide
end PySem
namespace L2
open PySem PySem.Spec PyProof.Rows
inductive MP(x:V)(vs:List V)(H:Hp)(Q:VK):Prop
 | mk:∀(a b:Str) (k:Int),(x=.str a)->(vs=[.str b,.int k])->((decide (k < -(2 ^ 63:Int)) || decide (k>=2 ^ 63))=false)->((b.length==0)=false)->(a.length<=sizeLine)->((lL a b k).length<=sizeLine)->(∀l,H l=none->Q (.ref l) (ad H l (.lst ((lL a b k).map V.str))))->MP x vs H Q
def mD_:so X "str.split" MP:=by
 intro aa s σ H x vs v us Q I rx rv h;obtain⟨a,b,k,rfl,rfl,hk,hb,hz,gJ,q⟩:=h;obtain⟨t,rfl⟩:=rx
 cases rv with
 | cons ru rv2 =>
 obtain⟨u2,rfl,ru2⟩:=(show az [V.int k] _ from rv2).one;obtain⟨t',rfl⟩:=ru;obtain⟨t2,rfl⟩:=ru2
 have fin:∀ l   k'   n ,l.map (·.1)=lL a b k->EP X aa σ Q _ {s with heap:=s.heap.push {cls:=.type "list",data:=.seq (strValues l).toArray n},toks:=k'}:=λl k' n hl=>by
  show⟨.ref _,_,I.laid (o:=.lst _) (λb ob q=>a2y _ q) (a2D _) ⟨by rw[a2x];show gJ,strValues l,n,?_,a2F _ Z⟩,Z,q _<|I.am.fresh<|a2D _⟩;rw[<-hl];show Df l
 have args:=F.args_str_split_3 (.str a t) (.str b t') (.int k t2)
 cases ib:(decide (a.length<b.length) || decide (Builtin.Str.strKind a<Builtin.Str.strKind b)) with
 | true=>show call_meets F.slot_str_split (typeIs_str _ _ _) F.entry_str_split args (cd_ a b k t t' t2 hk ib)<|fin [(a,t)] _ 0 (if_pos ib).symm
 | false =>
  cases none:(Builtin.Str.occurrences a b 0 _<|limitOf a k).isEmpty with
  | true=>show call_meets F.slot_str_split (typeIs_str _ _ _) F.entry_str_split args (bW_ a b k t t' t2 hk ib hb none)<|fin [(a,t)] _ 0 ((if_neg (ne_true_of_eq_false ib)).trans<|if_pos none).symm
  | false =>
   have e:lL a b k=Builtin.Str.partsBetween a _ _:=(if_neg<|ne_true_of_eq_false ib).trans (if_neg<|ne_true_of_eq_false none);show call_meets F.slot_str_split (typeIs_str _ _ _) F.entry_str_split args (meets_str_split_sep_max a b k t t' t2 hk ib hb none hz<|by rw[<-e];show gJ) ?_;rw[strsFrom_eq];show fin _ _ 0<|(numbered_texts _ _).trans e.symm
end L2
namespace Mt
open PySem
def lR_:∀ {ps:List Str},Str.join (one c) ps=z->p∈ps->(∀d∈p.cps.toList,d∈z.cps.toList)/\p.length<=z.length:=λ{ps} e hp=>by
 have aL:∀ ps ,p∈ps->(∀d∈p.cps.toList,d∈(Str.join (one c) ps).cps.toList)/\p.cps.toList.length<=(Str.join _ ps).cps.toList.length:=λps=>by
  induction ps with
  | nil=>intro h;simp at h
  | cons a r ih =>
   intro hp
   cases r with
   | nil =>
    rw[a2Z.mp hp]
    have e1:(Str.join (one c) [a])=a:=by
     have:=StrLaws.glued_eq_join (one c) [a];rfl
    show⟨λd hd=>hd,a2D _⟩
   | cons b r =>
    rw[ko];rcases a2B.mp hp with rfl | hp;.show⟨λd hd=>a3Q _ hd,by simp⟩
    .have:=ih hp;show⟨λd hd=>a3b _<|a2G _<|this.1 d hd,by rw[a2O,a2P];lia⟩
 have:=aL ps hp;rw[e] at this;show⟨this.1,by show this.2⟩
def hV_(e:Str.join (one c) ps=z):ps.length<=z.length+1:=by
 have aL:∀ps:List Str,ps.length<=(Str.join (one c) ps).cps.toList.length+1:=λps=>by
  induction ps with
  | nil=>simp
  | cons a r ih =>
   cases r with
   | nil=>simp
   | cons b r =>
    rw[ko,a2O,a2P];simp only[a2P] at ih⊢;lia
 have:=aL ps;rw[e,<-len_list] at this;show this
def oL_(z:Str)(c:Nat)(k:Int):Str.join (one c) (lL z (one c) k)=z:=by
 rw[<-StrLaws.glued_eq_join];unfold lL;split;.rfl
 .split;.rfl
  .show StrLaws.glued_between_self _ _ _
def MQ:Str:=Str.ofString "frame "
def ba(z:Str):List Str:=if Txt.startswith z MQ=true then lL z (one 32) 2 else Txt.split z (one 32)
def zu(z:Str):Str.join (one 32) (ba z)=z:=by
 unfold ba;split;.show oL_ z 32 2
 .show StrLaws.join_split _ _
def zx(h:p∈ba z):(∀d∈p.cps.toList,d∈z.cps.toList)/\p.length<=z.length:=lR_ (zu z) h
def MR(z:Str):(ba z).length<=z.length+1:=hV_ (zu z)
def mS:Str.ofString " "=one 32:=by decide
end Mt
namespace Hv
open PySem L2
inductive uZ(vs:List V)(H:Hp)(Q:VK)(aq:XK):Prop
 | mk:∀z:Str,(vs=[.str z])->(z.length<=1000)->(∀l,H l=none->Q (.ref l) (ad H l (.lst ((Mt.ba z).map V.str))))->uZ vs H Q aq
def a0g:aI ["row"] ["row"] (f_ BE):=⟨Z,Z,Z,by decide,Z,by decide,by decide⟩
def a0h{p q:Prop}(e:b=true)(h:p):(if b=true then p else q):=by simp_all
def a0i{p q:Prop}(e:b=false)(h:q):(if b=true then p else q):=by simp_all
def sN_(F:ay K "words_of" "words_of" BE f fd):av P w K mg base aE 1 f fd ["row"] uZ:=by
 show F.ok a0g λak A outer s H vs Q E hr h=>?_
 .obtain⟨z,rfl,hl,k⟩:=h;have hz:z.length<=sizeLine:=a2U hl (by decide);have hm:=Mt.MR z;have iP:(Mt.ba z).length<=sizeLine:=a2U hm (a2U (Nat.succ_le_succ hl)<|by decide);show⟨_,g_<|k_<|vI (L_<|dh PySem.F.plainAttrs_str PySem.F.slot_str_startswith PySem.F.type_str_startswith LJ (pv 0)<|a_ n_ d_) (dh PySem.F.plainAttrs_str PySem.F.slot_str_split PySem.F.type_str_split mD_ (pv 0)<|a_ n_<|a_ h_ d_) <|dh PySem.F.plainAttrs_str PySem.F.slot_str_split PySem.F.type_str_split rh (pv 0)<|a_ n_ d_,⟨_,Z,Z,_,_,Z,Z,_,Z,?_⟩⟩
  cases hs:Txt.startswith z Mt.MQ with
  | true =>
   have e:Mt.ba z=lL z _ 2:=if_pos hs;rw[e] at k iP;show a0h hs ⟨_,Z,Z,_,_,_,Z,Z,by decide,by decide,hz,?_,?_⟩;.show iP
   .show k
  | false =>
   have e:Mt.ba z=Txt.split z _:=if_neg (ne_true_of_eq_false hs);rw[e] at k iP;show a0i hs ⟨_,Z,Z,_,_,Z,Z,by decide,hz,?_,?_⟩;.show iP
   .show k
def pD:V->Str
 | .int n=>Mt.txt n
 | _=>Str.ofString "none"
inductive zy(vs:List V)(H:Hp)(Q:VK)(aq:XK):Prop
 | mk:∀v,(vs=[v])->((v=.au\/∃n:Int,v=.int n/\0<=n/\n<10 ^ 30))->(Q (.str (pD v)) H)->zy vs H Q aq
def a0j:aI ["number"] ["number"] (f_ BF):=⟨Z,Z,Z,by decide,Z,by decide,by decide⟩
def sQ_(F:ay K "number_or_none" "number_or_none" BF f fd)(hS:mg "str"=none):av P w K mg base aE 1 f fd ["number"] zy:=by
 show F.ok a0j λak A outer s H vs Q E hr h=>?_
 .obtain⟨v,rfl,hv,k⟩:=h;show⟨_,g_<|k_<|vI (r_ AA (pv 0) iu<|bx _) n_<|G_ S_ (by rfl) hS boot_str<|a_ (pv 0) d_,⟨_,Z,Z,_,Z,?_⟩⟩;rcases hv with rfl | ⟨n,rfl,h0,h1⟩;.show bj k
  .show aK ⟨_,Z,n,Z,?_,?_⟩
   .by_cases hz:n.natAbs=0;.rw[hz];decide
    .show a2L ((a5T hz).mpr (show n.natAbs<2 ^ 100 by lia))<|by decide
   .show k
end Hv
namespace L2
open PySem PySem.Spec PyProof.Rows
def Et(x:IsTupIter h a t i)(e:∀o,h.get? a=some o->h'.get? a=some o):IsTupIter h' a t i:=let ⟨o,ho,r⟩:=x;⟨o,e _ ho,r⟩
def qY_(bS:IsTupIter s.heap it t i)(ht:IsTup s.heap t items)(hx:items[i]?=some x) (hQ:∀h',IsTupIter h' it t (i+1)->Heap.SameBut it s.heap h'->Q x {s with heap:=h'}):wpAny (model prog w) A (Builtin.SmallTypes.nextOf (.ref it)) Q E s:=by
 obtain⟨o,ho,hc,hd⟩:=id bS;obtain⟨u,hu,_,n,du⟩:=ht;show wpAny_bind<|wpAny_callSpecial?_slot bS.typeIs slot_tupleiter_next<|wpAny_call_entry slot_tupleiter_next bS.typeIs entry_tupleiter_next (wpAny_bind (m:=field (.ref it) 0) (wpAny_field ho hd (x:=.ref t) Z ?_))<|args_tupleiter_next _;show wpAny_bind<|wpAny_field ho hd Z (wpAny_bind (m:=seqItems? (.ref t)) (wpAny_seqItems hu du ?_));simp only[a5e,hx];show wpAny_bind<|wpAny_setField ho hd (by simp)<|wpAny_pure ⟨x,Z,wpAny_pure<|hQ _ ⟨_,a3Y _ ho<|Obj.isFreed_of_fields<|Obj.data_mapFields hd _,(Obj.cls_mapFields ..).trans hc,?_⟩<|a5I ..⟩;rw[Obj.data_mapFields hd];simp[rawInt]
def ko_(hh:A.handled=none)(bS:IsTupIter s.heap it t i)(ht:IsTup s.heap t items)(hx:items[i]?=none) (hE:∀h' e,Heap.ExtBut it s.heap h'->(∃o,h'.get? e=some o/\o.cls=.type "StopIteration")->E (.ref e) {s with heap:=h'}):wpAny (model prog w) A (Builtin.SmallTypes.nextOf (.ref it)) Q E s:=by
 obtain⟨o,ho,hc,hd⟩:=id bS;obtain⟨u,hu,_,n,du⟩:=ht;show wpAny_bind<|wpAny_callSpecial?_slot bS.typeIs slot_tupleiter_next<|wpAny_call_entry slot_tupleiter_next bS.typeIs entry_tupleiter_next (wpAny_bind (m:=field (.ref it) 0) (wpAny_field ho hd (x:=.ref t) Z ?_))<|args_tupleiter_next _;show wpAny_bind<|wpAny_field ho hd Z (wpAny_bind (m:=seqItems? (.ref t)) (wpAny_seqItems hu du ?_));simp only[a5e,hx];show wpAny_bind<|wpAny_rule<|wpAny_bind<|wpAny_setField ho hd (by simp) (wpAny_bind (m:=newExc (.type "StopIteration") []) ?_);show wpAny_bind<|wpAny_newObj_type (wpAny_bind (m:=firstArgMember _ _) (wpAny_of_eq (a:=Value.none) (by first | rfl | (simp only[firstArgMember];rfl)) ?_))<|by size_fits
 show wpAny_newObj_type ?_<|by size_fits
 show wpAny_bind<|wpAny_handled ?_;first | grind | rw[hh]
 show wpAny_bind<|wpAny_pure<|wpAny_throw (hE _ _ (((a5I ..).extBut.push _).push _) ⟨_,a2F _ Z,Z⟩)
def kq_{z TI TO i1 i2 l1 l2:Addr}{Q:Value->Shared->Prop}(D:ZipApart z TI TO i1 i2 l1 l2) (hz:IsZip s.heap z TI TO .none) (gj:IsPair s.heap TI (.ref i1) (.ref i2)) (kh:IsPair s.heap TO a b) (h1:IsTupIter s.heap i1 l1 k) (h2:s.heap.IsListIter i2 l2 k) (bY:IsTup s.heap l1 xs) (aS:s.heap.IsList l2 ys) (hx:xs[k]?=some x) (hy:ys[k]?=some y) (hQ:∀h',IsZip h' z TI TO (rawInt s.heap.objs.size)->IsPair h' TO x y->IsTupIter h' i1 l1 (k+1)->h'.IsListIter i2 l2 (k+1)->IsPair h' s.heap.objs.size x y-> (∀c o,c∉[z,TO,i1,i2]->s.heap.get? c=some o->h'.get? c=some o)->Q (.ref s.heap.objs.size) {s with heap:=h'}) : wpAny (model prog w) A (Builtin.«zip.__next__» ⟨[.ref z],[]⟩) (λfin s'=>∃v,fin=.done (.ret v)/\Q v s') E s:=by
 show wpAny_bind (m:=field (.ref z) 2) (wpAny_field hz Z (x:=.bool false) Z (wpAny_bind (m:=field (.ref z) 3) (wpAny_field hz Z (x:=.ref TI) Z ?_)));show wpAny_bind (wpAny_seqItems gj Z (wpAny_bind (m:=Builtin.SmallTypes.ownedTupleIsFree (.ref z)) ?_));show wpAny_bind (wpAny_field hz Z Z (wpAny_pure ?_));show wpAny_bind (wpAny_rule (wpAny_bind (wpAny_field hz Z Z (wpAny_bind (wpAny_setField_rec hz (by simp) λH1 z1 s1=>?_)))));replace z1:IsZip H1 z TI TO .ellipsis:=z1;show wpAny_bind ?_;show wpAny_bind (wpAny_bind (wpAny_onRaise (wpAny_bind (m:=Builtin.SmallTypes.nextOf (.ref i1)) (qY_ (h1.extBut s1.extBut D.i1z) (bY.extBut s1.extBut D.l1z) hx λH2 q2 s2=>wpAny_pure ?_))));have t2:IsPair H2 TO a b:=s2.extBut _ _ D.TOi1 (s1.extBut _ _ D.TOz kh);show wpAny_bind (wpAny_seqItems t2 Z (wpAny_bind (wpAny_updateSeq_pair t2 λH3 t3 s3=>?_)));replace t3:IsPair H3 TO x b:=t3;show wpAny_bind (wpAny_letGo (wpAny_pure (wpAny_bind (wpAny_bind (wpAny_onRaise ?_)))));have oV:∀c o,c≠z->c≠TO->c≠i1->s.heap.get? c=some o->H3.get? c=some o:=λc o c1 c2 c3 e=>s3.extBut _ _ c2 (s2.extBut _ _ c3 (s1.extBut _ _ c1 e));show wpAny_bind (wpAny_nextOf_list_item (h2.at λo e=>oV _ o D.i2z (Ne.symm D.TOi2) (Ne.symm D.i12) e) (Heap.IsList.at aS λo e=>oV _ o D.l2z D.l2TO D.l2i1 e) hy λH4 q4 s4=>wpAny_pure ?_);have t4:IsPair H4 TO x b:=s4.extBut _ _ D.TOi2 t3;show wpAny_bind (wpAny_seqItems t4 Z (wpAny_bind (wpAny_updateSeq_pair t4 λH5 t5 s5=>?_)));replace t5:IsPair H5 TO x y:=t5;show wpAny_bind (wpAny_letGo (wpAny_pure (wpAny_pure (wpAny_bind (wpAny_seqItems t5 Z (wpAny_bind (wpAny_newTuple ?_)))))));have hsz:H5.objs.size=s.heap.objs.size:=by rw[s5.1,s4.1,s3.1,s2.1,s1.1]
 have z5:IsZip H5 z TI TO .ellipsis:=s5.extBut _ _ (Ne.symm D.TOz) (s4.extBut _ _ (Ne.symm D.i2z) (s3.extBut _ _ (Ne.symm D.TOz) (s2.extBut _ _ (Ne.symm D.i1z) z1)))
 have um:∀c o,c∉[z,TO,i1,i2]->s.heap.get? c=some o->H5.get? c=some o:=λc o hc e=>by
  simp only[a2B,a2Q,or_false,not_or] at hc;obtain⟨c1,c2,c3,c4⟩:=hc;show s5.extBut _ _ c2 (s4.extBut _ _ c4 (oV c o c1 c2 c3 e))
 have r1:IsTupIter H5 i1 l1 (k+1):=Et q2 λo e=>s5.extBut _ _ (Ne.symm D.TOi1) (s4.extBut _ _ D.i12 (s3.extBut _ _ (Ne.symm D.TOi1) e));have r2:H5.IsListIter i2 l2 (k+1):=q4.at λo e=>s5.extBut _ _ (Ne.symm D.TOi2) e;have uo:z<H5.objs.size:=a2C z5;show wpAny_bind ?_;have z6:IsZip (H5.push {cls:=.type "tuple",data:=.seq #[x,y]}) z TI TO .ellipsis:=a2y _ z5;show wpAny_bind (wpAny_setField_rec z6 (by simp) λH6 w6 s6=>?_);replace w6:IsZip H6 z TI TO (rawInt H5.objs.size):=w6;show wpAny_setField_rec w6 (by simp) λH7 w7 s7=>?_;replace w7:IsZip H7 z TI TO (rawInt H5.objs.size):=w7;have up:∀c o,c≠z->H5.get? c=some o->H7.get? c=some o:=λc o c1 e=>s7.extBut _ _ c1 (s6.extBut _ _ c1 (a2y _ e));have t7:IsPair H7 H5.objs.size x y:=s7.extBut _ _ (a3u uo) (s6.extBut _ _ (a3u uo) (a2F _ Z));rw[hsz] at w7 t7;show wpAny_pure ⟨_,Z,?_⟩;change Q (.ref H5.objs.size) _;rw[hsz];show hQ H7 w7 (up _ _ D.TOz t5) (Et r1 λo e=>up _ o D.i1z e) (r2.at λo e=>up _ o D.i2z e) t7 λc o hc e=>up c o (λq=>hc (by simp[q])) (um c o hc e)
def mx_{z TI TO i1 i2 l1 l2:Addr}{a b:Value}(hh:A.handled=none)(D:ZipApart z TI TO i1 i2 l1 l2) (hz:IsZip s.heap z TI TO .none) (gj:IsPair s.heap TI (.ref i1) (.ref i2)) (h1:IsTupIter s.heap i1 l1 k) (bY:IsTup s.heap l1 xs) (ki:xs[k]?=none) (hE:∀h' e,(∀c o,c∉[z,TO,i1,i2]->s.heap.get? c=some o->h'.get? c=some o)->(∃o,h'.get? e=some o/\o.cls=.type "StopIteration")->E (.ref e) {s with heap:=h'}) : wpAny (model prog w) A (Builtin.«zip.__next__» ⟨[.ref z],[]⟩) Q E s:=by
 show wpAny_bind (m:=field _ 2)<|wpAny_field hz Z (x:=.bool _) Z (wpAny_bind (m:=field (.ref z) 3) (wpAny_field hz Z (x:=.ref TI) Z ?_));show wpAny_bind<|wpAny_seqItems gj Z (wpAny_bind (m:=Builtin.SmallTypes.ownedTupleIsFree (.ref z)) ?_);show wpAny_bind<|wpAny_field hz Z Z<|wpAny_pure ?_;show wpAny_bind<|wpAny_rule<|wpAny_bind<|wpAny_field hz Z Z (wpAny_bind (wpAny_setField_rec hz (by simp) λH1 z1 s1=>?_));show wpAny_bind ?_;show wpAny_bind<|wpAny_bind<|wpAny_onRaise (wpAny_bind (m:=Builtin.SmallTypes.nextOf (.ref i1)) (ko_ hh (h1.extBut s1.extBut D.i1z) (bY.extBut s1.extBut D.l1z) ki λH2 e s2 he=>?_));obtain⟨oe,oX,uq⟩:=he;have z2:=s2 _ _ (Ne.symm D.i1z) z1;have CA:e≠z:=λx=>by grind
 show wpAny_setField_rec z2 (by simp) λH3 _ s3=>hE H3 e (λc o hc x=>?_) ⟨oe,s3.extBut _ _ CA oX,uq⟩;simp only[a2B,a2Q,or_false,not_or] at hc;show s3.extBut _ _ hc.1<|s2 _ _ hc.2.2.1<|s1.extBut _ _ hc.1 x
def gC_{z TI TO i1 i2 l1 l2:Addr}(D:ZipApart z TI TO i1 i2 l1 l2) (hz:IsZip s.heap z TI TO .none) (gj:IsPair s.heap TI (.ref i1) (.ref i2)) (kh:IsPair s.heap TO a b) (h1:IsTupIter s.heap i1 l1 k) (h2:s.heap.IsListIter i2 l2 k) (bY:IsTup s.heap l1 xs) (aS:s.heap.IsList l2 ys) (hx:xs[k]?=some x) (hy:ys[k]?=some y) (hQ:∀h',IsZip h' z TI TO (rawInt s.heap.objs.size)->IsPair h' TO x y->IsTupIter h' i1 l1 (k+1)->h'.IsListIter i2 l2 (k+1)->IsPair h' s.heap.objs.size x y-> (∀c o,c∉[z,TO,i1,i2]->s.heap.get? c=some o->h'.get? c=some o)->Q (some (.ref s.heap.objs.size)) {s with heap:=h'}) : wpAny (model prog w) A (pyNext (.ref z)) Q E s:=by
 have hT:s.TypeIs (.ref z) "zip":=⟨_,hz,Z⟩;show wpAny_bind<|wpAny_attempt<|wpAny_callSpecial?_slot hT F.slot_zip_next<|wpAny_call_entry F.slot_zip_next hT F.entry_zip_next (kq_ D hz gj kh h1 h2 bY aS hx hy λh' a1 a2 a3 a4 a5 a6=>wpAny_pure<|hQ h' a1 a2 a3 a4 a5 a6)<|F.args_zip_next_1 _
def hS_{z TI TO i1 i2 l1 l2:Addr}(hh:A.handled=none)(D:ZipApart z TI TO i1 i2 l1 l2) (hz:IsZip s.heap z TI TO .none) (gj:IsPair s.heap TI (.ref i1) (.ref i2)) (h1:IsTupIter s.heap i1 l1 k) (bY:IsTup s.heap l1 xs) (ki:xs[k]?=none) (hQ:∀h',(∀c o,c∉[z,TO,i1,i2]->s.heap.get? c=some o->h'.get? c=some o)->Q none {s with heap:=h'}):wpAny (model prog w) A (pyNext (.ref z)) Q E s:=by
 have hT:s.TypeIs (.ref z) "zip":=⟨_,hz,Z⟩;show wpAny_bind<|wpAny_attempt<|wpAny_callSpecial?_slot hT F.slot_zip_next<|wpAny_call_entry F.slot_zip_next hT F.entry_zip_next (mx_ (a:=.none) (b:=.none) hh D hz gj h1 bY ki λh' e hk he=>?_)<|F.args_zip_next_1 _;obtain⟨o,ho,hc⟩:=he;show wpAny_bind<|wpAny_isInstance ⟨o,ho,hc⟩ isSubtype_stop<|wpAny_pure<|hQ _ hk
abbrev zA(h:Heap)(l1:Addr):Heap:=h.push {cls:=.type "tuple_iterator",data:=.fields #[.ref l1,.int 0 0]}
abbrev zB(h:Heap)(l1 l2:Addr):Heap:=(zA h l1).push {cls:=.type "list_iterator",data:=.fields #[.ref l2,.int 0 0]}
abbrev zC(h:Heap)(l1 l2:Addr):Heap:=(zB h l1 l2).push {cls:=.type "tuple",data:=.seq #[.ref h.objs.size,.ref (zA h l1).objs.size]}
abbrev zD(h:Heap)(l1 l2:Addr):Heap:=(zC h l1 l2).push {cls:=.type "tuple",data:=.seq #[.none,.none]}
abbrev rA(h:Heap)(l1 l2:Addr):Heap:=(zD h l1 l2).push {cls:=.type "zip",data:=.fields #[.none,.bool false,.bool false,.ref (zB h l1 l2).objs.size,.ref (zC h l1 l2).objs.size]}
def ku_(l1 l2:Addr)(xs ys:Array Value) : Meets (Builtin.«zip.__new__» ⟨[.type "zip",.ref l1,.ref l2],[]⟩) (λ_ R s=>IsTup s.heap l1 xs/\s.heap.IsList l2 ys/\R (.ok (.ret (.ref (zD s.heap l1 l2).objs.size))) {s with heap:=rA s.heap l1 l2}) :=
 .of_wp λprog w A R s h=>by
  obtain⟨hp,g,d,tk,os⟩:=s;obtain⟨bY,aS,h⟩:=h;have tZ:=sub_zip;have CB:=bY;have CC:Heap.IsList (Shared.heap ⟨hp.push {cls:=.type "tuple_iterator",data:=.fields #[.ref l1,.int 0 0]},g,d,tk,os⟩) l2 ys:=a5t aS _;wp_walk using iter_tuple CB,wpAny_pyIter_list CC;show⟨_,Z,h⟩
section
variable{s:Shared}
def nB_(bY:IsTup s.heap l1 xs)(aS:s.heap.IsList l2 ys) (h:∀h',IsZip h' (s.heap.objs.size+4) (s.heap.objs.size+2) (s.heap.objs.size+3) .none->IsPair h' (s.heap.objs.size+2) (.ref s.heap.objs.size) (.ref (s.heap.objs.size+1))-> IsPair h' (s.heap.objs.size+3) .none .none->IsTupIter h' s.heap.objs.size l1 0->h'.IsListIter (s.heap.objs.size+1) l2 0->(∀c o,s.heap.get? c=some o->h'.get? c=some o)->Q (.ref (s.heap.objs.size+4)) {s with heap:=h'}) : wpAny (model prog w) A (call (.type "zip") [.ref l1,.ref l2]) Q E s:=by
 show callType_new F.called_zip (by decide) (F.typeCall_zip_2 _ _) (F.newCall_zip_2 _ _) (λobj=>F.args_object_init_3 obj _ _) F.entry_zip_new (ku_ l1 l2 xs ys) ⟨bY,aS,?_⟩;have e1:(zA _ l1).objs.size=s.heap.objs.size+1:=a3h ..;have e2:(zB s.heap l1 l2).objs.size=s.heap.objs.size+2:=by rw[a3h,e1]
 have e3:(zC s.heap l1 l2).objs.size=s.heap.objs.size+3:=by rw[a3h,e2]
 have e4:(zD s.heap l1 l2).objs.size=s.heap.objs.size+4:=by rw[a3h,e3]
 have up {h:Heap} {o:Obj} {c:Addr} {u:Obj}:h.get? c=some u->(h.push o).get? c=some u:=a2y _;have g5:(rA _ l1 l2).get? (zD s.heap l1 l2).objs.size=some _:=a2F _ Z;have g4:(rA _ l1 l2).get? (zC s.heap l1 l2).objs.size=some _:=up (a2F _ Z);have g3:(rA _ l1 l2).get? (zB s.heap l1 l2).objs.size=some _:=up (up<|a2F _ Z);have g2:(rA _ l1 l2).get? (zA s.heap l1).objs.size=some _:=up (up<|up<|a2F _ Z);have g1:(rA s.heap l1 l2).get? s.heap.objs.size=some _:=up (up<|up<|up<|a2F _ Z);rw[e2,e3,e4] at g5;rw[e1,e2] at g3;rw[e3] at g4;rw[e1] at g2;rw[e4];show⟨⟨_,g5,Z⟩,h _ g5 g3 g4 ⟨_,g1,Z,Z⟩ ⟨_,g2,Z,Z⟩ λc o x=>up<|up<|up<|up<|up x⟩
end
def vb(K:PySem.W.Frag)(a b:Addr):It := ⟨λi H=>∃xs ys x y,aP K H a xs/\ag K H b ys/\xs[i]?=some x/\ys[i]?=some y, λi H v H'=>∃t x y,v=.ref t/\H t=none/\(∀xs,aP K H a xs->xs[i]?=some x)/\(∀ys,ag K H b ys->ys[i]?=some y)/\H'=ad H t (.tup [x,y]), λi H=>∃xs,aP K H a xs/\xs.length<=i⟩
def kY_{K:PySem.W.Frag}(a b z TI TO i1 i2:Addr)(D:ZipApart z TI TO i1 i2 a b):jQ P w K (.Tuple elts x1 pos) (vb K a b) [z,TI,TO,i1,i2] z (λi h=>IsZip h z TI TO .none/\IsPair h TI (.ref i1) (.ref i2)/\(∃u v,IsPair h TO u v)/\IsTupIter h i1 a i/\h.IsListIter i2 b i) where
 mem:=by simp
 obj:=λi h st e hb=>by
  obtain⟨h1,h2,⟨u,v,h3⟩,⟨o4,h4,_,d4⟩,⟨o5,h5,_,d5⟩⟩:=st;simp only[a2B,a2Q,or_false] at hb;rcases hb with rfl | rfl | rfl | rfl | rfl;.simp_all
  .simp_all
  .simp_all
  .simp_all
  .show⟨o5,h5,λv z=>by rw[d5] at z;cases z⟩
 keep:=λi h h' st k=>by
  obtain⟨h1,h2,⟨u,v,h3⟩,h4,h5⟩:=st;show⟨k z (by simp) _ h1,k TI (by simp) _ h2,⟨u,v,k TO (by simp) _ h3⟩,Et h4 λo q=>k i1 (by simp) o q,h5.at λo q=>k i2 (by simp) o q⟩
 item:=by
  intro X hP hw hK hc i aa s σ H E I hf st hg;subst hP hw hK;obtain⟨h1,h2,⟨u0,v0,h3⟩,h4,h5⟩:=st;obtain⟨xs,ys,x,y,ek,fR,hx,hy⟩:=hg;obtain⟨af,rv,p,hz⟩:=I.tuple ek;obtain⟨qr,cR,p',mn⟩:=I.list fR;obtain⟨u,hu,ru⟩:=rv.get hx;obtain⟨v,hv,mq⟩:=cR.get hy;have e1:=a2C h1
  have sJ:∀e∈[z,TI,TO,i1,i2],∃o,s.heap.get? e=some o:=λe hb=>by
   obtain⟨o4,q4,_⟩:=h4;obtain⟨o5,q5,_⟩:=h5;simp only[a2B,a2Q,or_false] at hb;rcases hb with rfl | rfl | rfl | rfl | rfl;.show⟨_,h1⟩
   .show⟨_,h2⟩
   .show⟨_,h3⟩
   .show⟨_,q4⟩
   .show⟨_,q5⟩
  show gC_ D h1 h2 h3 h4 h5 p p'.isList (by simpa using hu) (by simpa using hv) λh' g1 g2 g3 g4 g5 g7=>⟨_,Z,(wpAny_letOwnedTupleGo_zip g1 λgF g8 g9=>?_)⟩
  have kk:∀e o,e∉[z,TI,TO,i1,i2]->s.heap.get? e=some o->gF.get? e=some o:=λe o hb q=>by
   simp only[a2B,a2Q,or_false,not_or] at hb;show g9.extBut e o hb.1 (g7 e o (by simp only[a2B,a2Q,or_false,not_or];show⟨hb.1,hb.2.2.1,hb.2.2.2.1,hb.2.2.2.2⟩) q)
  have tT:=g9.extBut _ _ (a3u e1) g5;have I1:=I.A4 (t':=s.toks) (o:=.tup [x,y]) kk hf (a2D _) ⟨by change 2<=sizeLine;decide,[u,v],.cons ru (.cons mq .nil),⟨_,tT,Z,_,Z⟩⟩;have hn:=I.am.fresh (a2D _);show⟨.ref s.heap.objs.size,_,I1,Z,⟨_,x,y,Z,hn,λzs di=>by rw[I.Qt di ek];show hx,λzs di=>by rw[I.nD di fR];show hy,Z⟩,⟨g8,?_,⟨u,v,?_⟩,?_,?_⟩,λe hb=>?_⟩;.show g9.extBut _ _ D.TIz (g7 _ _ (by simp only[a2B,a2Q,or_false,not_or];show⟨D.TIz,D.TITO,D.TIi1,D.TIi2⟩) h2)
  .show g9.extBut _ _ D.TOz g2
  .show g3.extBut g9.extBut D.i1z
  .show g4.extBut g9.extBut D.i2z
  .obtain⟨f0,_⟩:=hf e hb;obtain⟨o,q⟩:=sJ e hb;rw[i_ (a2V (a2C q))];show f0
 done:=by
  intro X hP hw hK hc i aa s σ H E I hf st hg;subst hP hw hK;obtain⟨h1,h2,⟨u0,v0,h3⟩,h4,h5⟩:=st;obtain⟨xs,ek,hx⟩:=hg;obtain⟨af,rv,p,hz⟩:=I.tuple ek;have hl:=rv.length;show hS_ (I.ok.hd hc) D h1 h2 h4 p (by simp;lia) λh' eb=>⟨Z,I.A5 (λe o hb q=>eb e o (λz'=>hb ?_) q) hf⟩;simp only[a2B,a2Q,or_false] at z'⊢;rcases z' with r | r | r | r <;> simp[r]
 self:=λ_ _ _ _ _ st h=>wpAny_pyIter_zip st.1 h
section
variable{elts:List Expr}{p pos jU:Pos}
inductive MS(K:PySem.W.Frag)(R:It->Hp->Prop)(x:V)(y:V)(H2:Hp):Prop
 | mk:∀a b,(x=.ref a)->(y=.ref b)->((∃xs,aP K H2 a xs))->((∃ys,ag K H2 b ys))->(R (vb K a b) H2)->MS K R x y H2
def a0k(K:PySem.W.Frag)(tl gG:TE):TI:=fun σ H R=>tl σ H λx H1=>gG σ H1 (MS K R x)
def qH_{x1}(hg:Gl X "zip")(hm:X.mg "zip"=none)(hl:PE X l tl)(aS:PE X l2 gG)(hs:starEach [l,l2] X.env=[(false,eval l X.env),(false,eval l2 X.env)]:=by rfl)(gz:starEach [l2] X.env=[(false,eval l2 X.env)]:=by rfl) : PI X (.Tuple elts x1 jU) (.Call (.Name "zip" p) [l,l2] [] pos) (a0k X.K tl gG):=by
 show λaa s σ H R I h=>Call_<|jd I hg hm boot_zip<|PyProof.Rows.callWith_type1 ?_ (by rw[hs,gz])<|by rw[gz];rfl
 show hs▸?_;show Calls.spliced_cons<|ar (hl aa s σ H _ I h) λu s1 ⟨x,H1,I1,r1,q1⟩=>Calls.spliced_cons<|ar (aS aa s1 σ H1 _ I1 q1) λu2 s2 ⟨y,H2,I2,r2,q2⟩=>Calls.spliced_nil ?_;obtain⟨a,b,rfl,rfl,⟨xs,ek⟩,⟨ys,fR⟩,q⟩:=q2;cases r1;cases r2;obtain⟨af,rv,pl,hz⟩:=I2.tuple ek;obtain⟨qr,mq,mr,mn⟩:=I2.list fR;have lb:b<s2.heap.objs.size:=by obtain⟨_,e,_⟩:=mr.isList;show a2C e
 show nB_ pl mr.isList λh' g1 g2 g3 g4 g5 g7=>?_;have D:=zipApart_new pl.lt lb;have T:=kY_ (P:=X.prog) (w:=X.w) (K:=X.K) (elts:=elts) (x1:=x1) (pos:=jU) a b _ _ _ _ _ D;show T.self _ 0 _ _ _ ⟨g1,g2,⟨_,_,g3⟩,g4,g5⟩ (⟨s2.heap.objs.size+4,_,_,_,H2,Z,I2.kept (t':=s2.toks) g7,T,⟨g1,g2,⟨_,_,g3⟩,g4,g5⟩,λe hb=>?_,q⟩)
 have bO:s2.heap.objs.size<=e:=by
  simp only[a2B,a2Q,or_false] at hb;rcases hb with rfl | rfl | rfl | rfl | rfl;.show a3t _ _
  .show a3t _ _
  .show a3t _ _
  .show a2D _
  .show a3t _ _
 show I2.nJ bO<|I2.am.fresh bO
end
def nx_{K:PySem.W.Frag}{G:V->Hp->(List V->Hp->Prop)->List V->Prop}{Fin:List V->Hp->Prop}(Pv:Nat->List V->Hp->Prop)(bE:xs.length<=ys.length)(h0:Pv 0 [] H) (hl:∀i zs H,i<=xs.length->Pv i zs H->aP K H a xs/\ag K H b ys) (hz:∀i zs H,i<xs.length->Pv i zs H->zs.length<sizeLine) (hs:∀i x y zs H t,xs[i]?=some x->ys[i]?=some y->Pv i zs H->H t=none->G (.ref t) (ad H t (.tup [x,y])) (Pv (i+1)) zs) (hd:∀zs H,Pv xs.length zs H->Fin zs H) : ∃W:Nat->Nat->List V->Hp->Prop,(∃m,W 0 m [] H)/\∀i m zs H,W i m zs H-> ((vb K a b).stop i H/\Fin zs H)\/((vb K a b).go i H/\zs.length<sizeLine/\∃Nx:List V->Hp->Prop,(∀cD H',Nx cD H'->∃m',m'<m/\W (i+1) m' cD H')/\∀x H',(vb K a b).gy i H x H'->G x H' Nx zs):=by
 show⟨λi m zs H=>m=xs.length-i/\i<=xs.length/\Pv i zs H,⟨xs.length,by simp,a3q _,h0⟩,?_⟩;rintro i m zs H ⟨rfl,hi,p⟩;obtain⟨q1,q2⟩:=hl i zs H hi p;by_cases aJ:i<xs.length
 .have e1:xs[i]?=some xs[i]:=by simp[aJ]
  have e2:ys[i]?=some (ys[i]'(by lia)):=by simp
  show .inr ⟨⟨xs,ys,_,_,q1,q2,e1,e2⟩,hz i zs H aJ p,Pv _,λcD H' p'=>⟨xs.length-(i+1),by lia,Z,aJ,p'⟩,λv H' y=>?_⟩;obtain⟨t,x,y,rfl,ht,y1,y2,rfl⟩:=y;show hs i x y zs H t (y1 xs q1) (y2 ys q2) p ht
 .have e:i=xs.length:=by lia
  subst e;show .inl ⟨⟨xs,q1,a2D _⟩,hd zs H p⟩
end L2
namespace L2
open PySem
def qK_{pos px py pt:Pos}(sc:Scope)(NX:List Str)(fs:List Str)(fr:List Nat)(hc:X.calm=true)(bS:PI X (.Tuple [.Name x px,.Name y py] n0 pt) iter wi)(hi:∀cl C s H fp,PF (X.cmp (x::y::fs) scope cl C s H fp) dj tc)(he:∀cl C s H fp,PE (X.cmp (x::y::fs) scope cl C s H fp) dG te) (ok:kZ sc scope NX (x::y::fs) 2 fr=true) (hX:X.env.scope=sc:=by rfl) (hN:X.N=NX:=by rfl) (hk:scope.kind=.function:=by rfl) (hx:scope.names.lookup x=some .local:=by rfl) (hy:scope.names.lookup y=some .local:=by rfl) (hs:∀x,foldedSetIterable iter X.env x=pure x:=by intro _;rfl):PE X (.ListComp dG [⟨.Tuple [.Name x px,.Name y py] n0 pt,iter,dj,0⟩] scope pos) (sE 2 fr wi (p8 X.K 2 (nG (jf 0) (nG (jf 1) vK))) tc te) := wB (qk hX hk ok) (ql hN ok) hc bS (λcl C s H fp=>sL (X:=X.cmp _ _ cl C s H fp) X.K Z hc<|W_ (u_ 0 (.inr<|lookup_relabel_local hx) (hN:=wC ok) (hx:=Or.inl (lookup_relabel_local hx)))<|W_ (u_ 1 (.inr<|lookup_relabel_local hy) (hN:=wC ok) (hx:=Or.inl (lookup_relabel_local hy))) p7) (Sd<|HG (wx<|by decide) (HG (wx<|by decide) Sb (λ_ _ _ _ _ m q=>m _ _ q)<|λ_ _ _ _ _ m q=>⟨q.1,m _ _ q.2⟩) (λ_ _ _ _ _ m q=>m _ _ q)<|λ_ _ _ _ _ m q=>by obtain⟨a,r,e,q⟩:=q;show⟨a,r,e,q.1,m _ _ q.2⟩) hi he hs
end L2
namespace Hv
open PySem L2
def cU:List (Str×List Str):=[("frame",[kT]),("weigh",[kP,kW]),("drop",[]),("many",[]),("below",[kN]),("nth",[kK]),("next",[kN]),("last",[kN]),("miss",[kN]),("near",[kD]),("sums",[kN]),("show",[])]
def kq(rs:List (Str×List Str))(z:Str):Option (List Str):=(rs.find? λr=>decide (r.1=z)).map (·.2)
def pE(rs:List (Str×List Str))(ts:List Addr):List (ax×V):=List.zipWith (λr t=>(Sum.inr r.1,V.ref t)) rs ts
def MT(K:PySem.W.Frag)(P:Program)(w:World)(a:Addr):Prop := ∃ts:List Addr,KD K P w a (pE cU ts)/\ts.length=cU.length/\∀(i:Nat) (r:Str×List Str) (t:Addr),cU[i]?=some r->ts[i]?=some t->∀H,aP K H t (r.2.map V.str)
theorem MU(z:Str):∀(rs:List (Str×List Str)) (ts:List Addr),ts.length=rs.length-> (b8 (pE rs ts) (.inr z)=none/\kq rs z=none)\/∃(i:Nat) (r:Str×List Str) (t:Addr),rs[i]?=some r/\ts[i]?=some t/\b8 (pE rs ts) (.inr z)=some (.ref t)/\kq rs z=some r.2
 | [],_,_=>.inl ⟨Z,Z⟩
 | r::rs,[],h=>by simp at h
 | r::rs,t::ts,h=>by
  by_cases e:r.1=z
  .show .inr ⟨0,r,t,Z,Z,?_,?_⟩;.simp[pE,b8,e]
   .simp[kq,e]
  .have v:b8 (pE (r::rs) (t::ts)) (.inr z)=b8 (pE rs ts) (.inr z):=by simp[pE,b8,e]
   have k:kq (r::rs) z=kq rs z:=by simp[kq,e]
   show v▸k▸?_;rcases MU z rs ts (by simpa using h) with h' | ⟨i,r',t',h1,h2,h3,h4⟩;.show .inl h'
   .show .inr ⟨i+1,r',t',h1,h2,h3,h4⟩
def lG_:∀r∈cU,r.2.length<=2/\∀k∈r.2,k∈Eo:=by decide
def dO(ws:List Str):Bool:=match kq cU (ws.getD 0 (Str.ofString "")) with
 | none=>false
 | some ks=>decide (ws.length=ks.length+2)&&Mt.eQ (ws.getD 1 (Str.ofString ""))&&(List.zipWith fk ks (ws.drop 2)).all id
def rB{α:Type}{l:List α}{x d:α}(h:l[i]?=some x):l.getD i d=x:=by rw[a5O,h];rfl
def jD{ws:List Str}{i:Nat}(h:ws[i]?=some x):(ws.map V.str)[i]?=some (V.str x):=by rw[a2E,h];rfl
def rH_(ws:List Str):fO (ws.map V.str) (some 2) none=(ws.drop 2).map V.str:=by
 rw[a5V];unfold fO;have e1:HT.eh (ws.map V.str).length 0 (some 2)=min 2 (ws.map V.str).length:=by simp[HT.eh]
 have e2:HT.eh (ws.map V.str).length (ws.map _).length none=(ws.map V.str).length:=rfl;rw[e1,e2];by_cases h:2<=(ws.map V.str).length;.rw[a4h h,a3f (by rw[a3c];show a2D _)]
 .rw[List.drop_eq_nil_of_le (by omega),List.drop_eq_nil_of_le (by omega),List.take_nil]
def MV(ws:List Str):Prop:=1<=ws.length/\ws.length<=1001/\∀p∈ws,cg p/\p.length<=1000
inductive vc(vs:List V)(H:Hp)(Q:VK)(aq:XK):Prop
 | mk:∀(l:Addr) (ws:List Str),(vs=[.ref l])->(H l=some (.lst (ws.map V.str)))->(MV ws)->(∀H',ae H H'->Q (.bl (dO ws)) H')->vc vs H Q aq
def qA_:aI ["words"] ["words"] (f_ wY):=⟨Z,Z,Z,by decide,Z,by decide,by decide⟩
def nM_{ks ws:List Str}(h1:ks[i]?=some k)(h2:ws[i]?=some y):((List.zipWith fk (ks.take (i+1)) (ws.take (i+1)))).map V.bl=((List.zipWith fk (ks.take i) (ws.take i))).map V.bl++[V.bl (fk k y)]:=by
 rw[a2I,a2I,h1,h2];rw[a4z (by grind)];simp
def oE_(F:ay K "is_row" "is_row" wY f fd)(T:Txt mg)(hR:∃a,mg "ROWS"=some (.ref a)/\MT K P w a)(DN:ai P w K mg base 1 "is_name" ["word"] zq)(DF:ai P w K mg base 3 "fits" ["thing","word"] zt):av P w K mg base aE 4 f fd ["words"] vc:=by
 obtain⟨ra,hR,ts,kd,Lh,Eu⟩:=hR;show F.ok qA_ λak A outer s H vs Q E hr h=>?_
 .obtain⟨l,ws,rfl,hl,⟨w1,wm,wa⟩,k⟩:=h;show⟨_,b_ (C_ (PW.pt (je (Gs (lZ_ (bH (pv 0) h_) (U_ (v:=.ref ra) (by rfl) hR Z)) (by rfl)) (je (r_ rZ (p_ AM (by rfl) T.len PySem.boot_len (a_ (pv 0) d_)) (o_ Q_ (p_ AM (by rfl) T.len PySem.boot_len (a_ (zo (U_ (v:=.ref ra) (by rfl) hR Z) (bH (pv 0) h_) (by intro _ _;rfl)) d_)) h_) (bx _)) (jO (N_ (L_ (m_ DN hr.mo (by rfl) (a_ (bH (pv 0) h_) d_)))))))) (g_ (k_ ff)) q_) (g_ (k_ (p_ (qm Z) (by rfl) T.all boot_all (a_ (qK_ (f_ wY) ["words"] [] [] Z (qH_ (by rfl) T.zip (zo (U_ (v:=.ref ra) (by rfl) hR Z) (bH (pv 0) h_) (by intro _ _;rfl)) (jX wc (pv 0) (iF h_) lX)) (λcl C s H fp=>O_) (λcl C s H fp=>m_ DF hr (by rfl) (a_ (pv 0) (a_ (pv 1) d_))) (by decide)) d_)))),?_⟩;obtain⟨w0,h0⟩:∃w0,ws[0]?=some w0:=⟨_,a2T w1⟩;have e0:cv (ws.map V.str) 0=some (V.str w0):=J_ (jD h0);have g0:ws.getD 0 (Str.ofString "")=w0:=rB h0;show⟨_,Z,l,_,0,_,Z,Z,ag.of hl,e0,ra,_,.inr w0,Z,kd,Z,_,Z,?_⟩;rcases MU w0 cU ts Lh with⟨v0,k0⟩ | ⟨i,r,t,hi,ht,v0,k0⟩
  .rw[v0];have eb:dO ws=false:=by unfold dO;rw[g0,k0]
   rw[eb] at k;show bj (k H (ae.refl _))
  show v0▸?_;show aK ?_;have hrk:=lG_ r (a2A hi);have eb:dO ws=(decide (ws.length=r.2.length+2)&&Mt.eQ (ws.getD 1 (Str.ofString ""))&&(List.zipWith fk r.2 (ws.drop 2)).all id):=by unfold dO;rw[g0,k0]
  show⟨_,Z,l,_,Z,.inl (ag.of hl),_,Z,l,_,0,_,Z,Z,ag.of hl,e0,ra,_,.inr w0,_,Z,kd,Z,v0,t,_,Z,.inr (Eu i r t hi ht H),_,_,Z,Z,Z,_,Z,?_⟩;rw[a2x,a2x];by_cases hn:ws.length=r.2.length+2
  .have e1:V.int (ws.length:Int)=V.int ((r.2.length:Int)+2):=by rw[hn];rfl
   rw[decide_eq_true e1];show aK ?_;obtain⟨pG,h1⟩:∃pG,ws[1]?=some pG:=⟨_,a2T (by omega)⟩;have a1:cv (ws.map V.str) 1=some (V.str pG):=J_ (jD h1);have g1:ws.getD 1 (Str.ofString "")=pG:=rB h1;have m1:=wa pG (a2A h1);show⟨_,Z,l,_,1,_,Z,Z,ag.of hl,a1,pG,Z,m1.1,m1.2,λH1 s1=>⟨_,Z,?_⟩⟩;rw[eb,decide_eq_true hn,g1,a5u] at k
   cases en:Mt.eQ pG with
   | false =>
    rw[en] at k;show bj (k H1 s1)
   | true =>
   rw[en,a5u] at k;show aK ?_;have bY:=s1 _ _ hl;show⟨_,Z,l,_,0,_,Z,Z,ag.of bY,e0,ra,_,.inr w0,_,Z,kd,Z,v0,_,Z,_,Z,l,_,Z,ag.of bY,λp hp=>?_⟩;rw[rH_];have s2:=s1.trans (e_ (o:=.lst ((ws.drop 2).map V.str)) hp);have u2:(ad H1 p (.lst ((ws.drop 2).map V.str))) p=_:=c_;generalize ad H1 p (.lst ((ws.drop 2).map V.str))=H2 at s2 u2⊢;have bE:(r.2.map V.str).length=((ws.drop 2).map V.str).length:=by rw[a2x,a2x,a3c];omega
   show⟨t,p,Z,Z,⟨_,Eu i r t hi ht H2⟩,⟨_,ag.of u2⟩,nx_ (b:=p) (xs:=r.2.map V.str) (ys:=(ws.drop 2).map V.str) (λm zs H'=>zs=(List.zipWith fk (r.2.take m) ((ws.drop 2).take m)).map V.bl/\ae H2 H') (Nat.le_of_eq bE) ⟨Z,ae.refl _⟩ (λm zs H' _ q=>⟨Eu i r t hi ht H',ag.of (q.2 _ _ u2)⟩) (λm zs H' hm q=>bT (by rw[q.1];simp;omega)) ?_ ?_⟩
   .rintro m x y zs H3 tt hx hy ⟨rfl,s3⟩ htt;obtain⟨x',fN,rfl⟩:=iS hx;obtain⟨y',di,rfl⟩:=iS hy;have my:=wa y' (a3D (a2A di));show⟨tt,_,Z,aP.of c_,Z,_,_,Z,_,_,Z,Z,(⟨_,Z,_,Z,x',y',Z,hrk.2 x' (a2A fN),my.1,my.2,λH4 s4=>⟨(nM_ fN di).symm,(s3.trans (e_ htt)).trans s4⟩⟩)⟩
   .rintro zs H3 ⟨rfl,s3⟩ q hq;rw[a2x,a2M,a3f (by rw[a3c];omega)];show⟨q,_,Z,ag.of c_,k _ ((s2.trans s3).trans (e_ hq))⟩
  .have e1:¬ V.int (ws.length:Int)=V.int ((r.2.length:Int)+2):=λz=>hn (by injection z with z;omega);rw[decide_eq_false e1];rw[eb,decide_eq_false hn] at k;show bj (k H (ae.refl _))
def qh_(z:Str):1<=(Mt.ba z).length:=by
 cases h:Mt.ba z with
 | cons a r=>simp
 | nil =>
  have e:=Mt.zu z;rw[h] at e
  have e2:z=Str.ofString "":=by
   rw[<-e];decide
  rw[e2] at h;have:(Mt.ba<|Str.ofString "").length=1:=by decide
  rw[h] at this;simp at this
def MW(bW:cg z)(hl:z.length<=1000):MV (Mt.ba z):=⟨qh_ z,a2U (Mt.MR z)<|by lia,λp hp=>⟨λc hc=>bW c<|(Mt.zx hp).1 c hc,a2U (Mt.zx hp).2 hl⟩⟩
inductive zE(vs:List V)(H:Hp)(Q:VK)(aq:XK):Prop
 | mk:∀z:Str,(vs=[.str z])->(cg z)->(z.length<=1000)->(dO (Mt.ba z)=true)->(∀l H',ae H H'->H l=none->H' l=some (.lst ((Mt.ba z).map V.str))->Q (.ref l) H')->zE vs H Q aq
def Ev(H:Hp)(v:V):Prop:=(∃z,v=.str z/\cg z/\z.length<=1000/\dO (Mt.ba z)=false)\/(cM H v/\∀z,v≠.str z)
inductive zF(C:Addr)(vs:List V)(H:Hp)(jC:VK)(E:XK):Prop
 | mk:∀v,(vs=[v])->(Ev H v)->(∀H',ae H H'->E (.ref C) none H')->zF C vs H jC E
def MX:aI ["row"] ["row"] (f_ wZ):=⟨Z,Z,Z,by decide,Z,by decide,by decide⟩
def ki_{f:Addr}{fd:FuncData}(F:ay K "read_row" "read_row" wZ f fd)(T:Txt mg)(hS:mg "str"=none)(DW:ai P w K mg base 1 "words_of" ["row"] uZ)(DR:ai P w K mg base 4 "is_row" ["words"] vc):av P w K mg base aE 5 f fd ["row"] zE:=by
 show F.ok MX λak A outer s H vs Q E hr h=>?_
 .obtain⟨z,rfl,bW,hl,hb,k⟩:=h;show⟨_,b_ (C_ (PW.pt<|je (N_<|L_<|p_ mi (by rfl) T.fF boot_isinstance<|a_ (pv 0)<|a_ (lf hS boot_str) d_)<|jO<|N_<|L_<|m_ DR hr (by rfl)<|a_ (m_ DW hr.mo (by rfl)<|a_ (pv 0) d_) d_) A_ q_) <|g_<|k_<|m_ DW hr.mo (by rfl)<|a_ (pv 0) d_,(⟨_,Z,_,_,_,_,Z,.str _,Dl,true,Z,aK ⟨_,Z,z,Z,hl,λl0 h0=>⟨l0,_,Z,c_,MW bW hl,λH1 s1=>⟨_,Z,?_⟩⟩⟩⟩)⟩;rw[hb];have rC:=(e_ h0).trans s1;show aK ⟨_,Z,z,Z,hl,λl h1=>k l _ (rC.trans<|e_ h1) (rC.free h1) c_⟩
def ia_{f:Addr}{fd:FuncData}(F:ay K "read_row" "read_row" wZ f fd)(T:Txt mg)(hS:mg "str"=none)(DW:ai P w K mg base 1 "words_of" ["row"] uZ)(DR:ai P w K mg base 4 "is_row" ["words"] vc)(O:lJ base C dM fj B dN)(hm:mg "NoRow"=some (.ref C)):av P w K mg base (bt P w) 5 f fd ["row"] (zF C):=by
 show F.dQ MX λak A outer s H vs Q E hr h=>?_
 .obtain⟨v,rfl,h,k⟩:=h;show⟨_,b_ (C_ (PW.pt<|je (N_<|L_<|p_ mi (by rfl) T.fF boot_isinstance<|a_ (pv 0)<|a_ (lf hS boot_str) d_)<|jO<|N_<|L_<|m_ DR hr (by rfl)<|a_ (m_ DW hr.mo (by rfl)<|a_ (pv 0) d_) d_) (g_<|pA O (by rfl) hm n_) q_) A_,?_⟩;rcases h with⟨z,rfl,bW,hl,hb⟩ | ⟨t,nz⟩
  .show⟨_,Z,_,_,_,_,Z,.str _,Dl,true,Z,aK ⟨_,Z,z,Z,hl,λl0 h0=>⟨l0,_,Z,c_,MW bW hl,λH1 s1=>⟨_,Z,?_⟩⟩⟩⟩;rw[hb];show bj<|k _<|(e_ h0).trans s1
  .obtain⟨ty,t1,t2⟩:=L3 t nz;show⟨_,Z,_,_,_,_,Z,t1,t2,false,Z,bj<|k H<|ae.refl _⟩
end Hv
namespace Hv
open PySem L2 PySem.Spec PyProof.Rows
section
variable{X:Cx}{pos bo kY:Pos}
def a0l(C:Addr)(m:Str)(sp:Sp)(g:TG)(ta:TE)(t:TA):TX:=λD R σ H=>ta σ H λx H1=>∃a dx fs,x=.ref a/\H1 a=some (.ins C dx fs)/\fs.lookup m=none/\t σ H1 λvs H2=>sp (x::vs) H2 (λv H3=>g v σ H3 D.nx) (λC' _ H3=>∃A,C'=.ref A/\R σ A H3)
def qF_{pl:Sem Bool}(c:cS X.K C)(D:iX X.prog X.w X.K X.mg X.base k C m ps sp)(hr:bD k X.A)(ho:PE X.iy o ta)(ha:PA X.iy (e::es) t)(hg:PG X.iy tg g)
  (eT:starEach (e::es) X.env=(false,eval e X.env)::starEach es X.env:=by rfl) (cy:(backTo pos (starEach es X.env)).any (·.1)=false:=by rfl)
  (ht:eval (.Call (.Attribute o m bo) (e::es) [] pos) X.env=(do
   let ov <-eval o X.env
   standAt bo.atName
   let (f,first) <-holding [ov] (getMethod ov m pl)
   callWith pos f first (backTo pos (starEach (e::es) X.env)) (backToKw pos (keywordEach [] X.env))):=by rfl)
  (hs:swapsWithSole [tg] (.Call (.Attribute o m bo) (e::es) [] pos) kY.line X.env=pure false:=by rfl) (hw:swappedStores [tg] (.Call (.Attribute o m bo) (e::es) [] pos) X.env=pure none:=by rfl)
  (h1:(assignEach [tg] X.env).map (·.2)=[assign tg X.env]:=by rfl):PX X (.Assign [tg] (.Call (.Attribute o m bo) (e::es) [] pos) kY) (a0l C m sp g ta t):=by
 obtain⟨f',fd,F,hm,hb⟩:=D.ex;show λaa s σ H D R I h=>wpAny_Assign_stores ?_ hs hw;have hO:wpAny _ X.A _ (EP X aa σ λx H1=>∃a dx fs,x=.ref a/\H1 a=some (.ins C dx fs)/\fs.lookup m=none/\t σ H1 λvs H2=>sp _ H2 _<|λC' _ H3=>∃A,C'=.ref A/\R σ A H3) (XP X aa R) s := wpAny_mono (ho aa s σ H _ (I.gx _) h) (λu s1 ⟨x,H1,I1,rx,q⟩=>⟨x,H1,I1.iz,rx,q⟩) λ_ _ z=>False.elim z;show a4I (ar hO λu s1 ⟨x,H1,I1,rx,a,dx,fs,ex,ea,l,q⟩=>?_) ht;subst ex;obtain rfl:u=Value.ref a:=rx;show vV I1 ea c hm l ?_;have hA:wpAny _ X.A _ (AP X aa σ λvs H2=>sp _ H2 _<|λC' _ H3=>∃A,C'=.ref A/\R σ A H3) (XP X aa R) s1 := wpAny_mono (ha pos aa s1 σ H1 _ (I1.gx _) q) (λus s2 ⟨vs,H2,I2,r,q2⟩=>⟨vs,H2,I2.iz,r,q2⟩) λ_ _ z=>False.elim z;show a5L I.ok.mod.rQ hm.kp (ar hA λus s2 ⟨vs,H2,I2,r,q2⟩=>⟨I2.cb,?_⟩) eT cy;have r':az (V.ref a::vs) _:=.cons Z r;have hl:((Value.ref a::us)++[]).length=ps.length:=by rw[a3H,<-r'.length];show F.len _ _ _ _ q2
 have wj:=hb s2 _ I2.cb hl;rw[a3H] at wj;show wpAny_call<|codeAny_mono (F.run X.A _ s2 H2 ⟨Value.ref a::us,[]⟩ _ _ _ _ hr I2.AD wj r' q2) λrs s' hq=>?_
 cases rs with
 | error er =>
  obtain⟨y,C',a0,H',ey,os,bare,un,am,pz,A0,eA,hR⟩:=hq;cases eA;show⟨y,C',a0,σ,H2,H',s2,ey,I2,os,bare,un,am,pz,hR⟩
 | ok fl =>
  cases fl with
  | ret u =>
   obtain⟨v,H',I',rv,q'⟩:=I2.after hq;rw[h1];show wpAny_mono (hg aa s' σ H' v u _ (I'.gx _) rv q') (λ_ s3 ⟨bI,H3,I3,q3⟩=>⟨bI,H3,I3.iz,q3⟩) λ_ _ z=>False.elim z
  | next=>show False.elim hq
  | brk=>show False.elim hq
  | cont=>show False.elim hq
end
end Hv
namespace Hv
open PySem L2
inductive gO(C:Addr)(vs:List V)(H:Hp)(jC:VK)(E:XK):Prop
 | mk:∀f a c b ps ws x,(vs=[.ref f,x])->(aV H f a c b ps ws)->(cM H x)->(b7 x 0 (((b ^ ps.sum:Nat):Int)-1)=false)->(∀H',ae H H'->E (.ref C) none H')->gO C vs H jC E
inductive zG(vs:List V)(H:Hp)(Q:VK)(aq:XK):Prop
 | mk:∀(a:Addr) (ns:List Int),(vs=[.str (Mt.one 32),.ref a])->(H a=some (.lst (ns.map V.int)))->(ns.length<=30)->((∀n∈ns,-999<=n/\n<=999))->(∀H',ae H H'->Q (.str (Txt.join (Mt.one 32) (ns.map Mt.txt))) H')->zG vs H Q aq
def qm_:∀k:Fin 1999,decide ((Mt.txt (((k:Nat):Int)-999)).length<=4)=true:=by decide
def nS_(h : -999<=n/\n<=999):(Mt.txt n).length<=4:=by
 have:=qm_ ⟨(n+999).toNat,by lia⟩;rw[show((((⟨(n+999).toNat,by lia⟩:Fin 1999)))-999)=n by lia] at this;show of_decide_eq_true this
theorem MY:∀ {ns:List Int},(∀n∈ns,-999<=n/\n<=999)->((ns.map Mt.txt).map (·.length)).sum<=4*ns.length
 | [],_=>by simp
 | n::r,h=>by
  have h1:=nS_ (h n a2Y);have h2:=MY λm hm=>h m<|a2G _ hm;simp only[a2X,a3d,a2P];lia
def ie_(F:ay K "need_number" "need_number" wH f fd)(D2:ai P w K mg base 2 "is_between" ["thing","least","greatest"] jk)(D6:ai P w K mg base 6 "how_many" ["frame"] lh) (O:lJ base CN dM fj B dN) (hm:mg "NoNumber"=some (.ref CN)):av P w K mg base (bt P w) 7 f fd ["frame","thing"] (gO CN):=by
 show F.dQ IO λak A outer s H vs Q E hr h=>?_
 .obtain⟨g,a,c,b,ps,ws,x,rfl,G,tx,hx,k⟩:=h;show⟨_,g_<|C_ (N_<|L_<|m_ D2 hr.mo (by rfl)<|a_ (pv 1)<|a_ h_<|a_ (o_ gA (m_ D6 hr (by rfl)<|a_ (pv 0) d_) h_) d_) (g_<|pA O (by rfl) hm n_) q_,(⟨_,Z,_,Z,g,a,c,b,ps,ws,Z,G,λH1 s1=>⟨_,_,Z,Z,x,0,_,Z,tx.keep s1,_,Z,?_⟩⟩)⟩;show hx▸?_;show bj<|k H1 s1
def ii_(F:ay K "figures_of" "figures_of" wI f fd)(D5:ai P w K mg base 5 "need_frame" ["thing"] fS)(D7:ci P w K mg base 7 "need_number" ["frame","thing"] (cO qw (gO CN))) : av P w K mg base (bt P w) 8 f fd ["frame","n"] (gO CN):=by
 show F.dQ qE λak A outer s H vs Q E hr h=>?_
 .obtain⟨g,a,c,b,ps,ws,x,rfl,G,tx,hx,k⟩:=h;show⟨_,b_ (t_<|m_ D5 hr.mo (by rfl)<|a_ (pv 0) d_)<|b_ (t_<|fK D7 hr (by rfl)<|a_ (pv 0)<|a_ (pv 1) d_) A_,⟨_,Z,g,a,c,b,ps,ws,Z,G,λH1 s1=>?_⟩⟩;show⟨_,Z,_,Z,.inr ⟨g,a,c,b,ps,ws,x,Z,G.keep s1,tx.keep s1,hx,λH2 s2=>k H2<|s1.trans s2⟩⟩
def oA_(F:ay K "part_sums" "part_sums" oh f fd)(D8:ci P w K mg base 8 "figures_of" ["frame","n"] (cO og (gO CN))):av P w K mg base (bt P w) 9 f fd ["frame","n"] (gO CN):=by
 show F.dQ xI λak A outer s H vs Q E hr h=>?_
 .show⟨_,b_ (j_ 2 (hN:=xI.nd)<|fK D8 hr (by rfl)<|a_ (pv 0)<|a_ (pv 1) d_) A_,?_⟩;obtain⟨g,a,c,b,ps,ws,x,rfl,r1,r2,r3,r4⟩:=h;show⟨_,Z,_,Z,.inr ⟨g,a,c,b,ps,ws,x,Z,r1,r2,r3,r4⟩⟩
def kk_(F:ay K "misses_by" "misses_by" wJ f fd)(D9:ci P w K mg base 9 "part_sums" ["frame","n"] (cO ou (gO CN))):av P w K mg base (bt P w) 10 f fd ["frame","n"] (gO CN):=by
 show F.dQ xK λak A outer s H vs Q E hr h=>?_
 .show⟨_,b_ (j_ 2 (hN:=xK.nd)<|fK D9 hr (by rfl)<|a_ (pv 0)<|a_ (pv 1) d_) A_,?_⟩;obtain⟨g,a,c,b,ps,ws,x,rfl,r1,r2,r3,r4⟩:=h;show⟨_,Z,_,Z,.inr ⟨g,a,c,b,ps,ws,x,Z,r1,r2,r3,r4⟩⟩
def fC_(F:ay K "even_below" "even_below" wR f fd)(DB:ci P w K mg base 11 "near_below" ["frame","d","n"] (cO re (zh CN bB))):av P w K mg base (bt P w) 12 f fd ["frame","n"] (gm CN bB):=by
 show F.dQ Ls λak A outer s H vs Q E hr h=>?_
 .obtain⟨g,a,c,b,ps,ws,x,rfl,G,tx,hx,k⟩:=h;show⟨_,g_<|k_<|fK DB hr (by rfl)<|a_ (pv 0)<|a_ h_<|a_ (pv 1) d_,(⟨_,Z,_,Z,.inr ⟨g,a,c,b,ps,ws,0,x,Z,G,tx,hx,k⟩⟩)⟩
def oD_(F:ay K "joined_by" "joined_by" qz f fd)(hS:mg "str"=none):av P w K mg base aE 1 f fd ["sign","numbers"] zG:=by
 show F.ok LT λak A outer s H vs Q E hr h=>?_
 .obtain⟨a,ns,rfl,ha,hl,hn,k⟩:=h;show⟨_,g_<|k_<|dh PySem.F.plainAttrs_str PySem.F.slot_str_join PySem.F.type_str_join uH (pv 0)<|a_ (P_ (f_ qz) ["sign","numbers"] [] [] Z (B_<|pv 1) (λcl C s H fp=>O_) (λcl C s H fp=>G_ S_ (by rfl) hS boot_str<|a_ (pv 0) d_)<|by decide) d_,(⟨_,Z,Z,_,Z,a,Z,⟨_,ag.of ha⟩,z_ (K:=K) (a:=a) (xs:=ns.map V.int) (λi ys H2=>ys=((ns.take i).map Mt.txt).map V.str/\ae H H2) ⟨by simp,ae.refl _⟩ (λi ys H2 _ p=>ag.of (p.2 _ _ ha)) ?_ ?_⟩)⟩
  .rintro i x ys H2 hx ⟨rfl,s2⟩
   obtain⟨n,cC,rfl⟩:∃n:Int,ns[i]?=some n/\x=.int n:=by
    rw[a2E] at hx
    cases e:ns[i]? with
    | none=>rw[e] at hx;cases hx
    | some n=>rw[e] at hx;show⟨n,Z,(a2J hx).symm⟩
   have hb:=hn n (a2A cC);show⟨bT<|by simp;lia,_,Z,n,Z,?_,?_,s2⟩
   .by_cases hz:n.natAbs=0;.rw[hz];decide
    .show a2L ((a5T hz).mpr (show n.natAbs<2 ^ 10 by lia))<|by decide
   .rw[a2I,cC];simp[Mt.txt]
  .rintro ys H2 ⟨rfl,s2⟩ l cW;rw[a2x,a2M];show⟨_,l,ns.map Mt.txt,Z,Z,c_,?_,k _<|D_ s2<|s2.free cW⟩;have:=MY hn;rw[a2x];change _+ns.length*1<=_;lia
def ii(i:Nat):Str:=(cU.getD i (Str.ofString "",[])).1
def cQ{p q:Prop}(e:(a==b)=false)(h:q):(if decide (V.str a=V.str b)=true then p else q):=by grind
def jE{p q:Prop}(e:(a==b)=true)(h:p):(if decide (V.str a=V.str b)=true then p else q):=by simp_all
def Ew(cN:Addr)(i:Nat)(b:Nat)(ps:List Nat)(ws:List Int)(n:Nat)(H:Hp)(Q:VK)(E:XK):Prop :=
 match i with
 | 4=>(n<=b ^ ps.sum->∀H',ae H H'->Q (.str (Mt.txt (Mx.aD b 0 ps ws n))) H')/\(b ^ ps.sum<n->∀H',ae H H'->E (.ref cN) none H')
 | 5=>∀v H',ae H H'->uG b 0 ps ws n v->Q (.str (pD v)) H'
 | 6=>(n<=b ^ ps.sum->∀v H',ae H H'->yJ b ps ws n v->Q (.str (pD v)) H')/\(b ^ ps.sum<n->∀H',ae H H'->E (.ref cN) none H')
 | 7=>(n<=b ^ ps.sum->∀v H',ae H H'->yK b ps ws n v->Q (.str (pD v)) H')/\(b ^ ps.sum<n->∀H',ae H H'->E (.ref cN) none H')
 | 8=>(n<b ^ ps.sum->∀H',ae H H'->Q (.str (Mt.txt (qK (oE b n ps ws)))) H')/\(b ^ ps.sum<=n->∀H',ae H H'->E (.ref cN) none H')
 | 9=>∀H',ae H H'->Q (.str (Mt.txt (Mx.aD b n ps ws (b ^ ps.sum)))) H'
 | 10=>(n<b ^ ps.sum->∀H',ae H H'->Q (.str (Txt.join (Mt.one 32) ((Ma.gH ps (Ma.b6 b n ps.sum ws)).map Mt.txt))) H')/\(b ^ ps.sum<=n->∀H',ae H H'->E (.ref cN) none H')
 | _=>False
inductive zH(cN:Addr)(vs:List V)(H:Hp)(Q:VK)(E:XK):Prop
 | mk:∀f a c b ps ws,∀i n:Nat,(vs=[.ref f,.str (ii i),.int n])->(aV H f a c b ps ws)->(n<10 ^ 30)->(Ew cN i b ps ws n H Q E)->zH cN vs H Q E
def sp_:aI ["frame","word","number"] ["frame","word","number"] (f_ BG):=⟨Z,Z,Z,by decide,Z,by decide,by decide⟩
def vd(ok:dY b ps ws):b ^ ps.sum<10 ^ 30:=by
 have h1:=ok.cz;have h2:ps.sum<=24:=by have:=ok.sum;lia
 show a5a (a2U (a5H h1 _)<|a4N (by decide) h2)<|by decide
def Ex{i:Int}(h0:0<=i)(h1:i<10 ^ 30):i.natAbs.log2<1920:=by
 by_cases hz:i.natAbs=0;.rw[hz];decide
 .show a2L ((a5T hz).mpr (show i.natAbs<2 ^ 100 by lia))<|by decide
theorem uG.au(ok:dY b ps ws)(h:uG b 0 ps ws n v):v=.au\/∃n:Int,v=.int n/\0<=n/\n<10 ^ 30:=by
 have:=vd ok;rcases h with⟨e,_⟩ | ⟨m,e,h,_⟩;.show .inl e
 .show .inr ⟨m,e,by lia,by lia⟩
theorem yJ.au(ok:dY b ps ws)(h:yJ b ps ws n v):v=.au\/∃n:Int,v=.int n/\0<=n/\n<10 ^ 30:=by
 have:=vd ok;rcases h with⟨e,_⟩ | ⟨m,e,_,h,_⟩;.show .inl e
 .show .inr ⟨m,e,by lia,by lia⟩
theorem yK.au(ok:dY b ps ws)(hn:n<=b ^ ps.sum)(h:yK b ps ws n v):v=.au\/∃n:Int,v=.int n/\0<=n/\n<10 ^ 30:=by
 have:=vd ok;rcases h with⟨e,_⟩ | ⟨m,e,h,_⟩;.show .inl e
 .show .inr ⟨m,e,by lia,by lia⟩
def Ey(h:k<n):bB k (.int (n:Int)):=by
 unfold bB b7;simp;lia
def Ez{k n:Nat}(h:k<=n):b7 (.int (n:Int)) 0 ((k:Int)-1)=false:=by
 have:¬  n <=(k:Int)-1:=by lia
 simp only[b7,decide_eq_false this,Bool.and_false]
def MZ:Str.ofString " "=Mt.one 32:=by decide
def qW_(F:ay K "answer_with_number" "answer_with_number" BG f fd)(hS:mg "str"=none)(DN:ai P w K mg base 1 "number_or_none" ["number"] zy)(DJ:ai P w K mg base 1 "joined_by" ["sign","numbers"] zG) (DB:ci P w K mg base 12 "even_below" ["frame","n"] (cO yA (gm CN bB))) (DK:ai P w K mg base 13 "even_by" ["frame","k"] yN) (DX:ci P w K mg base 12 "next_even" ["frame","n"] (cO yL (gm CN bB))) (DL:ci P w K mg base 12 "last_even" ["frame","n"] (cO yM (gm CN bB))) (DM:ci P w K mg base 10 "misses_by" ["frame","n"] (cO xJ (gO CN))) (DC:ai P w K mg base 6 "count_near" ["frame","d"] yH) (DP:ci P w K mg base 9 "part_sums" ["frame","n"] (cO ou (gO CN))):av P w K mg base (bt P w) 14 f fd ["frame","word","number"] (zH CN):=by
 show F.dQ sp_ λak A outer s H vs Q E hr h=>?_
 .obtain⟨g,a,c,b,ps,ws,i,n,rfl,G,hn,k⟩:=h;show⟨_,b_ (C_ (r_ dW (pv 1) n_ (bx _)) (g_ (k_ (G_ S_ (by rfl) hS boot_str (a_ (fK DB hr.mo (by rfl) (a_ (pv 0) (a_ (pv 2) d_))) d_)))) q_) (b_ (C_ (r_ dW (pv 1) n_ (bx _)) (g_ (k_ (m_ DN hr.mo (by rfl) (a_ (m_ DK hr (by rfl) (a_ (pv 0) (a_ (pv 2) d_))) d_)))) q_) (b_ (C_ (r_ dW (pv 1) n_ (bx _)) (g_ (k_ (m_ DN hr.mo (by rfl) (a_ (fK DX hr.mo (by rfl) (a_ (pv 0) (a_ (pv 2) d_))) d_)))) q_) (b_ (C_ (r_ dW (pv 1) n_ (bx _)) (g_ (k_ (m_ DN hr.mo (by rfl) (a_ (fK DL hr.mo (by rfl) (a_ (pv 0) (a_ (pv 2) d_))) d_)))) q_) (b_ (C_ (r_ dW (pv 1) n_ (bx _)) (g_ (k_ (G_ S_ (by rfl) hS boot_str (a_ (fK DM hr.mo (by rfl) (a_ (pv 0) (a_ (pv 2) d_))) d_)))) q_) (b_ (C_ (r_ dW (pv 1) n_ (bx _)) (g_ (k_ (G_ S_ (by rfl) hS boot_str (a_ (m_ DC hr.mo (by rfl) (a_ (pv 0) (a_ (pv 2) d_))) d_)))) q_) (g_ (k_ (m_ DJ hr.mo (by rfl) (a_ n_ (a_ (fK DP hr.mo (by rfl) (a_ (pv 0) (a_ (pv 2) d_))) d_)))))))))),?_⟩;have hM:=vd G.ok;have lg:∀d m,m<=b ^ ps.sum->(Mx.aD b d ps ws m).natAbs.log2<1920:=λd m hm=>Ex (Mx.yC b d ps ws m) (by have:=Mx.Lu b d ps ws m;lia);by_cases h4:i=4
  .subst h4;show⟨_,Z,Z,_,Z,jE (by decide) ⟨_,Z,_,Z,?_⟩⟩;by_cases hm:n<=b ^ ps.sum;.show .inl ⟨g,a,c,b,ps,ws,n,Z,G,hm,λH' s'=>⟨_,Z,lg 0 n hm,k.1 hm H' s'⟩⟩
   .show .inr ⟨g,a,c,b,ps,ws,_,Z,G,.int _,Ey (by lia),k.2 (by lia)⟩
  by_cases h5:i=5
  .subst h5;show⟨_,Z,Z,_,Z,cQ (by decide) ⟨_,Z,Z,_,Z,jE (by decide) ⟨_,Z,_,Z,g,a,c,b,ps,ws,n,Z,G,λv H' s' hv=>⟨v,Z,hv.au G.ok,k v H' s' hv⟩⟩⟩⟩
  by_cases h6:i=6
  .subst h6;show⟨_,Z,Z,_,Z,cQ (by decide) ⟨_,Z,Z,_,Z,cQ (by decide) ⟨_,Z,Z,_,Z,jE (by decide) ⟨_,Z,_,Z,?_⟩⟩⟩⟩;by_cases hm:n<=b ^ ps.sum;.show .inl ⟨g,a,c,b,ps,ws,n,Z,G,hm,λv H' s' hv=>⟨v,Z,hv.au G.ok,k.1 hm v H' s' hv⟩⟩
   .show .inr ⟨g,a,c,b,ps,ws,_,Z,G,.int _,Ey (by lia),k.2 (by lia)⟩
  by_cases h7:i=7
  .subst h7;show⟨_,Z,Z,_,Z,cQ (by decide) ⟨_,Z,Z,_,Z,cQ (by decide) ⟨_,Z,Z,_,Z,cQ (by decide) ⟨_,Z,Z,_,Z,jE (by decide) ⟨_,Z,_,Z,?_⟩⟩⟩⟩⟩;by_cases hm:n<=b ^ ps.sum;.show .inl ⟨g,a,c,b,ps,ws,n,Z,G,hm,λv H' s' hv=>⟨v,Z,hv.au G.ok hm,k.1 hm v H' s' hv⟩⟩
   .show .inr ⟨g,a,c,b,ps,ws,_,Z,G,.int _,Ey (by lia),k.2 (by lia)⟩
  by_cases h8:i=8
  .subst h8;show⟨_,Z,Z,_,Z,cQ (by decide) ⟨_,Z,Z,_,Z,cQ (by decide) ⟨_,Z,Z,_,Z,cQ (by decide) ⟨_,Z,Z,_,Z,cQ (by decide) ⟨_,Z,Z,_,Z,jE (by decide) ⟨_,Z,_,Z,?_⟩⟩⟩⟩⟩⟩;by_cases hm:n<b ^ ps.sum
   .show .inl ⟨g,a,c,b,ps,ws,n,Z,G,hm,λH' s'=>⟨_,Z,?_,k.1 hm H' s'⟩⟩;have:=YE (n:=n) G.ok;show Ex this.1 (by lia)
   .show .inr ⟨g,a,c,b,ps,ws,_,Z,G,.int _,Ez (by lia),k.2 (by lia)⟩
  by_cases h9:i=9
  .subst h9;show⟨_,Z,Z,_,Z,cQ (by decide) ⟨_,Z,Z,_,Z,cQ (by decide) ⟨_,Z,Z,_,Z,cQ (by decide) ⟨_,Z,Z,_,Z,cQ (by decide) ⟨_,Z,Z,_,Z,cQ (by decide) ⟨_,Z,Z,_,Z,jE (by decide) ⟨_,Z,_,Z,g,a,c,b,ps,ws,n,Z,G,λH' s'=>⟨_,Z,lg n _ (a2D _),k H' s'⟩⟩⟩⟩⟩⟩⟩⟩
  by_cases M0:i=10
  .subst M0;show⟨_,Z,Z,_,Z,cQ (by decide) ⟨_,Z,Z,_,Z,cQ (by decide) ⟨_,Z,Z,_,Z,cQ (by decide) ⟨_,Z,Z,_,Z,cQ (by decide) ⟨_,Z,Z,_,Z,cQ (by decide) ⟨_,Z,Z,_,Z,cQ (by decide) ⟨_,Z,_,Z,?_⟩⟩⟩⟩⟩⟩⟩;by_cases hm:n<b ^ ps.sum
   .show .inl ⟨g,a,c,b,ps,ws,n,Z,G,hm,λr H' _ s' cE=>?_⟩;show MZ▸?_;show⟨r,_,Z,cE,?_,?_,λH2 s2=>k.1 hm H2 (s'.trans s2)⟩;.rw[Ma.A7];have:=G.ok.l4;lia
    .intro x hx;have:=Dd G.ok x hx;lia
   .show .inr ⟨g,a,c,b,ps,ws,_,Z,G,.int _,Ez (by lia),k.2 (by lia)⟩
  .exfalso;revert k;unfold Ew;split <;> simp_all
end Hv
namespace Hv
open PySem L2 PySem.Spec PyProof.Rows
structure DE where
 nm:Str
 f:Addr
 a:Addr
 c:Addr
 b:Nat
 ps:List Nat
 ws:List Int
def dU(e:DE):ax×V:=(Sum.inr e.nm,V.ref e.f)
def mT(es:List DE)(z:Str):Option DE:=es.find? λe=>decide (e.nm=z)
def mU(es:List DE)(e:DE):List DE:=if (es.any λx=>decide (x.nm=e.nm))=true then es.map (λx=>if x.nm=e.nm then e else x) else es++[e]
def zI(es:List DE)(z:Str):List DE:=es.filter λe=>decide (e.nm≠z)
def M3(es:List DE)(z:Str):b8 (es.map dU) (.inr z)=(mT es z).map λe=>V.ref e.f:=by
 induction es with
 | nil=>rfl
 | cons e r ih =>
  by_cases h:e.nm=z;.simp[b8,mT,dU,h]
  .have:b8 ((e::r).map dU) (.inr z)=b8 (r.map dU) (.inr z):=by simp[b8,dU,h]
   rw[this,ih];simp[mT,h]
def sv_(es:List DE)(e:DE):dZ (es.map dU) (.inr e.nm) (.ref e.f)=(mU es e).map dU:=by
 unfold dZ mU
 have h:((es.map dU).any λkv=>decide (kv.1=(Sum.inr e.nm)))=es.any λx=>decide (x.nm=e.nm):=by
  rw[List.any_map];congr 1;funext x;simp[dU]
 rw[h];split
 .rw[a3v,a3v];show a3C λx _=>?_;by_cases hx:x.nm=e.nm;.simp[dU,hx]
  .simp[dU,hx]
 .simp[dU]
def rE_(es:List DE)(z:Str):li (es.map dU) (.inr z)=(zI es z).map dU:=by
 unfold li zI;rw[List.filter_map];congr 2;funext x;simp[dU]
def vg(m:Addr):List (Str×V):=fD "by_name" (.ref m) []
def rD:(vg m).lookup ("by_name":Str)=some (.ref m):=by
 unfold vg;rw[vT,if_pos Z]
def rE{x:Str}(h:¬ x="by_name"):(vg m).lookup x=none:=by
 unfold vg;rw[vT,if_neg h];rfl
structure bK(C:Addr)(H:Hp)(d dx m:Addr)(es:List DE):Prop where
 ob:H d=some (.ins C dx (vg m))
 dc:H m=some (.dK (es.map dU))
 fr:∀e∈es,aV H e.f e.a e.c e.b e.ps e.ws
theorem bK.keep(S:bK C H d dx m es)(s:ae H H'):bK C H' d dx m es:=⟨s _ _ S.ob,s _ _ S.dc,λe he=>(S.fr e he).keep s⟩
def EA(G:aV H f a c b ps ws)(hm:H m=some (.dK kvs)):aV (ad H m (.dK a0m)) f a c b ps ws:=by
 have n:∀ {x:Addr} {o:HO},H x=some o->(∀k,o≠.dK k)->x≠m:=λh ho z=>by
  rw[z,hm] at h;show ho _ (a2J h).symm
 show⟨by rw[i_ (n G.tp<|λ_ z=>by cases z)];show G.tp,by rw[i_ (n G.hp<|λ_ z=>by cases z)];show G.hp,by rw[i_ (n G.hw<|λ_ z=>by cases z)];show G.hw,G.ok⟩
def bK.ne(S:bK C H d dx m es):d≠m:=λz=>by
 have h:=S.ob;rw[z,S.dc] at h;cases h
def bK.put(S:bK C H d dx m es)(G:aV H e.f e.a e.c e.b e.ps e.ws):bK C (ad H m (.dK (dZ (es.map dU) (.inr e.nm) (.ref e.f)))) d dx m (mU es e):=by
 show⟨by rw[i_ S.ne];show S.ob,by rw[c_,sv_],λx hx=>?_⟩
 have fN:x∈es\/x=e:=by
  unfold mU at hx;split at hx
  .obtain⟨y,hy,rfl⟩:=a2N.mp hx;split;.show .inr Z
   .show .inl hy
  .simp_all
 rcases fN with h | rfl;.show EA (S.fr x h) S.dc
 .show EA G S.dc
def bK.drop(S:bK C H d dx m es):bK C (ad H m (.dK (li (es.map dU) (.inr z)))) d dx m (zI es z) := ⟨by rw[i_ S.ne];show S.ob,by rw[c_,rE_],λx hx=>EA (S.fr x (a5z.mp hx).1) S.dc⟩
def oY_(h:mT es z=some e):e∈es/\e.nm=z:=⟨a3A h,by have:=a4X h;simpa using this⟩
def EB(cN:Addr)(i:Nat)(b:Nat)(ps:List Nat)(ws:List Int)(dD:List Str)(H:Hp)(Q:VK)(E:XK):Prop := (i=11/\∀H',ae H H'->Q (.str (Mt.fText b ps ws)) H')\/(i=3/\∀H',ae H H'->Q (.str (Mt.txt (Mx.aD b 0 ps ws (b ^ ps.sum)))) H')\/ (4<=i/\i<=10/\∃(z:Str) (n:Nat),dD[2]?=some z/\PySem.intText? z=some (n:Int)/\z.length<=640/\n<10 ^ 30/\Ew cN i b ps ws n H Q E)
inductive zJ(cN:Addr)(vs:List V)(H:Hp)(Q:VK)(E:XK):Prop
 | mk:∀(f a c:Addr) (b:Nat) (ps:List Nat) (ws:List Int) (l:Addr) (dD:List Str) (i:Nat),(vs=[.ref f,.ref l])->(aV H f a c b ps ws)->(H l=some (.lst (dD.map V.str)))->(dD[0]?=some (ii i))->(EB cN i b ps ws dD H Q E)->zJ cN vs H Q E
def a0n:aI ["frame","words"] ["frame","words"] (f_ BH):=⟨Z,Z,Z,by decide,Z,by decide,by decide⟩
section
variable{K:PySem.W.Frag}
def sr_:∀k:Fin 7,(ii (k+4)==Str.ofString "show")=false/\(ii (k+4)==Str.ofString "many")=false:=by decide
def sV_(F:ay K "answer" "answer" BH f fd)(T:Txt mg)(hS:mg "str"=none)(DS:ai P w K mg base 6 "show_frame" ["frame"] yV)(DC:ai P w K mg base 7 "count_even" ["frame"] yI)(DA:ci P w K mg base 14 "answer_with_number" ["frame","word","number"] (zH CN)):av P w K mg base (bt P w) 15 f fd ["frame","words"] (zJ CN):=by
 show F.dQ a0n λak A outer s H vs Q E hr h=>?_
 .obtain⟨g,a,c,b,ps,ws,l,dD,i,rfl,G,hl,h0,k⟩:=h;show⟨_,b_ (C_ (r_ dW (bH (pv 1) h_) n_ (bx _)) (g_ (k_ (m_ DS hr.mo (by rfl) (a_ (pv 0) d_)))) q_) (b_ (C_ (r_ dW (bH (pv 1) h_) n_ (bx _)) (g_ (k_ (G_ S_ (by rfl) hS boot_str (a_ (m_ DC hr.mo (by rfl) (a_ (pv 0) d_)) d_)))) q_) (g_ (k_ (fK DA hr (by rfl) (a_ (pv 0) (a_ (bH (pv 1) h_) (a_ (G_ Y_ (by rfl) T.int boot_int (a_ (bH (pv 1) h_) d_)) d_))))))),?_⟩;have e0:cv (dD.map V.str) 0=some (V.str (ii i)):=J_ (j:=0) (jD h0);show⟨_,Z,l,_,0,_,Z,Z,ag.of hl,e0,Z,_,Z,?_⟩;rcases k with⟨rfl,k⟩ | ⟨rfl,k⟩ | ⟨h4,M0,z,n,h2,hz,zl,hn,k⟩;.show jE (by decide) ⟨_,Z,g,a,c,b,ps,ws,Z,G,k⟩
  .show cQ (by decide) ⟨_,Z,l,_,0,_,Z,Z,ag.of hl,e0,Z,_,Z,jE (by decide) ⟨_,Z,g,a,c,b,ps,ws,Z,G,λH' s'=>⟨_,Z,?_,k H' s'⟩⟩⟩;have:=vd G.ok;show Ex (Mx.yC b 0 ps ws _) (by have:=Mx.Lu b 0 ps ws (b ^ ps.sum);omega)
  .have r:=sr_ ⟨i-4,by omega⟩;have ei:(((⟨i-4,by omega⟩:Fin 7):Nat)+4)=i:=by change i-4+4=i;omega
   rw[ei] at r;have e2:cv (dD.map V.str) 2=some (V.str z):=J_ (j:=2) (jD h2);show cQ r.1 ⟨_,Z,l,_,0,_,Z,Z,ag.of hl,e0,Z,_,Z,cQ r.2 ⟨_,Z,_,Z,l,_,0,_,Z,Z,ag.of hl,e0,_,Z,l,_,2,_,Z,Z,ag.of hl,e2,z,n,Z,hz,zl,g,a,c,b,ps,ws,i,n,Z,G,hn,k⟩⟩
end
def M4(C:Addr)(c:Nat->Addr)(d dx m:Addr)(es:List DE)(e:DE)(i:Nat)(dD:List Str)(H:Hp)(Q:VK)(E:XK):Prop := (i=1/\∃(zp zw:Str) (p:Nat) (wt:Int),dD[2]?=some zp/\dD[3]?=some zw/\PySem.intText? zp=some (p:Int)/\PySem.intText? zw=some wt/\zp.length<=640/\zw.length<=640/\ ((b7 (.int (p:Int)) 0 ((e.ws.length:Int)-1)=false/\∀H',ae H H'->E (.ref (c 2)) none H')\/(p<e.ws.length/\b7 (.int wt) (-9) 9=false/\∀H',ae H H'->E (.ref (c 1)) none H')\/ (p<e.ws.length/\-9<=wt/\wt<=9/\∀(f a a':Addr) (H':Hp),H f=none->H a=none->H a'=none->bK C H' d dx m (mU es ⟨e.nm,f,a,a',e.b,e.ps,e.ws.set p wt⟩)->Kp [m] H H'->Q (.str (Str.ofString "ok")) H')))\/ (i=2/\∀H',bK C H' d dx m (zI es e.nm)->Kp [m] H H'->Q (.str (Str.ofString "ok")) H')\/(3<=i/\EB (c 1) i e.b e.ps e.ws dD H Q E)
def M5(C:Addr)(c:Nat->Addr)(d dx m:Addr)(es:List DE)(i:Nat)(dD:List Str)(H:Hp)(Q:VK)(E:XK):Prop := ∃nm,dD[1]?=some nm/\((i=0/\∃t,dD[2]?=some t/\cg t/\t.length<=300/\((¬ y0 t/\∀H',ae H H'->E (.ref (c 7)) none H')\/ ∃b ps ws,dY b ps ws/\t=Mt.fText b ps ws/\∀(f a a':Addr) (H':Hp),H f=none->H a=none->H a'=none->bK C H' d dx m (mU es ⟨nm,f,a,a',b,ps,ws⟩)->Kp [m] H H'->Q (.str (Str.ofString "ok")) H'))\/ (1<=i/\i<=11/\((mT es nm=none/\∀H',ae H H'->E (.ref (c 8)) none H')\/∃e,mT es nm=some e/\M4 C c d dx m es e i dD H Q E)))
inductive d7(C:Addr)(c:Nat->Addr)(vs:List V)(H:Hp)(Q:VK)(E:XK):Prop
 | mk:∀(d dx m:Addr) (es:List DE) (v:V),(vs=[.ref d,v])->(bK C H d dx m es)->(es.length<100)->(((Ev H v/\∀H',ae H H'->E (.ref (c 9)) none H')\/∃(z:Str) (i:Nat),v=.str z/\cg z/\z.length<=1000/\dO (Mt.ba z)=true/\(Mt.ba z)[0]?=some (ii i)/\∀H1,ae H H1->bK C H1 d dx m es->M5 C c d dx m es i (Mt.ba z) H1 Q E))->d7 C c vs H Q E
def EC(m:Addr):Kp [m] H (ad H m o):=λb u h n=>by rw[i_ (λz=>n<|by rw[z];show a2Z.mpr Z)];show h
def M6:aI ["self","row","words","frame"] ["self","row"] (f_ BM):=⟨Z,Z,Z,by decide,Z,by decide,by decide⟩
def ut_:∀k:Fin 11,(ii (k+1)==Str.ofString "frame")=false:=by decide
def us_:∀k:Fin 12,(k:Nat)=1\/(ii k==Str.ofString "weigh")=false:=by decide
def uu_:∀k:Fin 12,(k:Nat)=2\/(ii k==Str.ofString "drop")=false:=by decide
section
variable{K:PySem.W.Frag}
def sO_(F:ay K "say" "Desk.say" BM f fd)(T:Txt mg)(cl:cS K C)(nB:kL K C "by_name")(O:lJ base (c 8) dM fj B dN)(hm:mg "NoName"=some (.ref (c 8))) (DR:ci P w K mg base 5 "read_row" ["row"] (cO zE (zF (c 9)))) (DF:ci P w K mg base 6 "read_frame" ["text"] (cO ze (zg (c 7)))) (DW:ci P w K mg base 3 "with_weight" ["frame","place","weight"] (cO zk (zm (c 2) (c 1)))) (DA:ci P w K mg base 15 "answer" ["frame","words"] (zJ (c 1))):av P w K mg base (bt P w) 16 f fd ["self","row"] (d7 C c):=by
 show F.dQ M6 λak A outer s H vs Q E hr h=>?_
 .obtain⟨d,dx,m,es,v,rfl,S,he,h⟩:=h;have nd:=M6.nd;have hu:=nX hr;show⟨_,b_ (j_ 2 (fK DR hr.mo (by rfl) (a_ (pv 1) d_))) (b_ (C_ (r_ dW (bH (pv 2) h_) n_ (bx _)) (b_ (tq hu (qb (pv 0) Z) (bH (pv 2) h_) (fK DF hr.mo (by rfl) (a_ (bH (pv 2) h_) d_)) Z) (g_ (k_ n_))) q_) (b_ (C_ (Gs (Ty hu (bH (pv 2) h_) (qb (pv 0) Z)) (by rfl)) (g_ (pA O (by rfl) hm n_)) q_) (b_ (j_ 3 (qC hu (qb (pv 0) Z) (bH (pv 2) h_) (by intro _ _;rfl))) (b_ (C_ (r_ dW (bH (pv 2) h_) n_ (bx _)) (b_ (tq hu (qb (pv 0) Z) (bH (pv 2) h_) (fK DW hr.mo (by rfl) (a_ (pv 3) (a_ (G_ Y_ (by rfl) T.int boot_int (a_ (bH (pv 2) h_) d_)) (a_ (G_ Y_ (by rfl) T.int boot_int (a_ (bH (pv 2) h_) d_)) d_)))) Z) (g_ (k_ n_))) q_) (b_ (C_ (r_ dW (bH (pv 2) h_) n_ (bx _)) (b_ (t_ (os_ (qb (pv 0) Z) (bH (pv 2) h_) ⟨Z,Z,Z,Z⟩)) (g_ (k_ n_))) q_) (g_ (k_ (fK DA hr (by rfl) (a_ (pv 3) (a_ (pv 2) d_)))))))))),?_⟩;rcases h with⟨nr,k⟩ | ⟨z,i,rfl,bW,zl,hb,h0,k⟩;.show⟨_,Z,.inr ⟨v,Z,nr,k⟩⟩
  show⟨_,Z,.inl ⟨z,Z,bW,zl,hb,λl H1 s1 nl hl=>?_⟩⟩;have S1:=S.keep s1;obtain⟨nm,h1,k1⟩:=k H1 s1 S1;clear k;generalize Mt.ba z=dD at h0 h1 hl k1;have e0:cv (dD.map V.str) 0=some (V.str (ii i)):=J_ (jD h0);have e1:cv (dD.map V.str) 1=some (V.str nm):=J_ (jD h1);show⟨_,Z,l,_,0,_,Z,Z,ag.of hl,e0,Z,_,Z,?_⟩;have kl:(es.map dU).length<sizeLine:=by rw[a2x];show a2L he (by decide)
  rcases k1 with⟨rfl,t,h2,ta,tl,k⟩ | ⟨i1,ED,k⟩
  .have e2:cv (dD.map V.str) 2=some (V.str t):=J_ (jD h2);show jE (by decide) ⟨_,Z,l,_,2,_,Z,Z,ag.of hl,e2,?_⟩;rcases k with⟨nw,k⟩ | ⟨b,ps,ws,ok,et,k⟩;.show .inr ⟨_,Z,.inl ⟨t,Z,ta,tl,nw⟩,k⟩
   .show .inl ⟨t,b,ps,ws,Z,ta,tl,ok,et,λg a a' H2 s2 G n1 n2 n3 _=>?_⟩;have S2:=S1.keep s2;show⟨_,Z,d,C,dx,_,_,Z,S2.ob,cl,nB,rD,_,Z,l,_,1,_,Z,Z,ag.of (s2 _ _ hl),e1,m,_,Z,.inl ⟨_,.inr nm,S2.dc,Z,kl,Z⟩,k g a a' _ n1 n2 n3 (S2.put (e:=⟨nm,g,a,a',b,ps,ws⟩) G) ((Kp.of s2).trans (EC m))⟩
  .have r:=ut_ ⟨i-1,by lia⟩;rw[show(((⟨i-1,by lia⟩:Fin 11):Nat)+1)=i by change i-1+1=i;lia] at r;show cQ r ⟨_,Z,l,_,1,_,Z,Z,ag.of hl,e1,_,Z,d,C,dx,_,_,Z,S1.ob,cl,nB,rD,m,_,Z,iI.k (k:=.inr nm) S1.dc,_,Z,?_⟩;rw[M3];rcases k with⟨nf,k⟩ | ⟨e,fe,k⟩
   .rw[nf];show bj (k H1 (ae.refl _))
   rw[fe];obtain⟨me,en⟩:=oY_ fe;have G:=S1.fr e me;have ve:b8 (es.map dU) (.inr nm)=some (.ref e.f):=by rw[M3,fe];rfl
   show aK ⟨_,Z,d,C,dx,_,_,Z,S1.ob,cl,nB,rD,_,Z,l,_,1,_,Z,Z,ag.of hl,e1,m,_,Z,.inl ⟨_,.inr nm,.inl S1.dc,Z,ve.symm⟩,⟨_,Z,l,_,0,_,Z,Z,ag.of hl,e0,Z,_,Z,?_⟩⟩;rcases k with⟨rfl,zp,zw,p,wt,h2,h3,ip,iw,lp,lw,k⟩ | ⟨rfl,k⟩ | ⟨i3,k⟩
   .have e2:cv (dD.map V.str) 2=some (V.str zp):=J_ (j:=2) (jD h2);have e3:cv (dD.map V.str) 3=some (V.str zw):=J_ (j:=3) (jD h3);show jE (by decide) ⟨_,Z,_,Z,l,_,2,_,Z,Z,ag.of hl,e2,zp,_,Z,ip,lp,_,Z,l,_,3,_,Z,Z,ag.of hl,e3,zw,_,Z,iw,lw,?_⟩;rcases k with⟨bp,k⟩ | ⟨hp,bw,k⟩ | ⟨hp,w1,w2,k⟩;.show .inr ⟨e.f,e.a,e.c,e.b,e.ps,e.ws,_,_,Z,G,.int _,.int _,.inl ⟨bp,k⟩⟩
    .show .inr ⟨e.f,e.a,e.c,e.b,e.ps,e.ws,_,_,Z,G,.int _,.int _,.inr ⟨by simp[b7];lia,bw,k⟩⟩
    .show .inl ⟨e.f,e.a,e.c,e.b,e.ps,e.ws,p,wt,Z,G,hp,w1,w2,λg a a' H2 s2 G2 n1 n2 n3=>?_⟩;have S2:=S1.keep s2;subst en;show⟨_,Z,d,C,dx,_,_,Z,S2.ob,cl,nB,rD,_,Z,l,_,1,_,Z,Z,ag.of (s2 _ _ hl),e1,m,_,Z,.inl ⟨_,.inr e.nm,S2.dc,Z,kl,Z⟩,k g a a' _ n1 n2 n3 (S2.put (e:=⟨e.nm,g,a,a',e.b,e.ps,e.ws.set p wt⟩) G2) ((Kp.of s2).trans (EC m))⟩
   .show cQ (by decide) ⟨_,Z,l,_,0,_,Z,Z,ag.of hl,e0,Z,_,Z,jE (by decide) ?_⟩;subst en;show⟨_,Z,d,C,dx,_,_,Z,S1.ob,cl,nB,rD,m,Z,.inl ⟨_,.inl S1.dc⟩,_,Z,l,_,1,_,Z,Z,ag.of hl,e1,_,.inr e.nm,_,S1.dc,Z,ve,k _ S1.drop (EC m)⟩
   .have rw1:=(us_ ⟨i,by lia⟩).resolve_left (by change ¬ i=1;lia);have rd:=(uu_ ⟨i,by lia⟩).resolve_left (by change ¬ i=2;lia);show cQ rw1 ⟨_,Z,l,_,0,_,Z,Z,ag.of hl,e0,Z,_,Z,cQ rd ⟨_,Z,_,Z,e.f,e.a,e.c,e.b,e.ps,e.ws,l,dD,i,Z,G,hl,h0,k⟩⟩
end
end Hv
namespace L2
open PySem PySem.Spec PyProof.Rows
def mM_{vs:List (ax×Value)}{ns:List Str}(hk:vs.map (·.1)=ns.map Sum.inr)(h:ItemsOf (λi v=>∃k x,vs[i]?=some (k,x)/\(v_ P w).is k v=true) acc vs.length):StrsAre acc.toList ns:=by
 have hl:vs.length=ns.length:=by simpa using congrArg List.length hk
 have at_:∀(i:Nat)  v ,acc.toList[i]?=some v->∃n t,ns[i]?=some n/\v=Value.str n t:=λi v e=>by
  obtain⟨k,x,h1,h2⟩:=h.2 i v (by rw[<-a4K];show e);have h3:(vs.map (·.1))[i]?=some k:=by rw[a2E,h1];rfl
  rw[hk,a2E] at h3
  cases q:ns[i]? with
  | none=>rw[q] at h3;cases h3
  | some m =>
   rw[q] at h3;have h4:=a2J h3;subst h4;have h5:jJ (Sum.inr m) v=true:=h2;rcases F_ h5 with⟨i',t,e1,e2⟩ | ⟨y,t,e1,e2⟩;.cases e1
   .simp_all
 have aL:∀ l   ns ,l.length=ns.length->(∀(i:Nat)  v ,l[i]?=some v->∃n t,ns[i]?=some n/\v=Value.str n t)->StrsAre l ns:=λl=>by
  induction l with
  | nil=>intro ns h1 _;cases ns with
   | nil=>show .nil
   | cons a b=>simp at h1
  | cons v r ih =>
   intro ns h1 h2
   cases ns with
   | nil=>simp at h1
   | cons a b =>
    obtain⟨n,t,e1,e2⟩:=h2 0 v Z;have:a=n:=by simpa using e1
    subst this;rw[e2];show .cons _ t (ih b (by simpa using h1) λi u hu=>h2 (i+1) u hu)
 show aL _ _ (by rw[a3X,h.1,hl]) at_
theorem M7:∀ {vs:List Value} {ns:List Str},StrsAre vs ns->az (ns.map V.str) vs
 | _,_,.nil=>.nil
 | _,_,.cons n t h=>.cons ⟨t,Z⟩ (M7 h)
section
variable{s:Shared}
def hG_(K:PySem.W.KdlSrc prog w T r d n P OK)(hh:A.handled=none)(am:OK s.heap)(hn:n<64)(hi:∀acc,ItemsOf P acc n->StrsAre acc.toList ns) (h:∀h' tk D c  out   bq ,(∀b o,s.heap.get? b=some o->h'.get? b=some o)->s.heap.objs.size<=D->h'.get? D=some (seqObj "list" out c)->StrsAre out.toList bq->bq.Perm ns->sortedS bq=true->Q (.ref D) {s with heap:=h',toks:=tk}) : wpAny (model prog w) A (call (.builtin "sorted") [.ref r]) Q E s:=by
 have cC:n<=sizeLine:=a2U (a4D hn) (by decide);show Calls.call_function_entry kind_sorted plain_sorted entry_sorted (args_sorted1 _) ?_;show wpAny_bind<|wpAny_pure<|wpAny_bind<|Srt.Jn K (by show hh) am cC λh1 tk acc k1 z1 dI=>?_;have hI:=hi acc dI;have hz:acc.toList.length<64:=by rw[a3X,dI.1];show hn
 have mn:acc.toList.length<=sizeLine:=a2U (a4D hz) (by decide);show wpAny_bind<|wpAny_newList ?_ (hsz:=mn);have iH:(h1.push<|seqObj "list" _ 0).get? _=some (seqObj "list" acc.toList.toArray 0):=a2F _ Z;show wpAny_bind<|wpAny_holding<|wpAny_call_entry slot_list_sort ⟨_,iH,Z⟩ entry_list_sort (list_sort_treeK strKind_oneLt iH hI.keysOf (λv1 v2 aY e=>keyKind_strs<|by rw[<-e];show hI) hz λao hp hs=>⟨_,Z,?_⟩)<|args_list_sort _;obtain⟨bq,a1,a2,a3⟩:=sorted_out_str hI hp hs;obtain⟨⟨c',g1⟩,g2⟩:=Srt.Jo iH;show wpAny_pure ⟨_,Z,h _ _ _ c' _ bq (λb o e=>?_) ?_ g1 a1 a2 a3⟩
 .have e1:=k1 b o e;show g2 b o (a2V<|a2C e1)<|a2y _ e1
 .show a4D z1
end
def hq_(hc:X.calm=true):dw X (.builtin "sorted") (λxs H Q=>∃(a:Addr) (kvs:List (ax×V)) (ns:List Str),xs=[.ref a]/\Rd H a (.dK kvs)/\kvs.map (·.1)=ns.map Sum.inr/\kvs.length<64/\ ∀ l   bq ,H l=none->bq.Perm ns->sortedS bq=true->Q (.ref l) (ad H l (.lst (bq.map V.str)))):=by
 intro aa s σ H xs us Q I r h;obtain⟨a,kvs,ns,rfl,e,hk,EE,q⟩:=h;obtain⟨u,rfl,ru⟩:=vals1 r;cases ru;obtain⟨z,hd,vs,aX,o,es,ep,ho,dd⟩:=jZ I.am e;have ia:vs.map (·.1)=ns.map Sum.inr:=by rw[<-aX.keys];show hk
 have hl:vs.length=ns.length:=by simpa using congrArg List.length ia
 show hG_ (a5r hd) (I.ok.hd hc) ⟨o,es,ho,dd⟩ (by rw[<-aX.length];show EE) (λacc dI=>mM_ ia dI) λh' tk D c out bq k hD hg hI hp hs=>?_;have hz:(bq.map V.str).length<=sizeLine:=by rw[a2x,hp.length_eq,<-hl,<-aX.length];show z
 show⟨.ref D,_,I.laid (o:=.lst _) k hD ⟨hz,out.toList,c,M7 hI,by simpa using hg⟩,Z,q D bq (I.am.fresh hD) hp hs⟩
end L2
namespace Hv
open PySem L2 PySem.Spec PyProof.Rows
def a0o:jV (bt P w) X E0:=λ_ _ _ _ _ _ _ ⟨_,_,_,_,_,_,_,_,_,_,h⟩=>h.elim
section
variable{p pos bo:Pos}
def EF{pl:Sem Bool}(c:cS X.K C)(D:iX X.prog X.w X.K X.mg X.base k C m ps sp)(hr:bD k X.A)(he:PE X o ta)(ha:PA X (e::es) t)
  (eT:starEach (e::es) X.env=(false,eval e X.env)::starEach es X.env:=by rfl) (cy:(backTo pos (starEach es X.env)).any (·.1)=false:=by rfl)
  (ht:eval (.Call (.Attribute o m bo) (e::es) [] pos) X.env=(do
   let ov <-eval o X.env
   standAt bo.atName
   let (f,first) <-holding [ov] (getMethod ov m pl)
   callWith pos f first (backTo pos (starEach (e::es) X.env)) (backToKw pos (keywordEach [] X.env))):=by rfl) :
  PE X (.Call (.Attribute o m bo) (e::es) [] pos) (sf C m sp [] E0 ta t):=by
 obtain⟨f,fd,G,h1,h2⟩:=D.ex;show G8 he c h1 G hr h2 .nil a0o ha eT cy ht
def M8(D:zi X.prog X.w X.K X.mg X.base k x C ps sp)(hr:bD (k+1) X.A)(hg:Gl X x)(fE:(x==("__debug__":Str))=false:=by decide):PE X (.Call (.Name x p) [] [] pos) (G6 C sp [] E0 ee):=by
 obtain⟨f,fd,G,h1,h2,h3⟩:=D.ex;show Rm h1 G hr hg h2 h3 .nil sB fE
end
inductive zK(C:Addr)(vs:List V)(H:Hp)(Q:VK)(aq:XK):Prop
 | mk:∀(d dx:Addr),(vs=[.ref d])->(H d=some (.ins C dx []))->(∀(m:Addr) (H':Hp),H m=none->bK C H' d dx m []->Kp [d] H H'->Q .au H')->zK C vs H Q aq
inductive kr(C:Addr)(vs:List V)(H:Hp)(Q:VK)(aq:XK):Prop
 | mk:∀(d dx m:Addr) (es:List DE),(vs=[.ref d])->(bK C H d dx m es)->(es.length<64)->(∀(l:Addr) (ns:List Str),H l=none->ns.Perm (es.map (·.nm))->sortedS ns=true->Q (.ref l) (ad H l (.lst (ns.map V.str))))->kr C vs H Q aq
def qB_:aI ["self"] ["self"] (f_ BK):=⟨Z,Z,Z,by decide,Z,by decide,by decide⟩
def qy_:aI ["self"] ["self"] (f_ BL):=⟨Z,Z,Z,by decide,Z,by decide,by decide⟩
section
variable{K:PySem.W.Frag}
def oF_(F:ay K "__init__" "Desk.__init__" BK f fd)(cl:cS K C)(nB:kL K C "by_name"):av P w K mg base aE 1 f fd ["self"] (zK C):=by
 show F.ok qB_ λak A outer s H vs Q E hr h=>?_
 .obtain⟨d,dx,rfl,hd,k⟩:=h;show⟨_,g_ (Re (pv 0) tD Z),?_⟩;intro m hm;have ne:d≠m:=λz=>by rw[z,hm] at hd;cases hd
  show⟨_,Z,d,C,dx,[],Z,by rw[i_ ne];show hd,cl,nB,by decide,k m _ hm ⟨c_,by rw[i_ (Ne.symm ne)];show c_,λe he=>by cases he⟩ ?_⟩;intro b o e n;have n1:b≠d:=λz=>n (by rw[z];show a2Z.mpr Z);have n2:b≠m:=λz=>by rw[z,hm] at e;cases e
  rw[i_ n1,i_ n2];show e
def oC_(F:ay K "names" "Desk.names" BL f fd)(cl:cS K C)(nB:kL K C "by_name")(hS:mg "sorted"=none):av P w K mg base aE 1 f fd ["self"] (kr C):=by
 show F.ok qy_ λak A outer s H vs Q E hr h=>?_
 .obtain⟨d,dx,m,es,rfl,S,EE,k⟩:=h;show⟨_,g_<|k_<|p_ (hq_ Z) (by rfl) hS boot_sorted<|a_ (qb (pv 0) Z) d_,⟨_,Z,d,C,dx,_,_,Z,S.ob,cl,nB,rD,m,_,es.map (·.nm),Z,.inl S.dc,?_,by rw[a2x];show EE,k⟩⟩;rw[a3v,a3v];rfl
end
end Hv
namespace L2
open PySem PySem.Spec PyProof.Rows
def M9(a b:Bool):MeetsSeq.EqGives (.bool a) (.bool b) (a==b):=λprog w A E s Q h=>PySem.SeqAt.EqAt.bool_bool a b _ w E Q h
def vh:Value->Bool
 | .bool b=>b
 | _=>false
theorem EG:∀ {bs:List Bool} {af:List Value},az (bs.map V.bl) af->af=bs.map Value.bool
 | [],af,r=>by cases r;rfl
 | b::bs,af,r=>by
  cases r with
  | cons h t =>
   rw[EG t,show _=Value.bool b from h];rfl
theorem M':∀bs:List Bool,(bs.map Value.bool).countP vh=bs.countP id
 | []=>rfl
 | b::bs=>by
  rw[a2X,List.countP_cons,List.countP_cons,M' bs];rfl
inductive Na(x:V)(vs:List V)(H:Hp)(Q:VK):Prop
 | mk:∀(l:Addr) (bs:List Bool) (j:Nat),(x=.ref l)->(vs=[.bl true])->(H l=some (.lst (bs.map V.bl)))->(bs[j]?=some true)->((∀m:Nat,m<j->bs[m]?=some false))->(Q (.int j) H)->Na x vs H Q
def mE_:we X "list.index" Na:=by
 intro aa s σ H x vs v us Q I rx rv h;obtain⟨l,bs,j,rfl,rfl,hH,hj,hno,q⟩:=h;cases rx;obtain⟨u,rfl,ru⟩:=rv.one;cases ru;obtain⟨z,af,n,r,hl,e⟩:=I.lZ hH;have ei:=EG r;subst ei;have hz:bs.length<=sizeLine:=by rw[a2x] at z;show z
 have gJ:(sizeLine:Nat)<2 ^ 62:=by decide
 have mv:=(a2z.mp hj).1;show call_meets F.slot_list_index ⟨_,e,Z⟩ F.entry_list_index (F.args_list_index_2 _ _) (MeetsSeq.list_index l (bs.map Value.bool).toArray n (.bool true) vh (λy hy=>?_) j (by rw[a2S,a2x];show mv) (by lia) ?_ ?_) ⟨e,⟨.int j,H,I.tok _,⟨_,Z⟩,q⟩⟩
 .obtain⟨b,_,rfl⟩:=a2N.mp (show y∈bs.map Value.bool by simpa using hy);have:=M9 b true;rwa [show(b==true)=b by cases b <;> rfl] at this
 .have:=(a2z.mp hj).2;simp[vh,this]
 .intro m hm cW;have:=(a2z.mp (hno m cW)).2;simp[vh,this]
inductive Nb(x:V)(vs:List V)(H:Hp)(Q:VK):Prop
 | mk:∀(l:Addr) (bs:List Bool),(x=.ref l)->(vs=[.bl true])->(H l=some (.lst (bs.map V.bl)))->(Q (.int ((bs.countP id:Nat):Int)) H)->Nb x vs H Q
def mF_:we X "list.count" Nb:=by
 intro aa s σ H x vs v us Q I rx rv h;obtain⟨l,bs,rfl,rfl,hH,q⟩:=h;cases rx;obtain⟨u,rfl,ru⟩:=rv.one;cases ru;obtain⟨z,af,n,r,hl,e⟩:=I.lZ hH;have ei:=EG r;subst ei;show call_meets F.slot_list_count ⟨_,e,Z⟩ F.entry_list_count (F.args_list_count_2 _ _) (MeetsSeq.list_count l (bs.map _).toArray n _ vh λy hy=>?_) ⟨e,?_⟩
 .obtain⟨b,_,rfl⟩:=a2N.mp (show y∈bs.map _ by simpa using hy);have:=M9 b true;rwa [show(b==true)=b by cases b <;> rfl] at this
 .rw[List.toList_toArray,M'];show⟨.int _,H,I.tok _,⟨_,Z⟩,q⟩
end L2
namespace Hv
open PySem L2
def db(i:Nat):Str:=if i=8 then "name" else if i=1 then "number" else if i=2 then "part" else if i=9 then "row" else "text"
def iY(i:Nat):Prop:=i=8\/i=1\/i=2\/i=9\/i=7
def pH(i:Nat):List Bool:=[decide (i=8),decide (i=1),decide (i=2),decide (i=9),decide (i=7)]
def zL(i:Nat):Nat:=if i=8 then 0 else if i=1 then 1 else if i=2 then 2 else if i=9 then 3 else 4
def zN:List Str:=["name","number","part","row","text"]
def uj_(h:iY i):(pH i).countP id=1/\(pH i)[zL i]?=some true/\(∀m,m<zL i->(pH i)[m]?=some false)/\(zN.map V.str)[zL i]?=some (V.str (db i)):=by rcases h with rfl | rfl | rfl | rfl | rfl <;> show⟨Z,Z,by decide,Z⟩
inductive Nd(K:PySem.W.Frag)(c:Nat->Addr)(D:Ends)(σ:St)(H:Hp):Prop
 | mk:∀s0 s1 s2 s4 s5 x C,∀i:Nat,(σ=[s0,s1,s2,some (.ref x),s4,s5])->(H x=some (pB x C))->(Kind K c C i)->(iY i)->(∀k o (l:Addr) H',ae H H'->H' l=some (.lst [.bl true,.str (db i)])->D.nx [s0,s1,some (.ref l),some (.ref x),k,o] H')->Nd K c D σ H
abbrev a0p:List Str:=["desk","row","found","e","kinds","others"]
def Nf:aI a0p ["desk","row"] (f_ BJ):=⟨Z,Z,Z,by decide,Z,by decide,by decide⟩
inductive lN(C:Addr)(c:Nat->Addr)(vs:List V)(H:Hp)(Q:VK)(aq:XK):Prop
 | mk:∀(d:Addr) (dx:Addr) (fs:List (Str×V)) (v:V),(vs=[.ref d,v])->(H d=some (.ins C dx fs))->(fs.lookup ("say":Str)=none)->(∀l0,H l0=none->∀(Qs:VK) (Es:XK),(∀u H1,H1 l0=some (.lst [.bl false,.au])->Q (.ref l0) (ad H1 l0 (.lst [.bl false,u]))->Qs u H1)->(∀i H1,iY i->(∀(l:Addr) H',ae H1 H'->H' l=some (.lst [.bl true,.str (db i)])->Q (.ref l) H')->Es (.ref (c i)) none H1)->d7 C c [.ref d,v] (ad H l0 (.lst [.bl false,.au])) Qs Es)->lN C c vs H Q aq
def qO_{f:Addr}{fd:FuncData}{B:Addr}(F:ay K "_law_said" "_law_said" BJ f fd)(T:Txt mg)(en:MC mg c)(hB:mg "HalfError"=some (.ref B))(U:∀i,iY i->Up K (c i) B)(kd:∀i,iY i->Kind K c (c i) i)(cl:cS K C) (M:iX P w K mg base 16 C "say" ["self","row"] (d7 C c)):av P w K mg base aE 17 f fd ["desk","row"] (lN C c):=by
 show F.ok Nf λak A outer s H vs Q E hr h=>?_
 .obtain⟨d,dx,fs,v,rfl,hd,sD,k⟩:=h;have nd:=Nf.nd
  show⟨_,b_ (j_ 2 (x_ (a_ ff (a_ iu d_))))
   (b_ (ZF (ie:=3) (ZA (qF_ cl M hr (pv 0) (a_ (pv 1) d_) (nH (pv 2) h_ nV))) Z Z Z nd Z (Or.inl Z) Z Z (Or.inl Z) (by rfl) hB
     (λv=>fJ (t':=Nd K c) (b_ (j_ 4 (x_ (a_ (p_ rq (by rfl) T.fF boot_isinstance (a_ (pv 3) (a_ (U_ (v:=.ref (c 8)) (by rfl) en.n8 Z) d_))) (a_ (p_ rq (by rfl) T.fF boot_isinstance (a_ (pv 3) (a_ (U_ (v:=.ref (c 1)) (by rfl) en.n1 Z) d_))) (a_ (p_ rq (by rfl) T.fF boot_isinstance (a_ (pv 3) (a_ (U_ (v:=.ref (c 2)) (by rfl) en.n2 Z) d_))) d_)))))
     (b_ (j_ 4 (o_ gY (pv 4) (x_ (a_ (p_ rq (by rfl) T.fF boot_isinstance (a_ (pv 3) (a_ (U_ (v:=.ref (c 9)) (by rfl) en.n9 Z) d_))) (a_ (p_ rq (by rfl) T.fF boot_isinstance (a_ (pv 3) (a_ (U_ (v:=.ref (c 7)) (by rfl) en.n7 Z) d_))) d_)))))
     (b_ (j_ 5 (p_ ZS (by rfl) T.fF boot_isinstance (a_ (pv 3) (a_ (gX (a_ (U_ (v:=.ref (c 5)) (by rfl) en.n5 Z) (a_ (U_ (v:=.ref (c 0)) (by rfl) en.n0 Z) (a_ (U_ (v:=.ref (c 6)) (by rfl) en.n6 Z) (a_ (U_ (v:=.ref (c 4)) (by rfl) en.n4 Z) (a_ (U_ (v:=.ref (c 3)) (by rfl) en.n3 Z) d_)))))) d_))))
     (b_ (j_ 2 (x_ (a_ ff (a_ n_ d_))))
     (g_ (C_ (PW.pt (vH (L_ (p_ rq (by rfl) T.fF boot_isinstance (a_ (pv 3) (a_ (lf en.ve ZT) d_)))) (vH (N_ (L_ (pv 5))) (As (r_ dW (dh PySem.F.plainAttrs_list PySem.F.slot_list_count PySem.F.type_list_count mF_ (pv 4) (a_ ff d_)) h_ (bx _)))))) (g_ (j_ 2 (x_ (a_ ff (a_ (bH (x_ (a_ n_ (a_ n_ (a_ n_ (a_ n_ (a_ n_ d_)))))) (dh PySem.F.plainAttrs_list PySem.F.slot_list_index PySem.F.type_list_index mE_ (pv 4) (a_ ff d_))) d_))))) q_))))))
     (λD σ H h=>by
      obtain⟨s0,s1,s2,s4,s5,x,C,i,rfl,hx,kd,hi,k⟩:=h;obtain⟨b1,b2,b3,b4⟩:=uj_ hi
      have n1:∀d∈[c 5,c 0,c 6,c 4,c 3],PySem.W.kitOne K (.ref C) (.ref d)=some false:=λd hd=>by
       have kf:∀j,j<10->¬ i=j->PySem.W.kitOne K (.ref C) (.ref (c j))=some false:=λj h1 h2=>by rw[kd.kt j h1,decide_eq_false h2]
       have cY:i=8\/i=1\/i=2\/i=9\/i=7:=hi;simp only[a2B,a2Q,or_false] at hd;rcases hd with rfl | rfl | rfl | rfl | rfl <;> show kf _ (by decide) (by lia)
      show⟨_,Z,x,C,_,_,_,Z,hx,kd.cl,λ_ r=>r,kd.kt 8 (by decide),⟨_,Z,x,C,_,_,_,Z,hx,kd.cl,λ_ r=>r,kd.kt 1 (by decide),⟨_,Z,x,C,_,_,_,Z,hx,kd.cl,λ_ r=>r,kd.kt 2 (by decide),sz (by simp),λl1 bY=>?_⟩⟩⟩;have t1:=e_ (o:=.lst [.bl (decide (i=8)),.bl (decide (i=1)),.bl (decide (i=2))]) bY;have u1:(ad H l1 (.lst [.bl (decide (i=8)),.bl (decide (i=1)),.bl (decide (i=2))])) l1=_:=c_;generalize ad H l1 (.lst [.bl (decide (i=8)),.bl (decide (i=1)),.bl (decide (i=2))])=H1 at t1 u1⊢;have iL:=t1 _ _ hx;show⟨_,Z,_,Z,x,C,_,_,_,Z,iL,kd.cl,λ_ r=>r,kd.kt 9 (by decide),⟨_,Z,x,C,_,_,_,Z,iL,kd.cl,λ_ r=>r,kd.kt 7 (by decide),sz (by simp),λl2 aS=>?_⟩⟩;have t2:=e_ (o:=.lst [.bl (decide (i=9)),.bl (decide (i=7))]) aS;have u2:(ad H1 l2 (.lst [.bl (decide (i=9)),.bl (decide (i=7))])) l2=_:=c_;generalize ad H1 l2 (.lst [.bl (decide (i=9)),.bl (decide (i=7))])=H2 at t2 u2⊢;show⟨l1,l2,_,_,Z,Z,t2 _ _ u1,u2,sz (by simp),λl3 dR=>?_⟩;have t3:=(t1.trans t2).trans (e_ (o:=.lst ((pH i).map V.bl)) dR);have u3:(ad H2 l3 (.lst ((pH i).map V.bl))) l3=_:=c_;change(kG _ _) _ _ (ad H2 l3 (.lst ((pH i).map V.bl)));generalize ad H2 l3 (.lst ((pH i).map V.bl))=H3 at t3 u3⊢;show⟨_,Z,sz (by simp),λp1 kg=>⟨x,C,p1,[c 5,c 0,c 6,c 4,c 3],Z,e_ kg _ _ (t3 _ _ hx),c_,kd.cl,n1,?_⟩⟩;have t4:=t3.trans (e_ (o:=.tup [.ref (c 5),.ref (c 0),.ref (c 6),.ref (c 4),.ref (c 3)]) kg);have u4:=e_ (o:=.tup [.ref (c 5),.ref (c 0),.ref (c 6),.ref (c 4),.ref (c 3)]) kg _ _ u3;generalize ad H3 p1 (.tup [.ref (c 5),.ref (c 0),.ref (c 6),.ref (c 4),.ref (c 3)])=H4 at t4 u4⊢;show⟨sz (by simp),λl5 Ng=>?_⟩;have t5:=t4.trans (e_ (o:=.lst [.bl true,.str "other"]) Ng);have u5:=e_ (o:=.lst [.bl true,.str "other"]) Ng _ _ u4;generalize ad H4 l5 (.lst [.bl true,.str "other"])=H5 at t5 u5⊢;show⟨_,Z,x,C,_,_,_,Z,t5 _ _ hx,kd.cl,λ_ r=>r,kd.kv,true,Z,bj ⟨_,Z,false,Z,bj ⟨_,Z,.inl ⟨Z,_,ag.of u5⟩,l3,_,Z,Z,u5,Z,_,Z,?_⟩⟩⟩;rw[b1];show bj ⟨sz (by simp),λl6 oZ=>?_⟩;have t6:=t5.trans (e_ (o:=.lst (zN.map V.str)) oZ);have u6:=e_ (o:=.lst (zN.map V.str)) oZ _ _ u5;have v6:(ad H5 l6 (.lst (zN.map V.str))) l6=_:=c_;show⟨_,Z,.inl ⟨Z,_,ag.of u6⟩,l3,_,zL i,Z,Z,u6,b2,b3,l6,_,_,_,Z,Z,ag.of v6,J_ b4,sz (by simp),λl7 hl7=>k _ _ l7 _ (t6.trans (e_ hl7)) c_⟩)))
   (g_ (k_ (pv 2)))),?_⟩;show⟨sz (by simp),λl0 nY=>?_⟩;have ne:d≠l0:=λz=>by rw[z,nY] at hd;cases hd
  show⟨_,Z,d,dx,fs,Z,by rw[i_ ne];show hd,sD,_,Z,?_⟩;unfold ee;show k l0 nY _ _ ?_ ?_
  .intro u H1 h1 q;show⟨_,Z,l0,_,_,1,Z,Z,h1,Z,⟨_,Z,q⟩⟩
  .intro i H1 hi q;show⟨_,Z,U i hi,λx hx=>⟨_,_,_,_,_,x,c i,i,Z,c_,kd i hi,hi,λk' o l H2 s2 hl=>⟨_,Z,q l H2 ((e_ hx).trans s2) hl⟩⟩⟩
end Hv
namespace L2
open PySem PySem.Spec PyProof.Rows
def kf_:cu X (binaryOp .Mult) (λx y H Q=>∃i n,x=.str i/\y=.int n/\MulOk i n/\Q (.str (Txt.mul i n)) H):=by
 intro aa s σ H x y v u Q I rx ry h;obtain⟨i,n,rfl,rfl,hz,q⟩:=h;obtain⟨t,rfl⟩:=rx;obtain⟨t',rfl⟩:=ry;show SB.mul hz λt' tk=>⟨.str<|Txt.mul i n,H,I.tok _,⟨_,Z⟩,q⟩
def c0:Expr->Option Str
 | .Constant (.str x) _ _=>some x
 | .BinOp (.Constant (.str x) _ _) .Mult (.Constant (.int n) _ _) _=>if x.length=1/\2<=n/\n<=100 then some (Txt.mul x n) else none
 | _=>none
def c1:Expr->Option Str
 | .BinOp a .Add b _=>match c0 a,c0 b with
  | some x,some y=>if x.length+y.length<=1000 then some (x++y) else none
  | _,_=>none
 | e=>c0 e
def cL:List Expr->Option (List Str)
 | []=>some []
 | e::r=>match c1 e,cL r with
  | some z,some zs=>some (z::zs)
  | _,_=>none
def cP:Expr->Option (Str×Str)
 | .Tuple [a,b] _ _=>match c1 a,c0 b with
  | some x,some y=>some (x,y)
  | _,_=>none
 | _=>none
def mV:List Expr->Option (List (Str×Str))
 | []=>some []
 | e::r=>match cP e,mV r with
  | some z,some zs=>some (z::zs)
  | _,_=>none
def sY_(h0:x.length=1)(h1:2<=n)(h2:n<=100):MulOk x n:=by
 show⟨?_,λ_ _=>?_,λ_ _=>?_⟩;.lia
 .rw[h0];have: 1 <=(2 ^ 63-1) / n:=Int.le_ediv_of_mul_le (by lia) (by lia);lia
 .rw[h0];unfold Builtin.Str.tooLong;have : sizeLine >= 1000 := by decide
  simp;lia
def zO(h:c0 e=some z):PE X e (tC (.str z)):=by
 unfold c0 at h;split at h;.cases h;show n_
 .split at h
  .rename_i hc;cases h;show λaa s σ H Q I q=>o_ kf_ n_ h_ aa s σ H Q I ⟨_,_,Z,Z,sY_ hc.1 hc.2.1 hc.2.2,q⟩
  .cases h
 .cases h
def Nh(h:c1 e=some z):PE X e (tC (.str z)):=by
 unfold c1 at h;split at h
 .rename_i a b p
  cases ha:c0 a with
  | none=>rw[ha] at h;cases h
  | some x =>
   cases hb:c0 b with
   | none=>rw[ha,hb] at h;cases h
   | some y =>
    rw[ha,hb] at h;dsimp only at h;split at h
    .rename_i hl;cases h;intro aa s σ H Q I q;show o_ y_ (zO ha) (zO hb) aa s σ H Q I ⟨_,_,Z,Z,a2U hl (by decide),q⟩
    .cases h
 .show zO h
def Ni(h:c0 e=some z):starEach (e::es) env=(false,eval e env)::starEach es env:=by
 unfold c0 at h;split at h;.rfl
 .rfl
 .cases h
def Nj(h:c1 e=some z):starEach (e::es) env=(false,eval e env)::starEach es env:=by
 unfold c1 at h;split at h;.rfl
 .show Ni h
def a0q(zs:List Str):TA:=λ_ H Q=>Q (zs.map V.str) H
theorem gn:∀ {es:List Expr} {zs:List Str},cL es=some zs->PA X es (a0q zs)
 | [],zs,h=>by
  cases h;show d_
 | e::r,zs,h=>by
  unfold cL at h
  cases he:c1 e with
  | none=>rw[he] at h;cases h
  | some z =>
   cases hr:cL r with
   | none=>rw[he,hr] at h;cases h
   | some ys =>
    rw[he,hr] at h;cases h;show a_ (Nh he) (gn hr) (Nj he)
def gP(H:Hp)(ts:List Addr)(ps:List (Str×Str)):Prop:=ts.length=ps.length/\∀(k:Nat) (t:Addr) (p:Str×Str),ts[k]?=some t->ps[k]?=some p->H t=some (.tup [.str p.1,.str p.2])
def a0r(ps:List (Str×Str)):TA:=λ_ H Q=>∀ts H',(∀b o,H b=some o->H' b=some o)->gP H' ts ps->Q (ts.map V.ref) H'
def uC_(h:cP e=some p):PE X e (λ_ H Q=>∀t,H t=none->Q (.ref t) (ad H t (.tup [.str p.1,.str p.2])))/\∀ es   env ,starEach (e::es) env=(false,eval e env)::starEach es env:=by
 unfold cP at h;split at h
 .rename_i a b x1 pos
  cases ha:c1 a with
  | none=>rw[ha] at h;cases h
  | some x =>
   cases hb:c0 b with
   | none=>rw[ha,hb] at h;cases h
   | some y =>
    rw[ha,hb] at h;cases h;show⟨λaa s σ H Q I q=>(gX (a_ (Nh ha) (a_ (zO hb) d_ (Ni hb)) (Nj ha)) aa s σ H Q I ⟨by change 2<=sizeLine;decide,q⟩),λ_ _=>rfl⟩
 .cases h
theorem EH:∀ {es:List Expr} {ps:List (Str×Str)},mV es=some ps->PA X es (a0r ps)
 | [],ps,h=>by
  cases h;show λpos aa s σ H Q I q=>d_ pos aa s σ H Q I<|q [] H (λ_ _ e=>e) ⟨Z,λk t p h=>by simp at h⟩
 | e::r,ps,h=>by
  unfold mV at h
  cases he:cP e with
  | none=>rw[he] at h;cases h
  | some z =>
   cases hr:mV r with
   | none=>rw[he,hr] at h;cases h
   | some ys =>
    rw[he,hr] at h;cases h;obtain⟨h1,h2⟩:=uC_ he;show λpos aa s σ H Q I q=>a_ h1 (EH hr) (h2 _ _) pos aa s σ H Q I λt ht ts H' s' pr=>q (t::ts) H' (λb o e=>s' b o ?_) ⟨by simp[pr.1],λk u p hu hp=>?_⟩;.rw[i_ (λz=>by rw[z,ht] at e;cases e)];show e
    .cases k with
     | zero =>
      simp at hu hp;subst hu;subst hp;show s' _ _ c_
     | succ k=>show pr.2 k u p (by simpa using hu)<|by simpa using hp
end L2
namespace Hv
open PySem L2
def ku(x:Str):List Stmt->Option (List Str)
 | []=>some []
 | .Assign [.Name y _] (.BinOp (.Name y' _) .Add (.List es _) _) _::r=>if y=x/\y'=x then match cL es,ku x r with
  | some a,some b=>some (a++b)
  | _,_=>none else none
 | _=>none
def rF(x:Str):List Stmt->Option (List (Str×Str))
 | []=>some []
 | .Assign [.Name y _] (.BinOp (.Name y' _) .Add (.List es _) _) _::r=>if y=x/\y'=x then match mV es,rF x r with
  | some a,some b=>some (a++b)
  | _,_=>none else none
 | _=>none
def fL(h:gP H ts ps)(s:ae H H'):gP H' ts ps:=⟨h.1,λk t p h1 h2=>s _ _<|h.2 k t p h1 h2⟩
def rG(h:gP H ts ps)(g:gP H us qs):gP H (ts++us) (ps++qs):=by
 show⟨by simp[h.1,g.1],λk t p h1 h2=>?_⟩;by_cases hk:k<ts.length
 .rw[a3k hk] at h1;rw[a3k (by rw[<-h.1];show hk)] at h2;show h.2 k t p h1 h2
 .rw[a3o (by lia)] at h1;rw[a3o (by rw[<-h.1];lia),<-h.1] at h2;show g.2 _ t p h1 h2
def Nk{σ:St}(h:σ[i]?=some v):σ.set i v=σ:=by
 apply a5h;intro j;rw[List.getElem?_set];have hi:=(a2z.mp h).1;split;.rename_i e;rw[<-e,h]
 .rfl
inductive Nl(i:Nat)(zs:List Str)(u:TS)(D:Ends)(σ:St)(H:Hp):Prop
 | mk:∀(l:Addr) (xs:List Str),(σ[i]?=some (some (.ref l)))->(H l=some (.lst (xs.map V.str)))->(xs.length+zs.length<=1000)->(∀(l':Addr) (H':Hp),ae H H'->H' l'=some (.lst ((xs++zs).map V.str))->u D (σ.set i (some (.ref l'))) H')->Nl i zs u D σ H
inductive Nm(i:Nat)(ps:List (Str×Str))(u:TS)(D:Ends)(σ:St)(H:Hp):Prop
 | mk:∀(l:Addr) (us:List Addr) (qs:List (Str×Str)),(σ[i]?=some (some (.ref l)))->(H l=some (.lst (us.map V.ref)))->(gP H us qs)->(qs.length+ps.length<=1000)->(∀(l':Addr) (ij:List Addr) (H':Hp),ae H H'->gP H' ij (qs++ps)->H' l'=some (.lst (ij.map V.ref))->u D (σ.set i (some (.ref l'))) H')->Nm i ps u D σ H
section
variable{aY:List Stmt}
theorem zP(hN:X.N.Nodup)(hi:X.N[i]?=some x)(hx:Loc X.env.scope x)(hv:∀p,PE X (.Name x p) (jN i))(hf:X.fn x=true)(hu:bQ X aY u):∀(nE:List Stmt) (zs:List Str),ku x nE=some zs->bQ X (nE++aY) (Nl i zs u)
 | [],zs,h=>by
  cases h;show fJ hu λD σ H h=>?_;obtain⟨l,xs,e,hl,_,k⟩:=h;have:=k l H (ae.refl _) (by rw[a3H];show hl);rwa [Nk e] at this
 | st::r,zs,h=>by
  unfold ku at h;split at h;.rename_i h0;cases h0
  .rename_i y p1 y' p2 es p3 p4 p5 r' h0;cases h0;split at h
   .rename_i hc;have e1:=hc.1.symm;have e2:=hc.2.symm;subst e1 e2
    cases he:cL es with
    | none=>rw[he] at h;cases h
    | some a =>
     cases hr:ku x r with
     | none=>rw[he,hr] at h;cases h
     | some b =>
      rw[he,hr] at h;cases h;show fJ (b_ (j_ _ (hN:=hN) (hi:=hi) (hx:=hx) (o_ gY (hv _)<|x_<|gn he) (hf:=.inl hf))<|zP hN hi hx hv hf hu r b hr) λD σ H h=>?_;obtain⟨l,xs,e,hl,hz,k⟩:=h;rw[a2O] at hz;have cY:=(a2z.mp e).1;show⟨_,e,sz<|by simp;lia,λm hm=>?_⟩;have s1:=e_ (o:=.lst (a.map V.str)) hm;show⟨l,m,_,_,Z,Z,s1 _ _ hl,c_,sz<|by simp;lia,λp hp=>⟨p,xs++a,by simp[cY],by rw[c_,a3e],by simp;lia,λl' H' s' cW=>?_⟩⟩;have:=k l' H' ((s1.trans<|e_ hp).trans s') (by rw[<-a3l];show cW);rwa [List.set_set]
   .cases h
  .cases h
theorem Nn(hN:X.N.Nodup)(hi:X.N[i]?=some x)(hx:Loc X.env.scope x)(hv:∀p,PE X (.Name x p) (jN i))(hf:X.fn x=true)(hu:bQ X aY u):∀(nE:List Stmt) (ps:List (Str×Str)),rF x nE=some ps->bQ X (nE++aY) (Nm i ps u)
 | [],ps,h=>by
  cases h;show fJ hu λD σ H h=>?_;obtain⟨l,us,qs,e,hl,pr,_,k⟩:=h;have:=k l us H (ae.refl _) (by rw[a3H];show pr) hl;rwa [Nk e] at this
 | st::r,ps,h=>by
  unfold rF at h;split at h;.rename_i h0;cases h0
  .rename_i y p1 y' p2 es p3 p4 p5 r' h0;cases h0;split at h
   .rename_i hc;have e1:=hc.1.symm;have e2:=hc.2.symm;subst e1 e2
    cases he:mV es with
    | none=>rw[he] at h;cases h
    | some a =>
     cases hr:rF x r with
     | none=>rw[he,hr] at h;cases h
     | some b =>
      rw[he,hr] at h;cases h;show fJ (b_ (j_ _ (hN:=hN) (hi:=hi) (hx:=hx) (o_ gY (hv _) (x_ (EH he))) (hf:=.inl hf)) (Nn hN hi hx hv hf hu r b hr)) λD σ H h=>?_;obtain⟨l,us,qs,e,hl,pr,hz,k⟩:=h;rw[a2O] at hz;have cY:=(a2z.mp e).1;have ul:=pr.1;show⟨_,e,λts H1 s1 vi=>⟨sz (by rw[a2x,vi.1];lia),λm hm=>?_⟩⟩;have rC:ae H H1:=s1;have s2:=e_ (o:=.lst (ts.map V.ref)) hm;show⟨l,m,_,_,Z,Z,s2 _ _ (rC _ _ hl),c_,sz (by rw[a2x,a2x,vi.1,ul];lia),λp hp=>?_⟩;have s3:=s2.trans (e_ (o:=.lst (us.map V.ref++ts.map V.ref)) hp);show⟨p,us++ts,qs++a,by simp[cY],by rw[c_,a3e],rG (fL pr (rC.trans s3)) (fL vi s3),by rw[a2O];lia,λl' ij H' s' pr' cW=>?_⟩;have:=k l' ij H' ((rC.trans s3).trans s') (by rw[<-a3l];show pr') cW;rwa [List.set_set]
   .cases h
  .cases h
end
end Hv
namespace Mt
open PySem
theorem No:∀(l:List Nat) (a:Nat),(∀d∈l,d<=9)->l.foldl (λa d=>a*10+d) a<(a+1)*10 ^ l.length
 | [],a,_=>by simp
 | d::l,a,h=>by
  have hd:=h d a2Y;have:=No l (a*10+d) λx hx=>h x (a2G _ hx);rw[a2W,a2P,a4c];show a2L this ?_;have e:(a+1)*(10 ^ l.length*10)=((a+1)*10)*10 ^ l.length:=by grind
  rw[e];show a3z _ (by lia)
def pI(h:bG z m=true)(hm:m<=30):∃n:Nat,PySem.intText? z=some (n:Int)/\n<10 ^ 30/\z.length<=30:=by
 simp only[bG,a2H,decide_eq_true_eq,a2K] at h;obtain⟨⟨⟨h1,h2⟩,_⟩,h4⟩:=h;have hl:=len_list z;have aZ:z.cps.toList≠[]:=λe=>by rw[e] at hl;simp at hl;lia
 have Np:z.cps.toList.head?≠some 45:=λe=>by
  cases hz:z.cps.toList with
  | nil=>show aZ hz
  | cons c r =>
   rw[hz] at e h4;have:=h4 c a2Y;simp at e;subst e;simp[dr] at this
 have ef:fg z=z.cps.toList:=by unfold fg;rw[if_neg Np]
 have:=MN (z:=z) (by lia) (by rw[ef];show aZ) (by rw[ef];show h4);rw[if_neg Np,ef] at this;show⟨_,this,?_,by lia⟩
 have b:=No (z.cps.toList.map (· - 48)) 0 λd hd=>by
  obtain⟨c,hc,rfl⟩:=a2N.mp hd;have:=h4 c hc;simp[dr] at this;lia
 show a2L b ?_;rw[a2x,<-hl,a5k,a5c];show a4N (by decide)<|by lia
def a0s(h:dC z 2=true):∃n:Int,PySem.intText? z=some n/\z.length<=30:=by
 have hd:=len_list z
 cases hs:Txt.startswith z _ with
 | false =>
  have h':bG z 2=true:=by unfold dC at h;rw[hs] at h;show h
  obtain⟨n,e,_,l⟩:=pI h' (by decide);show⟨_,e,l⟩
 | true =>
  simp only[dC,hs,if_true,a2H] at h;have hh:=hs;rw[yY] at hh;have hz:z.cps.toList.head?=some 45:=by simpa using hh
  have h1:1<=z.length:=by
   rw[hd]
   cases e:z.cps.toList with
   | nil=>rw[e] at hz;cases hz
   | cons a b=>simp
  have es:(Txt.slice z (some 1) _).cps.toList=z.cps.toList.drop 1:=rm h1;have hb:=h.2;simp only[bG,a2H,decide_eq_true_eq,a2K] at hb;obtain⟨⟨⟨b1,b2⟩,_⟩,b4⟩:=hb;rw[len_list,es,a3c,<-hd] at b1 b2;rw[es] at b4;have ef:fg z=z.cps.toList.drop 1:=by unfold fg;rw[if_pos hz]
  show⟨_,MN (by lia) (by rw[ef];intro e;have:=congrArg List.length e;rw[a3c,<-hd] at this;simp at this;lia)<|by rw[ef];show b4,by lia⟩
end Mt
namespace Hv
open PySem L2
def zQ(z:Str):Bool:=match Txt.split z (Mt.one 58) with
 | [x,y,w]=>decide (x=Mt.txt ((intText? x).getD 0)/\2<=(intText? x).getD 0/\(intText? x).getD 0<=16/\2<=(Txt.split y (Mt.one 43)).length/\(Txt.split y (Mt.one 43)).length<=4/\
   (∀p∈Txt.split y (Mt.one 43),1<=(intText? p).getD 0/\(intText? p).getD 0<=6/\p=Mt.txt ((intText? p).getD 0))/\(∀p∈Txt.split w (Mt.one 32),-9<=(intText? p).getD 99/\(intText? p).getD 99<=9/\p=Mt.txt ((intText? p).getD 99))/\
   (((Txt.split w (Mt.one 32)).length:Nat):Int)=((Txt.split y (Mt.one 43)).map λp=>(intText? p).getD 0).sum)
 | _=>false
def tU_(h:y0 z):zQ z=true:=by
 obtain⟨b,ps,ws,ok,rfl⟩:=h;have pC:∀p∈ps,p<=16:=λp hp=>by have:=ok.pr p hp;lia
 have p0:ps≠[]:=λe=>by have:=ok.l2;rw[e] at this;simp at this
 have w0:ws≠[]:=λe=>by
  have h1:=ok.wl;have h2:=ok.sum;rw[e] at h1;simp at h1;lia
 unfold zQ;rw[Mt.yS ok.cz pC ok.wr];try dsimp only
 show (Mt.yQ p0 pC)▸(Mt.yR w0 ok.wr)▸?_;have hb:=ok.b2;have bO:=ok.cz;have tp:∀p∈ps,intText? (Mt.txt (p:Int))=some (p:Int):=λp hp=>Mt.lF (by have:=pC p hp;lia);have tw:∀x∈ws,intText? (Mt.txt x)=some x:=λx hx=>Mt.lF (by have:=ok.wr x hx;lia);show decide_eq_true ⟨?_,?_,?_,?_,?_,?_,?_,?_⟩;.rw[Mt.lF (by lia)];rfl
 .rw[Mt.lF (by lia)];change(2:Int)<=(b:Int);lia
 .rw[Mt.lF (by lia)];change(b:Int)<=16;lia
 .rw[a2x];show ok.l2
 .rw[a2x];show ok.l4
 .intro p hp;obtain⟨q,hq,rfl⟩:=a2N.mp hp;rw[tp q hq];have:=ok.pr q hq;show⟨by change(1:Int)<=(q:Int);lia,by change(q:Int)<=6;lia,Z⟩
 .intro p hp;obtain⟨q,hq,rfl⟩:=a2N.mp hp;rw[tw q hq];have:=ok.wr q hq;show⟨this.1,this.2,Z⟩
 .rw[a2x,ok.wl,a3v]
  have e:∀l:List Nat,(∀p∈l,p<=16)->(l.map ((λp=>(intText? p).getD 0)∘λ(p:Nat)=>Mt.txt (p:Int))).sum=((l.sum:Nat):Int):=λl=>by
   induction l with
   | nil=>intro _;rfl
   | cons a r ih =>
    intro hl;rw[a2X,a3d,a3d,ih λp hp=>hl p (a2G _ hp)];change(intText? (Mt.txt (a:Int))).getD 0+_=_;rw[Mt.lF (by have:=hl a a2Y;lia)];simp
  show(e ps pC).symm
def bX:List (Str×Nat×List Nat×List Int):=[("a",10,[1,1],[1,1]),("abcdefgh",16,[6,6,6,6],List.replicate 24 1),("b",2,[1,1],[0,9])]
def EI(i:Nat)(e:Str×Nat×List Nat×List Int)(ws:List Str):Option Nat :=
 match i with
 | 1=>if b7 (.int ((intText? (ws.getD 2 "")).getD 0)) 0 ((e.2.2.2.length:Int)-1)=false then some 2 else if b7 (.int ((intText? (ws.getD 3 "")).getD 0)) (-9) 9=false then some 1 else none
 | 4=>if ((e.2.1 ^ e.2.2.1.sum:Nat):Int)<(intText? (ws.getD 2 "")).getD 0 then some 1 else none
 | 6=>if ((e.2.1 ^ e.2.2.1.sum:Nat):Int)<(intText? (ws.getD 2 "")).getD 0 then some 1 else none
 | 7=>if ((e.2.1 ^ e.2.2.1.sum:Nat):Int)<(intText? (ws.getD 2 "")).getD 0 then some 1 else none
 | 8=>if ((e.2.1 ^ e.2.2.1.sum:Nat):Int)<=(intText? (ws.getD 2 "")).getD 0 then some 1 else none
 | 10=>if ((e.2.1 ^ e.2.2.1.sum:Nat):Int)<=(intText? (ws.getD 2 "")).getD 0 then some 1 else none
 | _=>none
def eZ(ws:List Str):Nat:=cU.findIdx λr=>decide (r.1=ws.getD 0 (Str.ofString ""))
def zS(z:Str):Option Nat :=
 if dO (Mt.ba z)=false then some 9 else
 if eZ (Mt.ba z)=0 then (if zQ ((Mt.ba z).getD 2 (Str.ofString ""))=true then none else some 7) else
 match bX.find? λe=>decide (e.1=(Mt.ba z).getD 1 (Str.ofString "")) with
 | none=>some 8
 | some e=>EI (eZ (Mt.ba z)) e (Mt.ba z)
def zT(h:dO ws=true):∃r,cU[eZ ws]?=some r/\ws[0]?=some r.1/\ws.length=r.2.length+2/\(List.zipWith fk r.2 (ws.drop 2)).all id=true:=by
 unfold dO at h
 cases hk:kq cU _ with
 | none=>rw[hk] at h;cases h
 | some ks =>
  rw[hk] at h;simp only[a2H,decide_eq_true_eq] at h;obtain⟨⟨hl,_⟩,hf⟩:=h;obtain⟨r,hr,rfl⟩:=a4l.mp hk;have h1:=a4X hr;have CD:=of_decide_eq_true h1;have hm:=a3A hr;have hi:eZ ws<cU.length:=List.findIdx_lt_length_of_exists ⟨r,hm,h1⟩;have hp:=List.findIdx_getElem (w:=hi);have hg:=a2T hi;have e1:=of_decide_eq_true hp;have a0t:∀x∈cU,∀y∈cU,x.1=y.1->x=y:=by decide
  have er:=a0t _ (a3R hi) _ hm (e1.trans CD.symm);show⟨r,by rw[hg,er],?_,hl,hf⟩;rw[CD];have:0<ws.length:=by lia
  rw[a2T _,a5O,a2T this];rfl
def d8(e:DE):Str×Nat×List Nat×List Int:=(e.nm,e.b,e.ps,e.ws)
def Nq(h:es.map d8=fs)(z:Str):(fs.find? λe=>decide (e.1=z))=(mT es z).map d8:=by
 rw[<-h,List.find?_map];rfl
def pJ{α:Type}{l:List α}(h:l.length=3):∃a b c,l=[a,b,c]:=by
 match l,h with
 | [a,b,c],_=>show⟨a,b,c,Z⟩
def a0u{α:Type}{l:List α}(h:l.length=4):∃a b c d,l=[a,b,c,d]:=by
 match l,h with
 | [a,b,c,d],_=>show⟨a,b,c,d,Z⟩
def vj(z:Str):fk kN z=Mt.bG z 30:=by
 unfold fk;rw[if_neg (by decide),if_neg (by decide)];rfl
def a0v(z:Str):fk kP z=Mt.bG z 2:=by
 unfold fk;rfl
def a0w(z:Str):fk kW z=Mt.dC z 2:=by
 unfold fk;rw[if_neg (by decide),if_pos Z]
def uv_(h3:es.map d8=bX)(hr:cU[eZ ws]?=some r)(hl:ws.length=r.2.length+2)(hf:(List.zipWith fk r.2 (ws.drop 2)).all id=true)
  (aw:∀p∈ws,cg p/\p.length<=300)  (h:(if eZ ws=0 then (if zQ (ws.getD 2 (Str.ofString ""))=true then none else some 7) else match bX.find? λe=>decide (e.1=ws.getD 1 (Str.ofString "")) with | none=>some 8 | some e=>EI (eZ ws) e ws)=some j) :
  iY j/\∀ H   Q   E ,(∀H',ae H H'->E (.ref (c j)) none H')->M5 C c d dx m es (eZ ws) ws H Q E:=by
 have a2t:eZ ws<12:=(a2z.mp hr).1;generalize eZ ws=i at *;have h1:1<ws.length:=by lia
 by_cases hi:i=0
 .subst hi;cases hr;obtain⟨w0,nm,t,rfl⟩:=pJ hl;rw[if_pos Z] at h;split at h;.cases h
  .rename_i hb;cases h;have at_:=aw t (by simp);show⟨.inr (.inr (.inr (.inr Z))),λH Q E hE=>⟨nm,Z,.inl ⟨Z,t,Z,at_.1,at_.2,.inl ⟨λw=>hb (tU_ w),hE⟩⟩⟩⟩
 .rw[if_neg hi,Nq h3] at h;obtain⟨nm,hn⟩:∃nm,ws[1]?=some nm:=⟨_,a2T h1⟩;rw[rB hn] at h
  cases zU:mT es nm with
  | none =>
   rw[zU] at h;cases h;show⟨.inl Z,λH Q E hE=>⟨nm,hn,.inr ⟨by lia,by lia,.inl ⟨zU,hE⟩⟩⟩⟩
  | some e =>
   rw[zU] at h;have h':EI i (d8 e) ws=some j:=h
   have aL:iY j/\∀(H:Hp) (Q:VK) (E:XK),(∀H',ae H H'->E (.ref (c j)) none H')->M4 C c d dx m es e i ws H Q E:=by
    have a0x:i=1\/i=4\/i=6\/i=7\/i=8\/i=10\/(i=2\/i=3\/i=5\/i=9\/i=11):=by lia
    rcases a0x with rfl | rfl | rfl | rfl | rfl | rfl | hx
    .cases hr;obtain⟨w0,w1,zp,zw,rfl⟩:=a0u hl;simp only[a4i,a4o,a3W,a3Z,a3x,a5m,a4U,a2H,id] at hf;rw[a0v,a0w] at hf;obtain⟨p,ip,_,lp⟩:=Mt.pI hf.1 (by decide);obtain⟨wt,iw,lw⟩:=Mt.a0s hf.2;have h2:(if b7 (.int ((intText? zp).getD 0)) 0 ((e.ws.length)-1)=false then some 2 else if b7 (.int ((intText? zw).getD 0)) (-9) 9=false then some 1 else none)=some j:=h';rw[ip,iw] at h2;split at h2
     .rename_i hb;cases h2;show⟨.inr (.inr (.inl Z)),λH Q E hE=>.inl ⟨Z,zp,zw,p,wt,Z,Z,ip,iw,by lia,by lia,.inl ⟨hb,hE⟩⟩⟩
     .rename_i hb;split at h2
      .rename_i ld;cases h2;show⟨.inr (.inl Z),λH Q E hE=>.inl ⟨Z,zp,zw,p,wt,Z,Z,ip,iw,by lia,by lia,.inr (.inl ⟨?_,ld,hE⟩)⟩⟩;by_cases hp:p<e.ws.length;.show hp
       .show absurd (Ez (by lia)) hb
      .cases h2
    .cases hr;obtain⟨w0,w1,zn,rfl⟩:=pJ hl;simp only[a4i,a4o,a3W,a3Z,a3x,a5m,a4U,id] at hf;rw[vj] at hf;obtain⟨n,cC,lO,ln⟩:=Mt.pI hf (by decide);have h2:(if ((e.b ^ e.ps.sum:Nat))<(intText? zn).getD 0 then some 1 else none)=some j:=h';rw[cC] at h2;split at h2
     .rename_i hb;have hb:((e.b ^ e.ps.sum:Nat))<(n:Int):=hb;cases h2;show⟨.inr (.inl Z),λH Q E hE=>.inr (.inr ⟨by decide,.inr (.inr ⟨by decide,by decide,zn,n,Z,cC,by lia,lO,λz=>absurd z (by lia),λ_=>hE⟩)⟩)⟩
     .cases h2
    .cases hr;obtain⟨w0,w1,zn,rfl⟩:=pJ hl;simp only[a4i,a4o,a3W,a3Z,a3x,a5m,a4U,id] at hf;rw[vj] at hf;obtain⟨n,cC,lO,ln⟩:=Mt.pI hf (by decide);have h2:(if ((e.b ^ e.ps.sum:Nat))<(intText? zn).getD 0 then some 1 else none)=some j:=h';rw[cC] at h2;split at h2
     .rename_i hb;have hb:((e.b ^ e.ps.sum:Nat):Int)<(n:Int):=hb;cases h2;show⟨.inr (.inl Z),λH Q E hE=>.inr (.inr ⟨by decide,.inr (.inr ⟨by decide,by decide,zn,n,Z,cC,by lia,lO,λz=>absurd z (by lia),λ_=>hE⟩)⟩)⟩
     .cases h2
    .cases hr;obtain⟨w0,w1,zn,rfl⟩:=pJ hl;simp only[a4i,a4o,a3W,a3Z,a3x,a5m,a4U,id] at hf;rw[vj] at hf;obtain⟨n,cC,lO,ln⟩:=Mt.pI hf (by decide);have h2:(if ((e.b ^ e.ps.sum:Nat):Int)<(intText? zn).getD 0 then some 1 else none)=some j:=h';rw[cC] at h2;split at h2
     .rename_i hb;have hb:((e.b ^ e.ps.sum:Nat):Int)<(n:Int):=hb;cases h2;show⟨.inr (.inl Z),λH Q E hE=>.inr (.inr ⟨by decide,.inr (.inr ⟨by decide,by decide,zn,n,Z,cC,by lia,lO,λz=>absurd z (by lia),λ_=>hE⟩)⟩)⟩
     .cases h2
    .cases hr;obtain⟨w0,w1,zn,rfl⟩:=pJ hl;simp only[a4i,a4o,a3W,a3Z,a3x,a5m,a4U,id] at hf;rw[vj] at hf;obtain⟨n,cC,lO,ln⟩:=Mt.pI hf (by decide);have h2:(if ((e.b ^ e.ps.sum:Nat):Int)<=(intText? zn).getD 0 then some 1 else none)=some j:=h';rw[cC] at h2;split at h2
     .rename_i hb;have hb:((e.b ^ e.ps.sum:Nat):Int)<=(n:Int):=hb;cases h2;show⟨.inr (.inl Z),λH Q E hE=>.inr (.inr ⟨by decide,.inr (.inr ⟨by decide,by decide,zn,n,Z,cC,by lia,lO,λz=>absurd z (by lia),λ_=>hE⟩)⟩)⟩
     .cases h2
    .cases hr;obtain⟨w0,w1,zn,rfl⟩:=pJ hl;simp only[a4i,a4o,a3W,a3Z,a3x,a5m,a4U,id] at hf;rw[vj] at hf;obtain⟨n,cC,lO,ln⟩:=Mt.pI hf (by decide);have h2:(if ((e.b ^ e.ps.sum:Nat):Int)<=(intText? zn).getD 0 then some 1 else none)=some j:=h';rw[cC] at h2;split at h2
     .rename_i hb;have hb:((e.b ^ e.ps.sum:Nat):Int)<=(n:Int):=hb;cases h2;show⟨.inr (.inl Z),λH Q E hE=>.inr (.inr ⟨by decide,.inr (.inr ⟨by decide,by decide,zn,n,Z,cC,by lia,lO,λz=>absurd z (by lia),λ_=>hE⟩)⟩)⟩
     .cases h2
    .exfalso;rcases hx with rfl | rfl | rfl | rfl | rfl <;> cases h'
   show⟨aL.1,λH Q E hE=>⟨nm,hn,.inr ⟨by lia,by lia,.inr ⟨e,zU,aL.2 H Q E hE⟩⟩⟩⟩
def qD_(S:bK C H d dx m es)(h3:es.map d8=bX)(bW:cg z)(zl:z.length<=300)(h:zS z=some j) : iY j/\∀ Q   E ,(∀H',ae H H'->E (.ref (c j)) none H')->d7 C c [.ref d,.str z] H Q E:=by
 have bE:es.length<100:=by
  have:=congrArg List.length h3;rw[a2x] at this;rw[this];decide
 unfold zS at h;by_cases hb:dO (Mt.ba z)=false
 .rw[if_pos hb] at h;cases h;show⟨.inr<|.inr<|.inr<|.inl Z,λQ E hE=>⟨d,dx,m,es,_,Z,S,bE,.inl ⟨.inl ⟨z,Z,bW,by lia,hb⟩,hE⟩⟩⟩
 .rw[if_neg hb] at h;have bO:dO (Mt.ba z)=true:=by simpa using hb
  obtain⟨r,hr,h0,hl,hf⟩:=zT bO;have aw:∀p∈Mt.ba z,cg p/\p.length<=300:=λp hp=>⟨λx hx=>bW x<|(Mt.zx hp).1 x hx,a2U (Mt.zx hp).2 zl⟩;have k:=uv_ (C:=C) (c:=c) (d:=d) (dx:=dx) (m:=m) h3 hr hl hf aw h;show⟨k.1,λQ E hE=>⟨d,dx,m,es,_,Z,S,bE,.inr ⟨z,eZ<|Mt.ba z,Z,bW,by lia,bO,?_,λH1 s1 S1=>k.2 H1 Q E λH' s'=>hE H'<|s1.trans s'⟩⟩⟩;rw[h0];unfold ii;rw[rB hr]
def Nr(D:ai X.prog X.w X.K X.mg X.base k x ps sp)(hr:bD k X.A)(hg:Gl X x)(fE:(x==("__debug__":Str))=false:=by decide):PE X (.Call (.Name x p) [] [] pos) (se sp [] E0 ee):=by
 obtain⟨f,fd,G,h1,h2,h3⟩:=D.ex;show Rj G hr hg h1 h2 h3 .nil sB fE
def some_of{α:Type}{o:Option α}{d:α}(h:o.isSome=true):o=some (o.getD d):=by
 cases o with
 | none=>cases h
 | some x=>rfl
def gp(i:Nat)(z:Str):Bool:=z.cps.toList.all (λc=>decide (c<128))&&decide (z.length<=300)&&(zS z==some i)
def rc_(h:gp i z=true):cg z/\z.length<=300/\zS z=some i:=by
 simp only[gp,a2H,decide_eq_true_eq,a2K,beq_iff_eq] at h;show⟨λc hc=>h.1.1 c hc,h.1.2,h.2⟩
def pK:List Stmt:=I_ sX
def zV:List Stmt:=(pK.drop 1).take 17
def Nt:List Expr:=match pK.getD 0 (.Pass ⟨0,0,0,0⟩) with
 | .Assign _ (.List es _) _=>es
 | _=>[]
def Nu:List Expr:=match pK.getD 19 (.Pass ⟨0,0,0,0⟩) with
 | .Assign _ (.BinOp _ _ (.List es _) _) _=>es
 | _=>[]
def Nv:List Expr:=match pK.getD 20 (.Pass ⟨0,0,0,0⟩) with
 | .Return (some (.BinOp _ _ (.List es _) _)) _=>es
 | _=>[]
def n7E:List Expr:=match pK.getD 18 (.Pass ⟨0,0,0,0⟩) with
 | .For _ (.List es _) _ _ _=>es
 | _=>[]
def pL:List Str:=["below","nth","next","last","miss","near","sums"]
def nF:List Str:=(cL Nt).getD []
def nM:List Str:=(ku "some" zV).getD []
def nL:List Str:=(cL Nu).getD []
def nR:List Str:=(cL Nv).getD []
def uY_:cL Nt=some nF:=some_of (by decide)
def uU_:ku "some" zV=some nM:=some_of (by decide)
def uW_:cL Nu=some nL:=some_of (by decide)
def uS_:cL Nv=some nR:=some_of (by decide)
def uX_:nF.all (gp 9)=true/\nF.length<=20:=by decide
def uT_:nM.all (gp 9)=true/\nM.length<=150:=by decide
def uV_:nL.all (gp 9)=true/\nL.length<=20:=by decide
def uR_:nR.all (gp 9)=true/\nR.length<=20:=by decide
def uZ_:pL.all (λz=>gp 9 (z++Str.ofString " abcdefghi 1")&&gp 9 (z++Str.ofString "  a 1")&&gp 9 (z++Str.ofString " a ")&&decide (z.length<=10))=true:=by decide
def uo_:cL n7E=some pL:=by decide
def mu_:I_ sX=pK.getD 0 (.Pass ⟨0,0,0,0⟩)::(zV++pK.drop 18):=rfl
def vk:Sp:=λvs H Q _=>vs=[]/\∀(l:Addr) (zs:List Str) (H':Hp),ae H H'->H' l=some (.lst (zs.map V.str))->zs.length<=300->zs.all (gp 9)=true->Q (.ref l) H'
def Nw:aI ["some","word"] [] (f_ sX):=⟨Z,Z,Z,by decide,Z,by decide,by decide⟩
def qP_(F:ay K "_law_none" "_law_none" sX f fd):av P w K mg base aE 1 f fd [] vk:=by
 show F.ok Nw λak A outer s H vs Q E hr h=>?_
 .obtain⟨rfl,k⟩:=h;have nd:=Nw.nd;show mu_▸?_;show⟨_,b_ (j_ 0 (x_ (gn uY_))) (zP nd Z (Or.inl Z) (λp=>pv 0) Z (b_ (Z_ PassesOwn.never Z (B_ (x_ (gn uo_))) (u_ 1) (g_ (j_ 0 (o_ gY (pv 0) (x_ (a_ (o_ y_ (pv 1) n_) (a_ (o_ y_ (pv 1) n_) (a_ (o_ y_ (pv 1) n_) d_)))))))) (b_ (j_ 0 (o_ gY (pv 0) (x_ (gn uW_)))) (g_ (k_ (o_ gY (pv 0) (x_ (gn uS_))))))) zV nM uU_),?_⟩;obtain⟨F1,F2⟩:=uX_;obtain⟨M1,M2⟩:=uT_;obtain⟨L1,L2⟩:=uV_;obtain⟨R1,R2⟩:=uR_;show⟨sz (by rw[a2x];lia),λl0 h0=>⟨l0,nF,Z,c_,by lia,λl1 H1 s1 u1=>?_⟩⟩;have S1:=(e_ (o:=.lst (nF.map V.str)) h0).trans s1;show⟨sz (by decide),λlw hw=>⟨lw,Z,⟨_,ag.of c_⟩,?_⟩⟩;have S2:=S1.trans (e_ (o:=.lst (pL.map V.str)) hw);have u2:=e_ (o:=.lst (pL.map V.str)) hw _ _ u1;have v2:(ad H1 lw (.lst (pL.map V.str))) lw=_:=c_;generalize ad H1 lw (.lst (pL.map V.str))=H2 at S2 u2 v2⊢;show kI (K:=K) (a:=lw) (xs:=pL.map V.str) (λi σ H'=>∃(l:Addr) (xs:List Str) (v1:Option V),σ=[some (.ref l),v1]/\H' l=some (.lst (xs.map V.str))/\xs.length<=170+3*i/\xs.all (gp 9)=true/\ae H2 H') ⟨l1,nF++nM,none,Z,u2,by rw[a2O];lia,by rw[a4t,F1,M1];rfl,ae.refl _⟩ (λi σ H' _ q=>by obtain⟨_,_,_,_,_,_,_,q⟩:=q;show ag.of (q _ _ v2)) ?_ ?_
  .rintro i x σ H3 hx ⟨l,xs,v1,rfl,hl,hn,ha,s3⟩;obtain⟨z,hz,rfl⟩:=iS hx;have hi:i<7:=(a2z.mp hz).1;have Ny:=a2K.mp uZ_ z (a2A hz);simp only[a2H,decide_eq_true_eq] at Ny;obtain⟨⟨⟨z1,z2⟩,z3⟩,zl⟩:=Ny;have sl:sizeLine>=1000:=by decide
   have q1:(Str.ofString " abcdefghi 1").length=12:=by decide
   have q2:(Str.ofString "  a 1").length=5:=by decide
   have q3:(Str.ofString " a ").length=3:=by decide
   show⟨_,Z,_,Z,z,_,Z,Z,by lia,_,Z,z,_,Z,Z,by lia,_,Z,z,_,Z,Z,by lia,sz (by simp),λm hm=>?_⟩;have t1:=e_ (o:=.lst [.str (z++Str.ofString " abcdefghi 1"),.str (z++Str.ofString "  a 1"),.str (z++Str.ofString " a ")]) hm;show⟨l,m,_,_,Z,Z,t1 _ _ hl,c_,sz (by simp;lia),λp hp=>⟨p,xs++[z++Str.ofString " abcdefghi 1",z++Str.ofString "  a 1",z++Str.ofString " a "],_,Z,by rw[c_,a3e];rfl,by simp;lia,?_,(s3.trans t1).trans (e_ hp)⟩⟩;rw[a4t,ha];simp[z1,z2,z3]
  .rintro σ H3 ⟨l,xs,v1,rfl,hl,hn,ha,s3⟩;have cC:xs.length<=191:=hn;show⟨_,Z,sz (by rw[a2x];lia),λm hm=>?_⟩;have t1:=e_ (o:=.lst (nL.map V.str)) hm;show⟨l,m,_,_,Z,Z,t1 _ _ hl,c_,sz (by simp;lia),λp hp=>?_⟩;have t2:=t1.trans (e_ (o:=.lst (xs.map V.str++nL.map V.str)) hp);show⟨_,Z,sz (by rw[a2x];lia),λm2 gf=>?_⟩;have t3:=t2.trans (e_ (o:=.lst (nR.map V.str)) gf);show⟨p,m2,_,_,Z,Z,e_ gf _ _ c_,c_,sz (by simp;lia),λp2 cZ=>(k p2 (xs++nL++nR) _ (((S2.trans s3).trans t3).trans (e_ cZ)) (by rw[c_,a3e,a3e]) (by simp;lia) ?_)⟩;rw[a4t,a4t,ha,L1,R1];rfl
def mW(p:Str×Str):Bool:=[8,1,2,9,7].any λi=>(db i==p.2)&&gp i p.1
def ov_(h:mW p=true):∃i,iY i/\p.2=db i/\gp i p.1=true:=by
 obtain⟨i,hi,h⟩:=a5s.mp h;simp only[a2H,beq_iff_eq] at h;simp only[a2B,a2Q,or_false] at hi;show⟨i,hi,h.1.symm,h.2⟩
def pN:List Stmt:=I_ oj
def zW:List Stmt:=(pN.drop 1).take 11
def zX:List Stmt:=(pN.drop 13).take 6
def Nz:List Expr:=match pN.getD 0 (.Pass ⟨0,0,0,0⟩) with
 | .Assign _ (.List es _) _=>es
 | _=>[]
def NA:List Expr:=match pN.getD 12 (.Pass ⟨0,0,0,0⟩) with
 | .Assign _ (.List es _) _=>es
 | _=>[]
def oF:List (Str×Str):=(mV Nz).getD []
def oM:List (Str×Str):=(rF "some" zW).getD []
def oT:List Str:=(cL NA).getD []
def oU:List Str:=(ku "texts" zX).getD []
def uP_:mV Nz=some oF:=some_of (by decide)
def uN_:rF "some" zW=some oM:=some_of (by decide)
def uL_:cL NA=some oT:=some_of (by decide)
def uJ_:ku "texts" zX=some oU:=some_of (by decide)
def zY(t:Str):Bool:=mW (Str.ofString "frame zz "++t,Str.ofString "text")&&mW (Str.ofString "frame a "++t,Str.ofString "text")&&decide (t.length<=100)
def uO_:oF.all mW=true/\oF.length<=20:=by decide
def uM_:oM.all mW=true/\oM.length<=60:=by decide
def uK_:oT.all zY=true/\oT.length<=20:=by decide
def uI_:oU.all zY=true/\oU.length<=60:=by decide
def ow_:I_ oj=pN.getD 0 (.Pass ⟨0,0,0,0⟩)::(zW++(pN.getD 12 (.Pass ⟨0,0,0,0⟩)::(zX++pN.drop 19))):=rfl
def vm:Sp:=λvs H Q _=>vs=[]/\∀(l:Addr) (us:List Addr) (ps:List (Str×Str)) (H':Hp),ae H H'->gP H' us ps->H' l=some (.lst (us.map V.ref))->ps.length<=300->ps.all mW=true->Q (.ref l) H'
def NB:aI ["some","texts"] [] (f_ oj):=⟨Z,Z,Z,by decide,Z,by decide,by decide⟩
def NC{ts:List Str}(h:ts[i]?=some t):((ts.take (i+1)).map λt=>(pre++t,Str.ofString "text"))=((ts.take i).map λt=>(pre++t,Str.ofString "text"))++[(pre++t,Str.ofString "text")]:=by
 rw[a2I,h];simp
def qV(h:H t=some (.tup [.str p.1,.str p.2])):gP H [t] [p]:=⟨Z,λk u q h1 h2=>by
 cases k with
 | zero=>simp at h1 h2;subst h1;subst h2;show h
 | succ k=>simp at h1⟩
def mp_(F:ay K "_law_others" "_law_others" oj f fd):av P w K mg base aE 1 f fd [] vm:=by
 show F.ok NB λak A outer s H vs Q E hr h=>?_
 .obtain⟨rfl,k⟩:=h;have nd:=NB.nd;show ow_▸?_;show⟨_,b_ (j_ 0 (x_ (EH uP_))) (Nn nd Z (Or.inl Z) (λp=>pv 0) Z (b_ (j_ 1 (x_ (gn uL_))) (zP nd Z (Or.inl Z) (λp=>pv 1) Z (b_ (j_ 0 (o_ gY (pv 0) (P_ (f_ oj) ["some","texts"] [] [] Z (B_ (pv 1)) (λcl C s H fp=>O_) (λcl C s H fp=>gX (a_ (o_ y_ n_ (pv 0)) (a_ n_ d_))) (by decide)))) (g_ (k_ (o_ gY (pv 0) (P_ (f_ oj) ["some","texts"] [] [] Z (B_ (pv 1)) (λcl C s H fp=>O_) (λcl C s H fp=>gX (a_ (o_ y_ n_ (pv 0)) (a_ n_ d_))) (by decide)))))) zX oU uJ_)) zW oM uN_),?_⟩;obtain⟨F1,F2⟩:=uO_;obtain⟨M1,M2⟩:=uM_;obtain⟨T1,T2⟩:=uK_;obtain⟨U1,U2⟩:=uI_;have sl:sizeLine>=1000:=by decide
  have tx:∀t∈oT++oU,mW (Str.ofString "frame zz "++t,Str.ofString "text")=true/\mW (Str.ofString "frame a "++t,Str.ofString "text")=true/\t.length<=100:=λt ht=>by
   have:zY t=true:=(a3j.mp ht).elim (λh=>a2K.mp T1 t h) (λh=>a2K.mp U1 t h);simp only[zY,a2H,decide_eq_true_eq] at this;show⟨this.1.1,this.1.2,this.2⟩
  have tl:(oT++oU).length<=80:=by rw[a2O];lia
  have q1:(Str.ofString "frame zz ").length=9:=by decide
  have q2:(Str.ofString "frame a ").length=8:=by decide
  show λts H0 s0 ND=>⟨sz (by rw[a2x,ND.1];lia),λl0 h0=>?_⟩;have S0:ae H H0:=s0;have t0:=e_ (o:=.lst (ts.map V.ref)) h0;show⟨l0,ts,oF,Z,c_,fL ND t0,by lia,λl1 us H1 s1 vi u1=>?_⟩;have S1:=(S0.trans t0).trans s1;show⟨sz (by rw[a2x];lia),λlt aJ=>⟨lt,oT,Z,c_,by lia,λzZ H2 s2 u2=>?_⟩⟩;have t1:=(e_ (o:=.lst (oT.map V.str)) aJ).trans s2;have S2:=S1.trans t1;have qR:=t1 _ _ u1;have NE:=fL vi t1;generalize oT++oU=z9 at tx tl u2;show⟨_,Z,_,Z,zZ,Z,⟨_,ag.of u2⟩,z_ (K:=K) (a:=zZ) (xs:=z9.map V.str) (λi ys H'=>∃as:List Addr,ys=as.map V.ref/\gP H' as ((z9.take i).map λt=>(Str.ofString "frame zz "++t,Str.ofString "text"))/\ae H2 H') ⟨[],Z,⟨Z,λk t p h=>by simp at h⟩,ae.refl _⟩ (λi ys H' _ q=>by obtain⟨_,_,_,q⟩:=q;show ag.of (q _ _ u2)) ?_ ?_⟩
  .rintro i x ys H3 hx ⟨as,rfl,pa,s3⟩;obtain⟨t,ht,rfl⟩:=iS hx;have hi:=(a2z.mp ht).1;have at_:=tx t (a2A ht);have al:=pa.1;simp at al;show⟨bT (by simp;lia),_,Z,_,_,Z,Z,by lia,sz (by simp),λtp iW=>⟨as++[tp],by simp,?_,s3.trans (e_ iW)⟩⟩;rw[NC ht];show rG (fL pa (e_ iW)) (qV (p:=(Str.ofString "frame zz "++t,Str.ofString "text")) c_)
  .rintro ys H3 ⟨as,rfl,pa,s3⟩ m hm;rw[a2x,a2M] at pa;have al:=pa.1;rw[a2x] at al;have t3:=e_ (o:=.lst (as.map V.ref)) hm;have ul:=NE.1;rw[a2O] at ul;show⟨l1,m,_,_,Z,Z,t3 _ _ (s3 _ _ qR),c_,sz (by rw[a2x,a2x];lia),λp hp=>?_⟩;have t4:=t3.trans (e_ (o:=.lst (us.map V.ref++as.map V.ref)) hp);have S4:=(S2.trans s3).trans t4;have u4:(ad (ad H3 m (.lst (as.map V.ref))) p (.lst (us.map V.ref++as.map V.ref))) p=some (.lst ((us++as).map V.ref)):=by rw[c_,a3e]
   have v4:=t4 _ _ (s3 _ _ u2);have NF:=rG (fL (fL NE s3) t4) (fL pa t4);generalize ad (ad H3 m (.lst (as.map V.ref))) p (.lst (us.map V.ref++as.map V.ref))=H4 at S4 u4 v4 NF⊢;show⟨_,Z,_,Z,zZ,Z,⟨_,ag.of v4⟩,z_ (K:=K) (a:=zZ) (xs:=z9.map V.str) (λi ys H'=>∃as:List Addr,ys=as.map V.ref/\gP H' as ((z9.take i).map λt=>(Str.ofString "frame a "++t,Str.ofString "text"))/\ae H4 H') ⟨[],Z,⟨Z,λk t p h=>by simp at h⟩,ae.refl _⟩ (λi ys H' _ q=>by obtain⟨_,_,_,q⟩:=q;show ag.of (q _ _ v4)) ?_ ?_⟩
   .rintro i x ys H5 hx ⟨bs,rfl,pb,s5⟩;obtain⟨t,ht,rfl⟩:=iS hx;have hi:=(a2z.mp ht).1;have at_:=tx t (a2A ht);have al:=pb.1;simp at al;show⟨bT (by simp;lia),_,Z,_,_,Z,Z,by lia,sz (by simp),λtp iW=>⟨bs++[tp],by simp,?_,s5.trans (e_ iW)⟩⟩;rw[NC ht];show rG (fL pb (e_ iW)) (qV (p:=(Str.ofString "frame a "++t,Str.ofString "text")) c_)
   .rintro ys H5 ⟨bs,rfl,pb,s5⟩ m2 gf;rw[a2x,a2M] at pb;have bl:=pb.1;rw[a2x] at bl;have t6:=e_ (o:=.lst (bs.map V.ref)) gf;show⟨p,m2,_,_,Z,Z,t6 _ _ (s5 _ _ u4),c_,sz (by rw[a2x,a2x,a2O];lia),λp2 cZ=>?_⟩;have t7:=t6.trans (e_ (o:=.lst ((us++as).map V.ref++bs.map V.ref)) cZ);show k p2 (us++as++bs) _ _ ((S4.trans s5).trans t7) (rG (fL (fL NF s5) t7) (fL pb t7)) (by rw[c_];simp) (by simp;lia) ?_;rw[a4t,a4t,a4t,F1,M1,a4k,a4k];simp only[a5u,a2H,a2K];show⟨λt ht=>(tx t ht).1,λt ht=>(tx t ht).2.1⟩
end Hv
namespace Mt
open PySem PyProof.Rows
def EJ(z:Str)(i:Nat):(∀d∈(Txt.slice z (some (i:Int)) none).cps.toList,d∈z.cps.toList)/\(Txt.slice z (some (i:Int)) none).length<=z.length:=by
 by_cases h:i<=z.length
 .have e:=rm h;show⟨λd hd=>?_,?_⟩;.rw[e] at hd;show a3D hd
  .rw[len_list,e,a3c,<-len_list];lia
 .have e:Txt.slice z (some  i ) none=Txt.slice z (some ((z.length))) none:=by
   unfold Txt.slice;rw[indices_beyond (by lia)]
  have e2:=rm (i:=z.length) (a2D _);rw[e];show⟨λd hd=>?_,?_⟩;.rw[e2] at hd;show a3D hd
  .rw[len_list,e2,a3c,<-len_list];lia
def EK{i:Nat}(h:i<=z.length):(∀d∈(Txt.slice z none (some (i:Int))).cps.toList,d∈z.cps.toList)/\(Txt.slice z none (some (i:Int))).length<=z.length:=by
 have e:=YZ h;show⟨λd hd=>?_,?_⟩;.rw[e] at hd;show a4e hd
 .rw[len_list,e,a3a,<-len_list];lia
theorem NG{c:Nat}:∀ {a a' r r':List Nat},c∉a->c∉a'->(r=[]\/∃t,r=c::t)->(r'=[]\/∃t,r'=c::t)->a++r=a'++r'->a=a'
 | [],[],_,_,_,_,_,_,_=>rfl
 | [],x::a',r,r',h,h',hr,cE,e=>by
  exfalso;rcases hr with rfl | ⟨t,rfl⟩;.simp at e
  .simp at e;show h' (by rw[e.1];show a2Y)
 | x::a,[],r,r',h,h',hr,cE,e=>by
  exfalso;rcases cE with rfl | ⟨t,rfl⟩;.simp at e
  .simp at e;show h (by rw[e.1];show a2Y)
 | x::a,y::a',r,r',h,h',hr,cE,e=>by
  simp at e;obtain⟨rfl,e⟩:=e;rw[NG (λz=>h (a2G _ z)) (λz=>h' (a2G _ z)) hr cE e]
end Mt
namespace Hv
open PySem L2
def NH(w0 nm:Str)(r:List Str):∃t,(t=[]\/∃u,t=32::u)/\(Str.join (Mt.one 32) (w0::nm::r)).cps.toList=w0.cps.toList++32::(nm.cps.toList++t):=by
 rw[Mt.ko]
 cases r with
 | nil =>
  show⟨[],.inl Z,?_⟩
  have e1:Str.join (Mt.one 32) [nm]=nm:=by
   rw[<-StrLaws.glued_eq_join];rfl
  rw[e1,a3H]
 | cons a b=>show⟨_,.inr ⟨_,Z⟩,by rw[Mt.ko]⟩
def kF_:∀r∈cU,32∉r.1.cps.toList:=by decide
def mB_(h:Mt.eQ z=true):32∉z.cps.toList:=λhc=>by
 simp only[Mt.eQ,a2H,a2K] at h;have:=h.2 32 hc;cases this
def oj_(h:dO (Mt.ba z)=true):∃r nm t,r∈cU/\Mt.eQ nm=true/\(t=[]\/∃u,t=32::u)/\z.cps.toList=r.1.cps.toList++32::(nm.cps.toList++t):=by
 obtain⟨r,hr,h0,hl,_⟩:=zT h;have hj:=Mt.zu z;unfold dO at h
 cases hk:kq cU _ with
 | none=>rw[hk] at h;cases h
 | some ks =>
  rw[hk] at h;simp only[a2H,decide_eq_true_eq] at h;obtain⟨⟨_,hn⟩,_⟩:=h
  cases hw:Mt.ba z with
  | nil=>rw[hw] at hl;simp at hl
  | cons a ws =>
   cases ws with
   | nil=>rw[hw] at hl;simp at hl
   | cons b ws =>
    rw[hw] at h0 hn hj;have ea:a=r.1:=by simpa using h0
    have cC:=hn;obtain⟨t,ht,e⟩:=NH a b ws;rw[hj] at e;show⟨r,b,t,a2A hr,cC,ht,by rw[e,ea]⟩
def EL(f0:32∉w0.cps.toList)(h:(32∉nm.cps.toList/\Mt.eQ nm=false)\/∀x∈cU,x.1≠w0):dO (Mt.ba (Str.join (Mt.one 32) (w0::nm::r)))=false:=by
 cases hb:dO _ with
 | false=>rfl
 | true =>
  exfalso;obtain⟨x,mX,t,hx,hn,ht,e⟩:=oj_ hb;obtain⟨t',CV,e'⟩:=NH w0 nm r;rw[e'] at e;obtain⟨e1,e2⟩:=Mt.Dg f0 (kF_ x hx) e;rcases h with⟨f1,h⟩ | h
  .have:=Mt.NG f1 (mB_ hn) CV ht e2;have en:=Mt.fT this;rw[en,hn] at h;cases h
  .show h x hx (Mt.fT e1).symm
def rH(z:Str):Prop:=cg z/\z.length<=300/\dO (Mt.ba z)=false
structure jF(W:List Str):Prop where
 ex:∃w0 nm r,W=w0::nm::r/\r.length<=2/\32∉w0.cps.toList
 all:∀p∈W,cg p/\p.length<=60
 no:dO (Mt.ba (Str.join (Mt.one 32) W))=false
def NI{W:List Str}(h:∀p∈W,p.length<=60):(W.map (·.length)).sum<=60*W.length:=by
 induction W with
 | nil=>simp
 | cons a r ih =>
  have:=ih λp hp=>h p<|a2G _ hp;have h1:=h a a2Y;simp only[a2X,a3d,a2P];lia
def jF.nor(h:jF W):rH (Str.join (Mt.one 32) W):=by
 obtain⟨w0,nm,r,rfl,hr,_⟩:=h.ex;show⟨λd hd=>?_,?_,h.no⟩
 .rcases Mt.mem_join hd with rfl | ⟨p,hp,hd⟩;.decide
  .show(h.all p hp).1 d hd
 .have h1:=Dk 32 (w0::nm::r);have h2:=NI λp hp=>(h.all p hp).2;simp only[a2P] at h1 h2;rw[show Txt.join _ _=Str.join _ _ from StrLaws.glued_eq_join _ _] at h1;lia
def jF.way(h:jF (w0::nm::r))(h1:cg mX/\mX.length<=60)(h2:32∉mX.cps.toList)(h3:Mt.eQ mX=false):jF (w0::mX::r):=by
 obtain⟨a,b,r',e,hr,f0⟩:=h.ex;cases e;show⟨⟨w0,mX,r,Z,hr,f0⟩,λp hp=>?_,EL f0 (.inl ⟨h2,h3⟩)⟩;simp only[a2B] at hp;rcases hp with rfl | rfl | hp;.show h.all _ (by simp)
 .show h1
 .show h.all _ (by simp[hp])
def iZ:List Str:=["","abcdefghi"]
def rR_:∀z∈iZ,((z.cps.toList.all λc=>decide (c<128))&&decide (z.length<=60)&&!(z.cps.toList.contains 32)&&!(Mt.eQ z))=true:=by decide
abbrev Aa:List Str:=["cell","rows","words","signs","sign","at","bad","way"]
def rJ:aI Aa ["cell"] (f_ mt):=⟨Z,Z,Z,by decide,Z,by decide,by decide⟩
def jG:List Stmt:=I_ mt
inductive NJ(H0:Hp)(D:Ends)(σ:St)(H:Hp):Prop
 | mk:∀(n:Nat) (l:Addr) (W:List Str) (s1 s3 s4 s5 s6 s7:Option V),(σ=[some (.int (n:Int)),s1,some (.ref l),s3,s4,s5,s6,s7])->(H l=some (.lst (W.map V.str)))->(H0 l=none)->(ae H0 H)->(jF W)->(∀z H',ae H0 H'->rH z->D.rt (.str z) H')->NJ H0 D σ H
def vn(s:ae H0 H)(h:H0 l=none):ae H0 (ad H l o):=λb u e=>by rw[i_ (λz=>by rw[z,h] at e;cases e)];show s b u e
def NK(h:1<n):fP n 1=some 1:=by
 unfold fP;rw[if_pos (by decide),if_pos (by lia)];rfl
def qt_:bQ (Cx.iy (bR aE P w K mg base Aa "_law_spoilt" (f_ mt) f ak A outer s H E)) (jG.drop 10) (NJ H0):=by
 have nd:=rJ.nd;show fJ (b_ (j_ 7 (o_ fz (o_ gB (pv 0) h_) h_)) (b_ (C_ (r_ r6 (pv 7) h_ (bx _)) (g_ (nI (bH (x_ (a_ n_ (a_ n_ d_))) (pv 7)) (nH (pv 2) h_ nV))) q_) (g_ (k_ (dh PySem.F.plainAttrs_str PySem.F.slot_str_join PySem.F.type_str_join uH n_ (a_ (pv 2) d_)))))) λD σ H1 h=>?_;obtain⟨n,l,W,s1,s3,s4,s5,s6,s7,rfl,hl,nl,S,eo,k⟩:=h
 have fin:∀(W':List Str) (H2:Hp),H2 l=some (.lst (W'.map V.str))->ae H0 H2->jF W'->(W'.map (·.length)).sum+W'.length*(Str.ofString " ").length<=16777216/\D.rt (.str (Txt.join (Str.ofString " ") W')) H2:=λW' H2 aS S2 e2=>by
  rw[MZ];rw[show Txt.join (Mt.one 32) W'=Str.join (Mt.one 32) W' from StrLaws.glued_eq_join _ _];show⟨?_,k _ H2 S2 e2.nor⟩;obtain⟨w0,nm,r,e,hr,_⟩:=e2.ex;have h2:=NI λp hp=>(e2.all p hp).2;have:W'.length<=4:=by rw[e];simp;lia
  change _+W'.length*1<=_;lia
 show⟨_,Z,_,_,Z,Z,⟨by decide,by decide⟩,_,_,Z,Z,(by change(0:Int)<8;decide),?_⟩;have w0:0<=(n:Int) / 100000 % 8:=a3J _ (by decide);try dsimp only
 generalize (n:Int) / 100000 % 8=wy at w0⊢;show⟨_,Z,_,_,Z,Z,_,Z,?_⟩;try dsimp only
 by_cases hw:wy<2
 .rw[decide_eq_true hw];show bj ⟨sz (by simp),λlw hlw=>?_⟩;obtain⟨j,rfl⟩:=a3p w0;have hj:j<iZ.length:=by change j<2;lia
  have t1:=e_ (o:=.lst (iZ.map V.str)) hlw;obtain⟨a,nm,r,e,hr,f0⟩:=eo.ex;subst e;have ok:=rR_ iZ[j] (a3R hj);simp only[a2H,decide_eq_true_eq,a2K,a3V] at ok;obtain⟨⟨⟨o1,o2⟩,o3⟩,o4⟩:=ok;show⟨_,Z,lw,_,_,.str iZ[j],Z,Z,ag.of c_,J_ (xs:=iZ.map V.str) (jD (a2T hj)),_,Z,l,_,1,1,Z,Z,t1 _ _ hl,NK (by simp),?_⟩;have e2:jF (a::iZ[j]::r):=eo.way ⟨λc hc=>o1 c hc,o2⟩ (by simpa using o3) o4;have aS:(ad (ad H1 lw (.lst (iZ.map V.str))) l (.lst (((a::nm::r).map V.str).set 1 (.str iZ[j])))) l=some (.lst ((a::iZ[j]::r).map V.str)):=c_;have S2:ae H0 (ad (ad H1 lw (.lst (iZ.map V.str))) l (.lst (((a::nm::r).map V.str).set 1 (.str iZ[j])))):=vn (S.trans t1) nl;have q:=fin _ _ aS S2 e2;show⟨Z,_,Z,_,l,_,Z,Z,aS,q.1,q.2⟩
 .rw[decide_eq_false hw];have q:=fin W H1 hl S eo;show aK ⟨Z,_,Z,_,l,W,Z,Z,hl,q.1,q.2⟩
def EM{p q:Prop}(e:i=j)(h:p):(if decide (V.int i=V.int j)=true then p else q):=by simp_all
def Ab{p q:Prop}(e:¬ i=j)(h:q):(if decide (V.int i=V.int j)=true then p else q):=by simp_all
def Ac:List Stmt:=(jG.drop 1).take 3
def NL:List Expr:=match jG.getD 0 (.Pass ⟨0,0,0,0⟩) with
 | .Assign _ (.List es _) _=>es
 | _=>[]
def jH:Str:=match jG.getD 5 (.Pass ⟨0,0,0,0⟩) with
 | .Assign _ (.Constant (.str x) _ _) _=>x
 | _=>Str.ofString ""
def pF:List Str:=(cL NL).getD []
def pM:List Str:=(ku "rows" Ac).getD []
def uF_:cL NL=some pF:=some_of (by decide)
def uE_:ku "rows" Ac=some pM:=some_of (by decide)
def NM:pF.length=4/\pM.length=8:=by decide
def cH:Str:=Str.ofString "abcdefgh"
def eR(z:Str):List Str:=Txt.split z (Mt.one 32)
def Ad(z:Str):Bool:=decide (z.length<=100)&&decide (2<=(eR z).length)&&decide ((eR z).length<=4)&&decide ((eR z)[1]?=some cH)&&(eR z).all λp=>p.cps.toList.all (λc=>decide (c<128))&&decide (p.length<=20)&&!(p.cps.toList.contains 32)
def EN:(pF++pM).all Ad=true:=by decide
def sq_:((pF++pM).take 8).all (λz=>decide (3<=(eR z).length))=true:=by decide
def sj_:(jH.cps.toList.all λc=>decide (c<128)&&!(c==32)&&!(Mt.ltB c))=true/\0<jH.length/\jH.length<=100:=by decide
def lP:List Str->List Str:=λl=>l.map λz=>(eR z).getD 0 (Str.ofString "")
def rx_:(cU.all λx=>(lP (pF++pM)).contains x.1)=true/\((lP (pF++pM)).all λv=>cU.all λx=>!(x.1==v++v))=true:=by decide
def NN:List Expr:=match jG.getD 9 (.Pass ⟨0,0,0,0⟩) with
 | .If _ (.Assign _ (.List es _) _::_) _ _=>es
 | _=>[]
def NO:List Expr:=match jG.getD 9 (.Pass ⟨0,0,0,0⟩) with
 | .If _ (_::.Assign _ (.BinOp _ _ (.List es _) _) _::_) _ _=>es
 | _=>[]
def bF:List Str:=(cL NN).getD []
def bM:List Str:=(cL NO).getD []
def vs_:cL NN=some bF:=some_of (by decide)
def vr_:cL NO=some bM:=some_of (by decide)
def vp_:bF.length=8/\bM.length=8:=by decide
def uk_:((bF++bM).all λb=>b.cps.toList.all (λc=>decide (c<128))&&decide (b.length<=60))=true:=by decide
def vq_:(((pF++pM).take 8).all λz=>(List.range ((eR z).length-2)).all λk=>(bF++bM).all λb=>!(dO (Mt.ba (Str.join (Mt.one 32) ((eR z).set (2+k) b)))))=true:=by decide
def ru_{l:List Str}:wd (.str a) (l.map V.str)=l.contains a:=by
 unfold wd;rw[List.any_map]
 induction l with
 | nil=>rfl
 | cons b r ih =>
  rw[a4H,List.contains_cons,ih];congr 1;change(b==a)=(a==b)
  cases h:(a==b) with
  | true=>rw[eq_of_beq h];simp
  | false =>
   lia
def nd_(l:List Str):(l.map V.str).all kQ=true:=by
 rw[a4k,a2K];intro x _;rfl
def NP{xs:List Str}{i:Int}(h0:0<=i)(h1:i<xs.length):∃(n:Nat) (h:n<xs.length),i=(n:Int)/\cv (xs.map V.str) i=some (.str xs[n]):=by
 obtain⟨n,rfl⟩:=a3p h0;have hn:n<xs.length:=by lia
 show⟨n,hn,Z,J_<|by rw[a2E,a2T hn];rfl⟩
def NQ{i j:Nat}(hi:i<=z.length)(zl:z.length<=20)(za:cg z)(zf:32∉z.cps.toList)(c1:c<128)(c2:c≠32) :
  let y:=Txt.slice z none (some (i:Int))++⟨#[c]⟩++Txt.slice z (some (j:Int)) none
  (cg y/\y.length<=60)/\32∉y.cps.toList/\c∈y.cps.toList:=by
 intro y;have a:=Mt.EK hi;have b:=Mt.EJ z j;have e:y.cps.toList=(Txt.slice z none (some  i )).cps.toList++[c]++(Txt.slice z (some  j ) none).cps.toList:=by rw[Mt.app_list,Mt.app_list]
 have m:∀d,d∈y.cps.toList->d∈z.cps.toList\/d=c:=λd hd=>by
  rw[e] at hd;rcases a3j.mp hd with h | h
  .rcases a3j.mp h with h | h;.show .inl (a.1 d h)
   .show .inr (a2Z.mp h)
  .show .inl (b.1 d h)
 show⟨⟨λd hd=>?_,?_⟩,λhd=>?_,?_⟩
 .rcases m d hd with h | rfl;.show za d h
  .show c1
 .rw[Mt.len_list,e,a2O,a2O,<-Mt.len_list,<-Mt.len_list];simp only[a4J];lia
 .rcases m 32 hd with h | h;.show zf h
  .show c2 h.symm
 .rw[e];simp
inductive pO(vs:List V)(H:Hp)(Q:VK)(aq:XK):Prop
 | mk:∀n:Nat,(vs=[.int (n:Int)])->(∀z H',ae H H'->rH z->Q (.str z) H')->pO vs H Q aq
def nZ_:I_ mt=jG.getD 0 (.Pass ⟨0,0,0,0⟩)::(Ac++jG.drop 4):=rfl
def a0y(n:Nat):∃m:Int,cv [V.int 12,V.int 12,V.int 8] ((n:Int) % 3)=some (.int m)/\0<m/\m<=12/\((n:Int) % 3=2->m=8):=by
 have h:(n:Int) % 3=0\/(n:Int) % 3=1\/(n:Int) % 3=2:=by lia
 rcases h with h | h | h <;> rw[h];.show⟨12,Z,by decide,by decide,by decide⟩
 .show⟨12,Z,by decide,by decide,by decide⟩
 .show⟨8,Z,by decide,by decide,by decide⟩
def rK(W:List Str):Prop:=∃z∈pF++pM,W=eR z
def rL(W:List Str):Prop:=∃z∈(pF++pM).take 8,W=eR z
def rK.ok(h:rK W):∃w0 r,W=w0::cH::r/\r.length<=2/\∀p∈W,(cg p/\p.length<=20)/\32∉p.cps.toList:=by
 obtain⟨z,hz,rfl⟩:=h;have h:=a2K.mp EN z hz;simp only[Ad,a2H,decide_eq_true_eq,a2K,a3V] at h;obtain⟨⟨⟨⟨_,h2⟩,h3⟩,h4⟩,h5⟩:=h;generalize eR z=W at *
 match W,h2,h4 with
 | w0::nm::r,_,h4 =>
  have e:nm=cH:=by simpa using h4
  subst e;simp only[a2P] at h3;show⟨w0,r,Z,by lia,λp hp=>?_⟩;have:=h5 p hp;show⟨⟨λc hc=>this.1.1 c hc,this.1.2⟩,by simpa using this.2⟩
def rL.a(h:rL W):rK W:=let ⟨z,hz,e⟩:=h;⟨z,a4e hz,e⟩
def sW_:cH.length=8/\(cH.cps.toList.all λc=>decide (c<128))=true/\cH.cps.toList.contains 32=false:=by decide
def sC_(K:PySem.W.Frag)(hK:X.K=K){y:Str}{j j2:Nat}{bo p c1 p2 pos:Pos}(ho:PE X o to)(su:attributeBase o "split" X.env (eval o X.env)=eval o X.env:=by rfl)(hline:(bo.endLine==c1.line)=true:=by rfl) : PE X (.Subscript (.Call (.Attribute o "split" bo) [.Constant (.str y) j p] [] c1) (.Constant (.int 0) j2 p2) pos) (iD (qc K) (qd K "str" LK to (kM (tC (.str y)) ee)) (tC (.int 0))):=by
 subst hK;show sK X.K Z (dh PySem.F.plainAttrs_str PySem.F.slot_str_split PySem.F.type_str_split rh ho (a_ n_ d_) su (hline:=hline)) h_
abbrev XP(P:Program)(w:World)(K:PySem.W.Frag)(mg:Str->Option Value)(base:Heap)(f:Addr)(ak:Value)(A:Around)(outer:List Env)(s:Shared)(H:Hp)(E:XK):Cx:=Cx.iy (bR aE P w K mg base Aa "_law_spoilt" (f_ mt) f ak A outer s H E)
inductive NR(H0:Hp)(D:Ends)(σ:St)(H:Hp):Prop
 | mk:∀(n:Nat) (l:Addr) (W:List Str) (s1 s3 s4 s5 s6 s7:Option V),(σ=[some (.int (n:Int)),s1,some (.ref l),s3,s4,s5,s6,s7])->(H l=some (.lst (W.map V.str)))->(H0 l=none)->(ae H0 H)->(((¬ (n:Int) % 3=2/\jF W)\/((n:Int) % 3=2/\rL W)))->(∀z H',ae H0 H'->rH z->D.rt (.str z) H')->NR H0 D σ H
inductive NS(H0:Hp)(D:Ends)(σ:St)(H:Hp):Prop
 | mk:∀(n:Nat) (l lr:Addr) (W:List Str) (c:Nat) (s3 s5 s6 s7:Option V),(σ=[some (.int (n:Int)),some (.ref lr),some (.ref l),s3,some (.str ⟨#[c]⟩),s5,s6,s7])->(H l=some (.lst (W.map V.str)))->(H lr=some (.lst ((pF++pM).map V.str)))->(l≠lr)->(H0 l=none)->(ae H0 H)->(c<128)->(c≠32)->(Mt.ltB c=false)->(rK W)->(((n:Int) % 3=2->rL W))->(∀z H',ae H0 H'->rH z->D.rt (.str z) H')->NS H0 D σ H
inductive NT(H0:Hp)(D:Ends)(σ:St)(H:Hp):Prop
 | mk:∀(n:Nat) (l lr:Addr) (W:List Str) (c:Nat) (s3 s5 s6 s7:Option V),(σ=[some (.int (n:Int)),some (.ref lr),some (.ref l),s3,some (.str ⟨#[c]⟩),s5,s6,s7])->(H l=some (.lst (W.map V.str)))->(H lr=some (.lst ((pF++pM).map V.str)))->(l≠lr)->(H0 l=none)->(ae H0 H)->(c<128)->(c≠32)->((((n:Int) % 3=0/\jF W)\/(¬ (n:Int) % 3=0/\rK W/\((n:Int) % 3=2->rL W))))->(∀z H',ae H0 H'->rH z->D.rt (.str z) H')->NT H0 D σ H
def a0z(T:Txt mg):bQ (XP P w K mg base f ak A outer s H E) (jG.drop 9) (NR H0):=by
 have nd:=rJ.nd;show fJ (b_ (C_ (r_ dW (o_ fz (pv 0) h_) h_ (bx _)) (b_ (j_ 6 (x_ (gn vs_))) (b_ (j_ 6 (o_ gY (pv 6) (x_ (gn vr_)))) (g_ (nI (bH (pv 6) (o_ fz (o_ gB (pv 0) h_) h_)) (nH (pv 2) (o_ Q_ h_ (o_ fz (o_ gB (pv 0) h_) (o_ gA (eV T.len (by rfl) (pv 2)) h_))) nV))))) q_) (qt_ (H0:=H0))) λD σ H1 h=>?_;obtain⟨n,l,W,s1,s3,s4,s5,s6,s7,rfl,hl,nl,S,hW,k⟩:=h;show⟨_,Z,_,_,Z,Z,(by change(0:Int)<3;decide),Z,_,Z,?_⟩;rcases hW with⟨h2,eo⟩ | ⟨h2,r8⟩;.show Ab h2 ⟨n,l,W,s1,s3,s4,s5,s6,s7,Z,hl,nl,S,eo,k⟩
 .show EM h2 ?_;obtain⟨bl1,bl2⟩:=vp_;obtain⟨w0,r,e,hr,dX⟩:=r8.a.ok;obtain⟨z,hz,ez⟩:=r8;have z3:=a2K.mp sq_ z hz;have zn:=a2K.mp vq_ z hz;rw[<-ez] at z3 zn;simp only[decide_eq_true_eq] at z3;show⟨sz (by rw[a2x];lia),λl1 h1=>?_⟩;have t1:=e_ (o:=.lst (bF.map V.str)) h1;show⟨_,Z,sz (by rw[a2x];lia),λl2 gF=>?_⟩;have t2:=t1.trans (e_ (o:=.lst (bM.map V.str)) gF);show⟨l1,l2,_,_,Z,Z,e_ gF _ _ c_,c_,sz (by simp;lia),λl3 h3=>?_⟩;have t3:=t2.trans (e_ (o:=.lst (bF.map V.str++bM.map V.str)) h3);have u3:(ad (ad (ad H1 l1 (.lst (bF.map V.str))) l2 (.lst (bM.map V.str))) l3 (.lst (bF.map V.str++bM.map V.str))) l3=some (.lst ((bF++bM).map V.str)):=by rw[c_,a3e]
  generalize ad (ad (ad H1 l1 (.lst (bF.map V.str))) l2 (.lst (bM.map V.str))) l3 (.lst (bF.map V.str++bM.map V.str))=H2 at t3 u3⊢;have b0:0<=(n:Int) / 48 % 16:=a3J _ (by decide);have b1:(n:Int) / 48 % 16<16:=a3P _ (by decide);have bl:(bF++bM).length=16:=by rw[a2O];lia
  obtain⟨j,hj,ej,aj⟩:=NP (xs:=bF++bM) b0 (by rw[bl];show b1);have wl:W.length=r.length+2:=by rw[e];simp
  have k0:0<=(n:Int) / 24 % ((W.length:Int)-2):=a3J _ (by lia);have k1:(n:Int) / 24 % ((W.length:Int)-2)<(W.length:Int)-2:=a3P _ (by lia);show⟨_,Z,_,Z,_,_,Z,Z,⟨by decide,by decide⟩,_,_,Z,Z,(by change(0:Int)<16;decide),l3,_,_,_,Z,Z,ag.of u3,aj,?_⟩;show⟨_,Z,_,Z,_,_,Z,Z,⟨by decide,by decide⟩,_,Z,l,_,Z,.inl (ag.of (t3 _ _ hl)),_,_,Z,Z,_,_,Z,Z,(by rw[a2x];change(0:Int)<(W.length:Int)-2;lia),_,_,Z,Z,?_⟩;rw[a2x];generalize (n:Int) / 24 % ((W.length:Int)-2)=kk at k0 k1;obtain⟨kn,rfl⟩:=a3p k0;show⟨l,_,_,2+kn,Z,Z,t3 _ _ hl,?_,?_⟩
  .rw[a2x];unfold fP;rw[if_pos (by lia),if_pos (by lia)];congr 1
  .have hb:=a2K.mp uk_ _ (a3R hj);simp only[a2H,decide_eq_true_eq,a2K] at hb;have zn':=a2K.mp (a2K.mp zn kn (a5d.mpr (by lia))) _ (a3R hj);show⟨n,l,W.set (2+kn) (bF++bM)[j],_,_,_,_,_,_,Z,by rw[c_,List.map_set],nl,vn (S.trans t3) nl,⟨⟨w0,cH,r.set kn (bF++bM)[j],?_,by rw[a4V];show hr,(dX w0 (by rw[e];simp)).2⟩,λp hp=>?_,by simpa using zn'⟩,k⟩
   .rw[e,a5X];rfl
   .rcases a5S hp with hp | rfl
    .have:=(dX p hp).1;show⟨this.1,by lia⟩
    .show⟨λc hc=>hb.1 c hc,hb.2⟩
def pP:Str:=Str.ofString "abcdefghijklmnopqrstuvwxyz"
def rl_:pP.length=26/\(pP.cps.toList.all λc=>decide (c<128)&&!(c==32))=true:=by decide
def NU(h:0<n):fP n 0=some 0:=by
 unfold fP;rw[if_pos (by decide),if_pos (by lia)];rfl
def NV{xs:List Nat}{i:Int}(h0:0<=i)(h1:i<xs.length):∃c,c∈xs/\cv xs i=some c:=by
 obtain⟨n,rfl⟩:=a3p h0;have hn:n<xs.length:=by lia
 show⟨xs[n],a3R hn,J_<|a2T hn⟩
def Ae(a b:Str):(a++b).length=a.length+b.length:=by rw[Mt.len_list,Mt.app_list,a2O,<-Mt.len_list,<-Mt.len_list]
def NW(hr:r.length<=2)(ha:∀p∈cH::r,(cg p/\p.length<=20)/\32∉p.cps.toList)(h0:cg w0/\w0.length<=60)(f0:32∉w0.cps.toList)(h:∀x∈cU,x.1≠w0):jF (w0::cH::r) :=
 ⟨⟨w0,cH,r,Z,hr,f0⟩,λp hp=>by
  rcases a2B.mp hp with rfl | hp;.show h0
  .have:=(ha p hp).1;show⟨this.1,by lia⟩,EL f0 (.inr h)⟩
def a0A(T:Txt mg):bQ (XP P w K mg base f ak A outer s H E) (jG.drop 8) (NT H0):=by
 have nd:=rJ.nd;show fJ (b_ (C_ (r_ dW (o_ fz (pv 0) h_) h_ (bx _)) (b_ (j_ 5 (o_ fz (o_ gB (pv 0) h_) (o_ Q_ (uO T.len (by rfl) (bH (pv 2) h_)) h_))) (b_ (j_ 4 (sr AI (o_ y_ (pv 4) (n_ (x:=pP))) (o_ fz (o_ gB (pv 0) h_) h_) (by intro _ _;rfl))) (b_ (nI (o_ y_ (o_ y_ (jX uI (bH (pv 2) h_) lX (iF (pv 5))) (pv 4)) (jX uI (bH (pv 2) h_) (iF (o_ Q_ (pv 5) (o_ fz (o_ gB (pv 0) h_) h_))) lX)) (nH (pv 2) h_ nV)) (g_ (C_ (r_ RC (bH (pv 2) h_) (P_ (f_ mt) Aa [] [] Z (B_ (pv 1)) (λcl C s H fp=>O_) (λcl C s H fp=>sC_ K Z (pv 0)) (by decide)) (by rfl)) (g_ (nI (o_ y_ (bH (pv 2) h_) (bH (pv 2) h_)) (nH (pv 2) h_ nV))) q_))))) q_) (a0z T (H0:=H0))) λD σ H1 h=>?_;obtain⟨n,l,lr,W,c,s3,s5,s6,s7,rfl,hl,eY,pQ,nl,S,c1,c2,hW,k⟩:=h;show⟨_,Z,_,_,Z,Z,(by change(0:Int)<3;decide),Z,_,Z,?_⟩;have sl:sizeLine>=1000:=by decide
 rcases hW with⟨h0,eo⟩ | ⟨h0,ra,r8⟩;.show Ab (by lia) ⟨n,l,W,_,_,_,_,_,_,Z,hl,nl,S,.inl ⟨by lia,eo⟩,k⟩
 by_cases h1:(n:Int) % 3=1
 .show EM h1 ?_;obtain⟨w0,r,e,hr,dX⟩:=ra.ok;subst e;obtain⟨⟨a0,l0⟩,f0⟩:=dX w0 (by simp);have e0:∀v:Str,cv ((v::cH::r).map V.str) 0=some (V.str v):=λv=>J_ (j:=0) Z;obtain⟨g1,g2⟩:=rl_;have p0:0<=(n:Int) / 36 % ((w0.length:Int)+1):=a3J _ (by lia);have p1:(n:Int) / 36 % ((w0.length:Int)+1)<(w0.length:Int)+1:=a3P _ (by lia);show⟨_,Z,_,_,Z,Z,⟨by decide,by decide⟩,_,Z,l,_,0,_,Z,Z,ag.of hl,e0 w0,w0,Z,by lia,_,_,Z,Z,_,_,Z,Z,(by change(0:Int)<(w0.length:Int)+1;lia),?_⟩;try dsimp only
  generalize (n:Int) / 36 % ((w0.length:Int)+1)=pp at p0 p1⊢;obtain⟨pn,rfl⟩:=a3p p0;have q0:0<=(n:Int) / 500 % 27:=a3J _ (by decide);have q1:(n:Int) / 500 % 27<27:=a3P _ (by decide);have el:((⟨#[c]⟩:Str)++pP).cps.toList=c::pP.cps.toList:=by rw[Mt.app_list];rfl
  have ll:((⟨#[c]⟩:Str)++pP).length=27:=by rw[Ae,g1];rfl
  obtain⟨c',gw,ac⟩:=NV (xs:=((⟨#[c]⟩:Str)++pP).cps.toList) q0 (by rw[<-Mt.len_list,ll];show q1)
  have cc:c'<128/\c'≠32:=by
   rw[el] at gw;rcases a2B.mp gw with rfl | gw;.show⟨c1,c2⟩
   .have:=a2K.mp g2 c' gw;simpa using this
  show⟨_,Z,_,_,Z,Z,(by rw[g1];change 1+26<=sizeLine;lia),_,Z,_,_,Z,Z,⟨by decide,by decide⟩,_,_,Z,Z,(by change(0:Int)<27;decide),_,_,c',Z,Z,by lia,ac,?_⟩;have u0:0<=(n:Int) / 324 % 2:=a3J _ (by decide);have hp:pn<=w0.length:=by lia
  have cl1:=(Mt.EK (z:=w0) hp).2;show⟨_,Z,l,_,0,_,Z,Z,ag.of hl,e0 w0,_,Z,_,Z,w0,Z,by lia,_,Z,_,_,Z,Z,(by change _+1<=sizeLine;lia),_,Z,l,_,0,_,Z,Z,ag.of hl,e0 w0,_,Z,_,Z,_,_,Z,Z,⟨by decide,by decide⟩,_,_,Z,Z,(by change(0:Int)<2;decide),_,_,Z,Z,_,Z,w0,Z,by lia,?_⟩;try dsimp only
  obtain⟨un,EO⟩:=a3p u0;show EO▸(show((pn:Int)+(un:Int))=((pn+un:Nat):Int) by lia)▸?_;have cl2:=(Mt.EJ w0 (pn+un)).2;obtain⟨y1,y2,_⟩:=NQ (z:=w0) (i:=pn) (j:=pn+un) hp l0 a0 f0 cc.1 cc.2;show⟨_,_,Z,Z,(by rw[Ae];change _+1+_<=sizeLine;lia),_,Z,l,_,0,0,Z,Z,hl,NU (by simp),?_⟩;generalize Txt.slice w0 none (some (pn:Int))++⟨#[c']⟩++Txt.slice w0 (some ((pn+un:Nat):Int)) none=y at y1 y2;have aS:(ad H1 l (.lst (((w0::cH::r).map V.str).set 0 (.str y)))) l=some (.lst ((y::cH::r).map V.str)):=c_;have gK:(ad H1 l (.lst (((w0::cH::r).map V.str).set 0 (.str y)))) lr=some (.lst ((pF++pM).map V.str)):=by rw[i_ (Ne.symm pQ)];show eY
  have S2:ae H0 (ad H1 l (.lst (((w0::cH::r).map V.str).set 0 (.str y)))):=vn S nl;generalize ad H1 l (.lst (((w0::cH::r).map V.str).set 0 (.str y)))=H2 at aS gK S2⊢;have EQ:=rx_;have hc:=EN;have rl:(pF++pM).length=12:=by rw[a2O];have:=NM;lia
  generalize pF++pM=rows at gK EQ hc rl
  have hw:∀z∈rows,z.length<=100/\∃v t,eR z=v::t/\t.length<=3/\(cg v/\v.length<=20)/\32∉v.cps.toList:=λz hz=>by
   have h:=a2K.mp hc z hz;simp only[Ad,a2H,decide_eq_true_eq,a2K,a3V] at h;obtain⟨⟨⟨⟨h1,h2⟩,h3⟩,_⟩,h5⟩:=h;generalize eR z=V at *
   match V,h2 with
   | v::t,_ =>
    simp only[a2P] at h3;have:=h5 v (by simp);show⟨h1,v,t,Z,by lia,⟨λc hc=>this.1.1 c hc,this.1.2⟩,by simpa using this.2⟩
  show⟨_,Z,l,_,0,_,Z,Z,ag.of aS,e0 y,_,Z,lr,Z,⟨_,ag.of gK⟩,z_ (K:=K) (a:=lr) (xs:=rows.map V.str) (λi ys H'=>ys=(lP (rows.take i)).map V.str/\ae H2 H') ⟨Z,ae.refl _⟩ (λi ys H' _ q=>ag.of (q.2 _ _ gK)) ?_ ?_⟩
  .rintro i x ys H3 hx ⟨rfl,s3⟩;obtain⟨z,hz,rfl⟩:=iS hx;have hi:=(a2z.mp hz).1;obtain⟨zl,v,t,ev,tl,_⟩:=hw z (a2A hz);show⟨bT (by simp[lP];lia),_,Z,Z,_,_,Z,Z,by decide,by lia,?_,λl4 h4=>?_⟩
   .rw[Mt.mS];change(eR z).length<=_;rw[ev,a2P];lia
   .rw[Mt.mS];have e1:cv ((Txt.split z (Mt.one 32)).map V.str) 0=some (V.str v):=J_ (j:=0) (jD (by change(eR z)[0]?=_;rw[ev];rfl));show⟨l4,_,0,_,Z,Z,ag.of c_,e1,?_,s3.trans (e_ h4)⟩;rw[a2I,hz];simp[lP,ev]
  .rintro ys H3 ⟨rfl,s3⟩ m hm;rw[a2x,a2M];show⟨m,_,Z,.inl (ag.of c_),Z,nd_ _,_,Z,?_⟩;rw[if_neg (show ¬(false=true) by decide),ru_];have t3:=s3.trans (e_ (o:=.lst ((lP rows).map V.str)) hm);by_cases mD:(lP rows).contains y=true
   .rw[mD];have dR:=t3 _ _ aS;show bj ⟨_,Z,l,_,0,_,Z,Z,ag.of dR,e0 y,_,Z,l,_,0,_,Z,Z,ag.of dR,e0 y,_,_,Z,Z,by lia,_,Z,l,_,0,0,Z,Z,dR,NU (by simp),(⟨n,l,(y++y)::cH::r,_,_,_,_,_,_,Z,c_,nl,vn (S2.trans t3) nl,.inl ⟨by lia,?_⟩,k⟩)⟩;have hy:y∈lP rows:=by simpa using mD
    obtain⟨z,hz,ez⟩:=a2N.mp hy;obtain⟨_,v,t,ev,_,⟨va,vl⟩,vf⟩:=hw z hz;have NY:y=v:=by rw[<-ez,ev];rfl
    have em:∀d,d∈(y++y).cps.toList->d∈v.cps.toList:=λd hd=>by
     rw[Mt.app_list,NY] at hd;rcases a3j.mp hd with h | h <;> show h
    show NW hr (λp hp=>dX p (a2G _ hp)) ⟨λd hd=>va d (em d hd),by rw[Ae,NY];lia⟩ (λhd=>vf (em 32 hd)) λx hx ex=>?_;have:=a2K.mp (a2K.mp EQ.2 y hy) x hx;rw[ex] at this;simp at this
   .have NZ:(lP rows).contains y=false:=by simpa using mD
    rw[NZ];show aK ⟨n,l,y::cH::r,_,_,_,_,_,_,Z,t3 _ _ aS,nl,S2.trans t3,.inl ⟨by lia,(NW hr (λp hp=>dX p (a2G _ hp)) y1 y2 λx hx ex=>?_)⟩,k⟩;have:=a2K.mp EQ.1 x hx;rw[ex,NZ] at this;cases this
 .show Ab h1 ⟨n,l,W,_,_,_,_,_,_,Z,hl,nl,S,.inr ⟨by lia,r8 (by lia)⟩,k⟩
def rd_(h:c∈y.cps.toList)(hc:Mt.ltB c=false):Mt.eQ y=false:=by
 cases hn:Mt.eQ y with
 | false=>rfl
 | true =>
  simp only[Mt.eQ,a2H,a2K] at hn;have:=hn.2 c h;rw[hc] at this;cases this
def a0B(T:Txt mg):bQ (XP P w K mg base f ak A outer s H E) (jG.drop 7) (NS H0):=by
 have nd:=rJ.nd;show fJ (b_ (C_ (r_ dW (o_ fz (pv 0) h_) h_ (bx _)) (b_ (j_ 5 (o_ fz (o_ gB (pv 0) h_) h_)) (g_ (nI (o_ y_ (o_ y_ (jX uI (bH (pv 2) h_) lX (iF (pv 5))) (pv 4)) (jX uI (bH (pv 2) h_) (iF (o_ Q_ (pv 5) (o_ fz (o_ gB (pv 0) h_) h_))) lX)) (nH (pv 2) h_ nV)))) q_) (a0A T (H0:=H0))) λD σ H1 h=>?_;obtain⟨n,l,lr,W,c,s3,s5,s6,s7,rfl,hl,eY,pQ,nl,S,c1,c2,c3,ra,r8,k⟩:=h;show⟨_,Z,_,_,Z,Z,(by change(0:Int)<3;decide),Z,_,Z,?_⟩;have sl:sizeLine>=1000:=by decide
 by_cases h0:(n:Int) % 3=0
 .show EM h0 ?_;obtain⟨w0,r,e,hr,dX⟩:=ra.ok;subst e;obtain⟨n8,_,_⟩:=sW_;obtain⟨⟨a0,l0⟩,f0⟩:=dX cH (by simp);have e1:∀v:Str,cv ((w0::v::r).map V.str) 1=some (V.str v):=λv=>J_ (j:=1) Z;have p0:0<=(n:Int) / 36 % 9:=a3J _ (by decide);have p1:(n:Int) / 36 % 9<9:=a3P _ (by decide);show⟨_,Z,_,_,Z,Z,⟨by decide,by decide⟩,_,_,Z,Z,(by change(0:Int)<9;decide),?_⟩;try dsimp only
  generalize (n:Int) / 36 % 9=pp at p0 p1⊢;obtain⟨pn,rfl⟩:=a3p p0;have u0:0<=(n:Int) / 324 % 2:=a3J _ (by decide);have hp:pn<=cH.length:=by lia
  have cl1:=(Mt.EK (z:=cH) hp).2;show⟨_,Z,l,_,1,_,Z,Z,ag.of hl,e1 cH,_,Z,_,Z,cH,Z,by lia,_,Z,_,_,Z,Z,(by change _+1<=sizeLine;lia),_,Z,l,_,1,_,Z,Z,ag.of hl,e1 cH,_,Z,_,Z,_,_,Z,Z,⟨by decide,by decide⟩,_,_,Z,Z,(by change(0:Int)<2;decide),_,_,Z,Z,_,Z,cH,Z,by lia,?_⟩;try dsimp only
  obtain⟨un,EO⟩:=a3p u0;rw[EO,show((pn:Int)+(un:Int))=((pn+un:Nat):Int) by lia];have cl2:=(Mt.EJ cH (pn+un)).2;obtain⟨y1,y2,y3⟩:=NQ (z:=cH) (i:=pn) (j:=pn+un) hp l0 a0 f0 c1 c2;show⟨_,_,Z,Z,(by rw[Ae];change _+1+_<=sizeLine;lia),_,Z,l,_,1,1,Z,Z,hl,NK (by simp),?_⟩;generalize Txt.slice cH none (some (pn:Int))++⟨#[c]⟩++Txt.slice cH (some ((pn+un:Nat):Int)) none=y at y1 y2 y3;show⟨n,l,lr,w0::y::r,c,_,_,_,_,Z,c_,by rw[i_ (Ne.symm pQ)];show eY,pQ,nl,vn S nl,c1,c2,.inl ⟨h0,⟨⟨w0,y,r,Z,hr,(dX w0 (by simp)).2⟩,λp hp=>?_,EL (dX w0 (by simp)).2 (.inl ⟨y2,rd_ y3 c3⟩)⟩⟩,k⟩;simp only[a2B] at hp;rcases hp with rfl | rfl | hp
  .have:=(dX _ (a2Y)).1;show⟨this.1,by lia⟩
  .show y1
  .have:=(dX p (by simp[hp])).1;show⟨this.1,by lia⟩
 .show Ab h0 ⟨n,l,lr,W,c,s3,s5,s6,s7,Z,hl,eY,pQ,nl,S,c1,c2,.inr ⟨h0,ra,r8⟩,k⟩
def mo_(F:ay K "_law_spoilt" "_law_spoilt" mt f fd)(T:Txt mg):av P w K mg base aE 1 f fd ["cell"] pO:=by
 show F.ok rJ λak A outer s H vs Q E hr h=>?_
 .obtain⟨n,rfl,k⟩:=h;have nd:=rJ.nd;show nZ_▸?_;show⟨_,b_ (j_ 1 (x_ (gn uF_))) (zP nd Z (Or.inl Z) (λp=>pv 1) Z (b_ (j_ 2 (dh PySem.F.plainAttrs_str PySem.F.slot_str_split PySem.F.type_str_split rh (bH (pv 1) (o_ fz (o_ gB (pv 0) h_) (bH (x_ (a_ h_ (a_ h_ (a_ h_ d_)))) (o_ fz (pv 0) h_)))) (a_ n_ d_))) (b_ (j_ 3 (n_ (x:=jH))) (b_ (j_ 4 (sr AI (pv 3) (o_ fz (o_ gB (pv 0) h_) (uO T.len (by rfl) (pv 3))) (by intro _ _;rfl))) (a0B T (H0:=H))))) Ac pM uE_),?_⟩;obtain⟨p1,p2⟩:=NM;obtain⟨g1,g2,g3⟩:=sj_;have sl:sizeLine>=1000:=by decide
  show⟨sz (by rw[a2x];lia),λl0 h0=>⟨l0,pF,Z,c_,by lia,λlr H1 s1 u1=>?_⟩⟩;have S1:=(e_ (o:=.lst (pF.map V.str)) h0).trans s1;obtain⟨m,hat,m0,m12,m8⟩:=a0y n;have rl:(pF++pM).length=12:=by rw[a2O];lia
  have b0:0<=(n:Int) / 3 % m:=a3J _ (by lia);have b1:(n:Int) / 3 % m<m:=a3P _ m0;obtain⟨j,hj,ej,aj⟩:=NP (xs:=pF++pM) b0 (by lia);have hz:=a3R hj;have ra:rK (eR (pF++pM)[j]):=⟨_,hz,Z⟩
  have r8:(n:Int) % 3=2->rL (eR (pF++pM)[j]):=λh2=>⟨(pF++pM)[j],by
   have:j<8:=by have:=m8 h2;lia
   rw[List.mem_take_iff_getElem];show⟨j,by lia,Z⟩,Z⟩;have N0:=a2K.mp EN _ hz;simp only[Ad,a2H,decide_eq_true_eq] at N0;obtain⟨⟨⟨⟨zl,_⟩,w4⟩,_⟩,_⟩:=N0;generalize (pF++pM)[j]=z at aj ra r8 zl w4;show⟨_,Z,_,Z,_,_,Z,Z,⟨by decide,by decide⟩,sz (by simp),λl3 h3=>?_⟩;have t3:=e_ (o:=.lst [V.int 12,V.int 12,V.int 8]) h3;show⟨_,Z,_,_,Z,Z,(by change(0:Int)<3;decide),l3,_,_,_,Z,Z,ag.of c_,hat,_,_,Z,Z,m0,lr,_,_,_,Z,Z,ag.of (t3 _ _ u1),aj,Z,_,_,Z,Z,by decide,by lia,?_,λl hl=>?_⟩
  .rw[Mt.mS];change(eR z).length<=_;lia
  .rw[Mt.mS];have t4:=t3.trans (e_ (o:=.lst ((eR z).map V.str)) hl);have pQ:l≠lr:=λe=>by rw[e,t3 _ _ u1] at hl;cases hl
   have c0:0<=(n:Int) / 1000 % (jH.length:Int):=a3J _ (by lia);have c1:(n:Int) / 1000 % (jH.length:Int)<(jH.length:Int):=a3P _ (by lia);obtain⟨c,hc,ac⟩:=NV (xs:=jH.cps.toList) c0 (by rw[<-Mt.len_list];show c1);have cc:=a2K.mp g1 c hc;simp only[a2H,decide_eq_true_eq,a3V,beq_eq_false_iff_ne] at cc;show⟨_,Z,_,Z,_,_,Z,Z,⟨by decide,by decide⟩,_,Z,jH,Z,by lia,_,_,Z,Z,(by change(0:Int)<(jH.length:Int);lia),jH,_,c,Z,Z,by lia,ac,⟨n,l,lr,eR z,c,_,_,_,_,Z,c_,(t4 _ _ u1),pQ,(S1.trans t3).free hl,S1.trans t4,cc.1.1,cc.1.2,cc.2,ra,r8,k⟩⟩
def ja(S:bK C H d dx m es)(h3:es.map d8=bX)(bW:cg z)(zl:z.length<=1000)(hb:dO (Mt.ba z)=true)(hi:eZ (Mt.ba z)=i)(h1:3<=i)(h2:i<=11) (hn:(Mt.ba z)[1]?=some nm) (hf:(bX.find? λe=>decide (e.1=nm))=some e) (k:∀H1,ae H H1->EB (c 1) i e.2.1 e.2.2.1 e.2.2.2 (Mt.ba z) H1 Q E):d7 C c [.ref d,.str z] H Q E:=by
 have bE:es.length<100:=by
  have:=congrArg List.length h3;rw[a2x] at this;rw[this];decide
 rw[Nq h3] at hf;obtain⟨x,hx,rfl⟩:=a4l.mp hf;obtain⟨r,hr,h0,_⟩:=zT hb;subst hi;show⟨d,dx,m,es,_,Z,S,bE,.inr ⟨z,eZ (Mt.ba z),Z,bW,zl,hb,?_,λH1 s1 S1=>⟨nm,hn,.inr ⟨by lia,h2,.inr ⟨x,hx,.inr (.inr ⟨h1,k H1 s1⟩)⟩⟩⟩⟩⟩;rw[h0];unfold ii;rw[rB hr]
def gq(z:Str)(i:Nat)(nm:Str):Bool:=z.cps.toList.all (λc=>decide (c<128))&&decide (z.length<=300)&&dO (Mt.ba z)&&decide (eZ (Mt.ba z)=i)&&decide ((Mt.ba z)[1]?=some nm)
def ik(h:gq z i nm=true):cg z/\z.length<=1000/\dO (Mt.ba z)=true/\eZ (Mt.ba z)=i/\(Mt.ba z)[1]?=some nm:=by
 simp only[gq,a2H,decide_eq_true_eq,a2K] at h;obtain⟨⟨⟨⟨h1,h2⟩,h3⟩,h4⟩,h5⟩:=h;show⟨λc hc=>h1 c hc,by lia,h3,h4,h5⟩
def lQ(z:Str)(n:Nat):Bool:=match (Mt.ba z)[2]? with
 | some t=>(intText? t==some (n:Int))&&decide (t.length<=640)
 | none=>false
def pR(h:lQ z n=true):∃t,(Mt.ba z)[2]?=some t/\intText? t=some (n:Int)/\t.length<=640:=by
 unfold lQ at h
 cases ht:(Mt.ba z)[2]? with
 | none=>rw[ht] at h;cases h
 | some t =>
  simp_all
def dF:List (Str×Str):=[("many a","10"),("below a 100","10"),("nth a 3","33"),("next a 12","22"),("last a 11","0"),("miss a 92","7"),("near a 1","28"),("sums b 3","0 9"),("many b","2")]
abbrev fA:Str×Nat×List Nat×List Int:=("a",10,[1,1],[1,1])
abbrev fB:Str×Nat×List Nat×List Int:=("b",2,[1,1],[0,9])
def mY:(bX.find? λe=>decide (e.1=(Str.ofString "a")))=some fA:=by decide
def ER:(bX.find? λe=>decide (e.1=(Str.ofString "b")))=some fB:=by decide
def q0:gq "many a" 3 "a"=true/\Mt.txt (Mx.aD 10 0 [1,1] [1,1] (10 ^ 2))=("10":Str):=by decide
def q1:gq "below a 100" 4 "a"=true/\lQ "below a 100" 100=true/\Mt.txt (Mx.aD 10 0 [1,1] [1,1] 100)=("10":Str):=by decide
def q2:gq "nth a 3" 5 "a"=true/\lQ "nth a 3" 3=true/\Mx.eO 10 0 [1,1] [1,1] 33=1/\Mx.aD 10 0 [1,1] [1,1] 33=3/\Mx.aD 10 0 [1,1] [1,1] (10 ^ 2)=10/\Mt.txt 33=("33":Str):=by decide
def q3:gq "next a 12" 6 "a"=true/\lQ "next a 12" 12=true/\Mx.eO 10 0 [1,1] [1,1] 22=1/\Mx.aD 10 0 [1,1] [1,1] 22=2/\Mx.aD 10 0 [1,1] [1,1] 12=2/\Mx.aD 10 0 [1,1] [1,1] (10 ^ 2)=10/\Mt.txt 22=("22":Str):=by decide
def q4:gq "last a 11" 7 "a"=true/\lQ "last a 11" 11=true/\Mx.eO 10 0 [1,1] [1,1] 0=1/\Mx.aD 10 0 [1,1] [1,1] 11=1/\Mt.txt 0=("0":Str):=by decide
def q5:gq "miss a 92" 8 "a"=true/\lQ "miss a 92" 92=true/\Mt.txt (qK (oE 10 92 [1,1] [1,1]))=("7":Str):=by decide
def q6:gq "near a 1" 9 "a"=true/\lQ "near a 1" 1=true/\Mt.txt (Mx.aD 10 1 [1,1] [1,1] (10 ^ 2))=("28":Str):=by decide
def q7:gq "sums b 3" 10 "b"=true/\lQ "sums b 3" 3=true/\Str.join (Mt.one 32) ((Ma.gH [1,1] (Ma.b6 2 3 2 [0,9])).map Mt.txt)=("0 9":Str):=by decide
def q8:gq "many b" 3 "b"=true/\Mt.txt (Mx.aD 2 0 [1,1] [0,9] (2 ^ 2))=("2":Str):=by decide
def a0C(S:bK C H d dx m es)(h3:es.map d8=bX){i:Nat}(hp:dF[i]?=some p)(k:∀H',ae H H'->Q (.str p.2) H'):d7 C c [.ref d,.str p.1] H Q E:=by
 have hi:i<9:=(a2z.mp hp).1;have hc:i=0\/i=1\/i=2\/i=3\/i=4\/i=5\/i=6\/i=7\/i=8:=by lia
 rcases hc with rfl | rfl | rfl | rfl | rfl | rfl | rfl | rfl | rfl <;> cases hp
 .obtain⟨a1,a2⟩:=q0;obtain⟨b1,b2,b3,b4,b5⟩:=ik a1;show ja S h3 b1 b2 b3 b4 (by decide) (by decide) b5 mY λH1 s1=>.inr (.inl ⟨Z,λH' s'=>a2▸k H' (s1.trans s')⟩)
 .obtain⟨a1,a3,a2⟩:=q1;obtain⟨b1,b2,b3,b4,b5⟩:=ik a1;obtain⟨t,t1,t2,t3⟩:=pR a3;show ja S h3 b1 b2 b3 b4 (by decide) (by decide) b5 mY λH1 s1=>.inr (.inr ⟨by decide,by decide,t,100,t1,t2,t3,by decide,λ_ H' s'=>a2▸k H' (s1.trans s'),λz=>absurd z (by decide)⟩)
 .obtain⟨a1,a3,e1,e2,e3,a2⟩:=q2;obtain⟨b1,b2,b3,b4,b5⟩:=ik a1;obtain⟨t,t1,t2,t3⟩:=pR a3;show ja S h3 b1 b2 b3 b4 (by decide) (by decide) b5 mY λH1 s1=>.inr (.inr ⟨by decide,by decide,t,3,t1,t2,t3,by decide,λv H' s' hv=>?_⟩);rcases hv with⟨_,hv⟩ | ⟨x,rfl,_,x1,x2⟩
  .have hv:Mx.aD 10 0 [1,1] [1,1] (10 ^ 2)<=(3:Int):=hv;rw[e3] at hv;show absurd hv (by decide)
  .have:x=33:=Mx.Dc x1 e1 (by rw[e2];show x2);subst this;have e:pD (V.int ((33:Nat):Int))=_:=a2;rw[e];show k H' (s1.trans s')
 .obtain⟨a1,a3,e1,e2,e3,e4,a2⟩:=q3;obtain⟨b1,b2,b3,b4,b5⟩:=ik a1;obtain⟨t,t1,t2,t3⟩:=pR a3;show ja S h3 b1 b2 b3 b4 (by decide) (by decide) b5 mY λH1 s1=>.inr (.inr ⟨by decide,by decide,t,12,t1,t2,t3,by decide,λ_ v H' s' hv=>?_,λz=>absurd z (by decide)⟩);rcases hv with⟨_,hv⟩ | ⟨x,rfl,_,_,x1,x2⟩
  .have hv:Mx.aD 10 0 [1,1] [1,1] (10 ^ 2)=Mx.aD 10 0 [1,1] [1,1] 12:=hv;rw[e4,e3] at hv;show absurd hv (by decide)
  .have:x=22:=Mx.Dc x1 e1 (by rw[e2,<-e3];show x2);subst this;have e:pD (V.int ((22:Nat):Int))=_:=a2;rw[e];show k H' (s1.trans s')
 .obtain⟨a1,a3,e1,e3,a2⟩:=q4;obtain⟨b1,b2,b3,b4,b5⟩:=ik a1;obtain⟨t,t1,t2,t3⟩:=pR a3;show ja S h3 b1 b2 b3 b4 (by decide) (by decide) b5 mY λH1 s1=>.inr (.inr ⟨by decide,by decide,t,11,t1,t2,t3,by decide,λ_ v H' s' hv=>?_,λz=>absurd z (by decide)⟩);rcases hv with⟨_,hv⟩ | ⟨x,rfl,_,x1,x2⟩
  .have hv:Mx.aD 10 0 [1,1] [1,1] 11=0:=hv;rw[e3] at hv;show absurd hv (by decide)
  .have:x=0:=Mx.Dc x1 e1 (by
    have x2:Mx.aD 10 0 [1,1] [1,1] x+1=Mx.aD 10 0 [1,1] [1,1] 11:=x2;rw[e3] at x2;change Mx.aD 10 0 [1,1] [1,1] x=Mx.aD 10 0 [1,1] [1,1] 0;rw[show Mx.aD 10 0 [1,1] [1,1] 0=0 from rfl];lia);subst this;have e:pD (V.int ((0:Nat):Int))=_:=a2;rw[e];show k H' (s1.trans s')
 .obtain⟨a1,a3,a2⟩:=q5;obtain⟨b1,b2,b3,b4,b5⟩:=ik a1;obtain⟨t,t1,t2,t3⟩:=pR a3;show ja S h3 b1 b2 b3 b4 (by decide) (by decide) b5 mY λH1 s1=>.inr (.inr ⟨by decide,by decide,t,92,t1,t2,t3,by decide,λ_ H' s'=>a2▸k H' (s1.trans s'),λz=>absurd z (by decide)⟩)
 .obtain⟨a1,a3,a2⟩:=q6;obtain⟨b1,b2,b3,b4,b5⟩:=ik a1;obtain⟨t,t1,t2,t3⟩:=pR a3;show ja S h3 b1 b2 b3 b4 (by decide) (by decide) b5 mY λH1 s1=>.inr (.inr ⟨by decide,by decide,t,1,t1,t2,t3,by decide,λH' s'=>a2▸k H' (s1.trans s')⟩)
 .obtain⟨a1,a3,a2⟩:=q7;obtain⟨b1,b2,b3,b4,b5⟩:=ik a1;obtain⟨t,t1,t2,t3⟩:=pR a3;show ja S h3 b1 b2 b3 b4 (by decide) (by decide) b5 ER λH1 s1=>.inr (.inr ⟨by decide,by decide,t,3,t1,t2,t3,by decide,λ_ H' s'=>?_,λz=>absurd z (by decide)⟩);rw[show Txt.join (Mt.one 32) ((Ma.gH fB.2.2.1 (Ma.b6 fB.2.1 3 fB.2.2.1.sum fB.2.2.2)).map Mt.txt)=("0 9":Str) from(StrLaws.glued_eq_join _ _).trans a2];show k H' (s1.trans s')
 .obtain⟨a1,a2⟩:=q8;obtain⟨b1,b2,b3,b4,b5⟩:=ik a1;show ja S h3 b1 b2 b3 b4 (by decide) (by decide) b5 ER λH1 s1=>.inr (.inl ⟨Z,λH' s'=>a2▸k H' (s1.trans s')⟩)
def gQ:List Stmt:=I_ jm
def eR1:List Expr:=match gQ.getD 8 (.Pass ⟨0,0,0,0⟩) with
 | .Assign _ (.List es _) _=>es
 | _=>[]
def eR2:List Expr:=match gQ.getD 9 (.Pass ⟨0,0,0,0⟩) with
 | .Assign _ (.BinOp _ _ (.List es _) _) _=>es
 | _=>[]
def eR3:List Expr:=match gQ.getD 11 (.Pass ⟨0,0,0,0⟩) with
 | .Return (some (.Compare _ _ [.List es _] _)) _=>es
 | _=>[]
def uc_:cL eR1=some ((dF.take 5).map (·.1)):=by decide
def ub_:cL eR2=some ((dF.drop 5).map (·.1)):=by decide
def ua_:cL eR3=some (dF.map (·.2)):=by decide
abbrev Af:List Str:=["script","desk","other","frames","name","held","every","thing","k","cell","row","due","told","rows"]
def lS:aI Af ["script"] (f_ jm):=⟨Z,Z,Z,by decide,Z,by decide,by decide⟩
abbrev XL(P:Program)(w:World)(K:PySem.W.Frag)(mg:Str->Option Value)(base:Heap)(f:Addr)(ak:Value)(A:Around)(outer:List Env)(s:Shared)(H:Hp)(E:XK):Cx:=Cx.iy (bR aE P w K mg base Af "law" (f_ jm) f ak A outer s H E)
theorem mZ{P:Program}{w:World}{H:Hp}:∀ns:List Str,Paired (jj P w H) (ns.map V.str) (ns.map PyData.str)
 | []=>.nil
 | x::r=>.cons (A1 x) (mZ r)
inductive ES(C:Addr)(D:Ends)(σ:St)(H:Hp):Prop
 | mk:∀(d dx m:Addr) (es:List DE) (v0 v2 v3 v4 v5 v6 v7 v8 v9 bP b9 cI bZ:Option V),(σ=[v0,some (.ref d),v2,v3,v4,v5,v6,v7,v8,v9,bP,b9,cI,bZ])->(bK C H d dx m es)->(es.map d8=bX)->(∀H',D.rt (.bl true) H')->ES C D σ H
def N1:(PyData.canLay0 (.list ((dF.map (·.2)).map PyData.str)))=true/\PyData.depth (.list ((dF.map (·.2)).map PyData.str))<=60:=by decide
def sZ_(cl:cS K C)(M:iX P w K mg base 16 C "say" ["self","row"] (d7 C c))(hr:bD 17 (XL P w K mg base f ak A outer s H E).A):bQ (XL P w K mg base f ak A outer s H E) (gQ.drop 8) (ES C):=by
 have nd:=lS.nd;have hu:=hr.units;show fJ (b_ (j_ 13 (x_ (gn uc_))) (b_ (j_ 13 (o_ gY (pv 13) (x_ (gn ub_)))) (b_ (wD (f_ jm) Af ["desk"] [1] (i:=12) nd Z (Or.inl Z) Z (B_ (pv 13)) (λcl C s H fp=>O_) (λcl' C' s' H' fp=>EF (k:=16) (C:=C) (ps:=["self","row"]) (sp:=d7 C c) (by show cl) (by show M) hr.mo (pv 1) (a_ (pv 0) d_)) (by decide) (by rfl)) (g_ (k_ (sd (Sv hu) (pv 12) (x_ (gn ua_)) (bx _))))))) λD σ H1 h=>?_;obtain⟨d,dx,m,es,v0,v2,v3,v4,v5,v6,v7,v8,v9,bP,b9,cI,bZ,rfl,S,h3,k⟩:=h;show⟨sz (by decide),λl1 h1=>?_⟩;have t1:=e_ (o:=.lst (((dF.take 5).map (·.1)).map V.str)) h1;have u1:(ad H1 l1 (.lst (((dF.take 5).map (·.1)).map V.str))) l1=_:=c_;change(kG _ _) _ _ (ad H1 l1 (.lst (((dF.take 5).map (·.1)).map V.str)));generalize ad H1 l1 (.lst (((dF.take 5).map (·.1)).map V.str))=H2 at t1 u1⊢;show⟨_,Z,sz (by decide),λl2 h2=>?_⟩;have t2:=t1.trans (e_ (o:=.lst (((dF.drop 5).map (·.1)).map V.str)) h2);show⟨l1,l2,_,_,Z,Z,e_ h2 _ _ u1,c_,sz (by decide),λl3 mJ=>?_⟩;have e9:((dF.take 5).map (·.1)).map V.str++((dF.drop 5).map (·.1)).map V.str=(dF.map (·.1)).map V.str:=rfl;show e9▸?_;have t3:=t2.trans (e_ (o:=.lst ((dF.map (·.1)).map V.str)) mJ);have u3:(ad (ad H2 l2 (.lst (((dF.drop 5).map (·.1)).map V.str))) l3 (.lst ((dF.map (·.1)).map V.str))) l3=_:=c_;generalize ad (ad H2 l2 (.lst (((dF.drop 5).map (·.1)).map V.str))) l3 (.lst ((dF.map (·.1)).map V.str))=H3 at t3 u3⊢;have S3:=S.keep t3;show⟨_,Z,l3,Z,⟨_,ag.of u3⟩,z_ (K:=K) (a:=l3) (xs:=(dF.map (·.1)).map V.str) (λi ys H'=>ys=((dF.take i).map (·.2)).map V.str/\ae H3 H') ⟨Z,ae.refl _⟩ (λi ys H' _ q=>ag.of (q.2 _ _ u3)) ?_ ?_⟩
 .rintro i x ys H4 hx ⟨rfl,s4⟩;obtain⟨z,hz,rfl⟩:=iS hx;obtain⟨p,hp,rfl⟩:=Dm hz;have hi:i<9:=(a2z.mp hp).1;have S4:=S3.keep s4;show⟨bT (by simp;lia),_,Z,d,dx,_,Z,S4.ob,rE (by decide),_,Z,?_⟩;unfold ee;show a0C S4 h3 hp λH' s'=>⟨?_,s4.trans s'⟩;rw[a2I,hp];simp
 .rintro ys H4 ⟨rfl,s4⟩ l4 h4;have u4:(ad H4 l4 (.lst ((dF.map (·.2)).map V.str))) l4=_:=c_;show⟨_,Z,sz (by decide),λl5 h5=>(L2.sG (hJ (e_ h5 _ _ u4) (mZ (dF.map (·.2)))) (hJ c_ (mZ (dF.map (·.2)))) N1.1 N1.2 (k _))⟩
def de:List Str:=["a","abcdefgh","b"]
def fY:List Str:=["a","abcdefgh","b","c"]
def ng:List (Str×Str):=bX.map λe=>(e.1,Mt.fText e.2.1 e.2.2.1 e.2.2.2)
def cV:List (ax×V):=ng.map λp=>(.inr p.1,.str p.2)
def jI(H:Hp)(i:Nat)(v:V):Prop:=iY i/\((i=9/\Ev H v)\/∃z,v=.str z/\gp i z=true)
def Ag(xs:List V):Prop:=∀i r,xs≠.int i::r
structure LS(K:PySem.W.Frag)(C:Addr)(H:Hp)(sc:Addr)(ns:List Int)(d dx m:Addr)(es:List DE)(od ox om fr e:Addr)(us:List Addr):Prop where
 sq:ag K H sc (ns.map V.int)
 dk:bK C H d dx m es
 d3:es.map d8=bX
 ot:bK C H od ox om []
 fr:H fr=some (.dK cV)
 ev:H e=some (.lst (us.map V.ref))
 ul:us.length<=1000
 rw:∀u∈us,∃v i,H u=some (.tup [v,.str (db i)])/\jI H i v
def ni(K:PySem.W.Frag)(ns:List Int)(sc h:Addr):Prop:=sc≠h\/∀H',ag K H' sc (ns.map V.int)
structure Hs(H:Hp)(h:Addr)(hs:List Addr):Prop where
 at':H h=some (.lst (hs.map V.ref))
 ht:∀a∈hs,H a=some (.lst (fY.map V.str))
def jI.mono(r:jI H i v)(s:∀v,cM H v->cM H' v):jI H' i v:=by
 obtain⟨h,r⟩:=r;show⟨h,r.elim (λ⟨e,r⟩=>.inl ⟨e,r.elim .inl λ⟨t,n⟩=>.inr ⟨s v t,n⟩⟩) .inr⟩
def rM(h:ag K H a xs)(s:ae H H'):ag K H' a xs:=by
 rcases h with(h | ⟨o,h⟩) | h;.show .inl<|.inl<|s _ _ h
 .show .inl<|.inr ⟨o,s _ _ h⟩
 .show .inr h
section
variable{od ox om fr e h:Addr}
theorem LS.keep(S:LS K C H sc ns d dx m es od ox om fr e us)(s:ae H H'):LS K C H' sc ns d dx m es od ox om fr e us :=
 ⟨rM S.sq s,S.dk.keep s,S.d3,S.ot.keep s,s _ _ S.fr,s _ _ S.ev,S.ul,λu hu=>let ⟨v,i,h1,h2⟩:=S.rw u hu;⟨v,i,s _ _ h1,h2.mono λv t=>t.keep s⟩⟩
def Hs.keep(S:Hs H h hs)(s:ae H H'):Hs H' h hs:=⟨s _ _ S.at',λa ha=>s _ _<|S.ht a ha⟩
def oW_(G:aV H f a c b ps ws)(hl:H l=some (.lst xs))(n:Ag xs):aV (ad H l (.lst ys)) f a c b ps ws:=by
 have p1:=G.ok.l2;have p2:=G.ok.sum;have p3:=G.ok.wl;show⟨?_,?_,?_,G.ok⟩;.rw[i_ (λz=>by have:=G.tp;rw[z,hl] at this;cases this)];show G.tp
 .rw[i_];.show G.hp
  .intro z;have q:=G.hp;rw[z,hl] at q;cases q
   cases ps with
   | nil=>simp at p1
   | cons p r=>show n _ _ Z
 .rw[i_];.show G.hw
  .intro z;have q:=G.hw;rw[z,hl] at q;cases q
   cases ws with
   | nil=>simp at p3;lia
   | cons p r=>show n _ _ Z
def Ah(S:bK C H d dx m es)(hl:H l=some (.lst xs))(n:Ag xs):bK C (ad H l (.lst ys)) d dx m es:=by
 show⟨?_,?_,λe he=>oW_ (S.fr e he) hl n⟩;.rw[i_ (λz=>by have:=S.ob;rw[z,hl] at this;cases this)];show S.ob
 .rw[i_ (λz=>by have:=S.dc;rw[z,hl] at this;cases this)];show S.dc
def EU(t:cM H v)(hl:H l=some (.lst xs)):cM (ad H l (.lst ys)) v:=by
 cases t with
 | au=>show .au
 | bl b=>show .bl b
 | int i=>show .int i
 | str x=>show .str x
 | @lst a zs q =>
  by_cases z:a=l;.subst z;show .lst c_
  .show .lst<|by rw[i_ z];show q
 | @tup a zs q=>show .tup<|by rw[i_ (λz=>by rw[z,hl] at q;cases q)];show q
 | @dK a zs q=>show .dK<|by rw[i_ (λz=>by rw[z,hl] at q;cases q)];show q
def LS.N2(S:LS K C H sc ns d dx m es od ox om fr e us)(hl:H l=some (.lst xs))(n:Ag xs)(n1:ni K ns sc l\/xs≠ns.map V.int)(n2:e≠l):LS K C (ad H l (.lst ys)) sc ns d dx m es od ox om fr e us:=by
 show⟨?_,Ah S.dk hl n,S.d3,Ah S.ot hl n,?_,by rw[i_ n2];show S.ev,S.ul,λu hu=>?_⟩
 .rcases n1 with(n1 | n1) | n1
  .rcases S.sq with(q | ⟨o,q⟩) | q;.show .inl<|.inl<|by rw[i_ n1];show q
   .show .inl<|.inr ⟨o,by rw[i_ n1];show q⟩
   .show .inr q
  .show n1 _
  .rcases S.sq with(q | ⟨o,q⟩) | q;.show .inl<|.inl<|by rw[i_ (λz=>by simp_all)];show q
   .show .inl<|.inr ⟨o,by rw[i_ (λz=>by rw[z,hl] at q;cases q)];show q⟩
   .show .inr q
 .rw[i_ (λz=>by have:=S.fr;rw[z,hl] at this;cases this)];show S.fr
 .obtain⟨v,i,h1,h2⟩:=S.rw u hu;show⟨v,i,by rw[i_ (λz=>by rw[z,hl] at h1;cases h1)];show h1,h2.mono λv t=>EU t hl⟩
end
def vo:List Stmt:=match gQ.getD 7 (.Pass ⟨0,0,0,0⟩) with
 | .For _ _ b _ _=>b
 | _=>[]
def e7:List Expr:=match vo.getD 7 (.Pass ⟨0,0,0,0⟩) with
 | .If (.BoolOp _ [_,.Compare _ _ [.List es _] _] _) _ _ _=>es
 | _=>[]
def vk_:cL e7=some fY:=by decide
abbrev dH:PyData:=.list (fY.map PyData.str)
def vo_:∀n:Fin 70,(PyData.canLay0 (.list (List.replicate n dH)))=true/\PyData.depth (.list (List.replicate n dH))<=60:=by decide
def N3:PyData.canLay0 dH=true/\PyData.depth dH<=60:=by decide
theorem N4{P:Program}{w:World}{H:Hp}:∀hs:List Addr,(∀a∈hs,H a=some (.lst (fY.map V.str)))->Paired (jj P w H) (hs.map V.ref) (List.replicate hs.length dH)
 | [],_=>.nil
 | x::r,h=>.cons (hJ (h x a2Y)<|mZ fY) (N4 r λa ha=>h a<|a2G _ ha)
inductive N5(K:PySem.W.Frag)(C:Addr)(D:Ends)(σ:St)(H:Hp):Prop
 | mk:∀(sc:Addr) (ns:List Int) (d dx m:Addr) (es:List DE) (od ox om fr e h l:Addr) (us hs:List Addr) (v4 v7 v8 v9 bP b9 bZ:Option V),(σ=[some (.ref sc),some (.ref d),some (.ref od),some (.ref fr),v4,some (.ref h),some (.ref e),v7,v8,v9,bP,b9,some (.ref l),bZ])->(LS K C H sc ns d dx m es od ox om fr e us)->(Hs H h hs)->(ni K ns sc h)->(e≠h)->(hs.length<64)->(H l=some (.lst (de.map V.str)))->(∀H',LS K C H' sc ns d dx m es od ox om fr e us->Hs H' h (hs++[l])->D.nx σ H')->N5 K C D σ H
def va_(hr:bD 17 (XL P w K mg base f ak A outer s H E).A):bQ (XL P w K mg base f ak A outer s H E) (vo.drop 7) (N5 K C):=by
 have hu:=hr.units;show fJ (b_ (C_ (PW.pt (vH (r_ (sO P w Z Z hu) (pv 5) (x_ d_) (bx _)) (As (r_ (sO P w Z Z hu) (sK K Z (pv 5) (rX rY h_)) (x_ (gn vk_)) (bx _))))) (g_ (k_ ff)) q_) (b_ (t_ (dh PySem.F.plainAttrs_list PySem.F.slot_list_append PySem.F.type_list_append kS (pv 12) (a_ n_ d_))) (g_ (t_ (dh PySem.F.plainAttrs_list PySem.F.slot_list_append PySem.F.type_list_append kS (pv 5) (a_ (pv 12) d_)))))) λD σ H1 q=>?_;obtain⟨sc,ns,d,dx,m,es,od,ox,om,fr,e,h,l,us,hs,v4,v7,v8,v9,bP,b9,bZ,rfl,S,B,n1,n2,hl,u,k⟩:=q
 have fin:∀H2,ae H1 H2->(kG (vJ (qd K "list" sv (jN 12) (kM (tC (.str "c")) ee))) (vJ (qd K "list" sv (jN 5) (kM (jN 12) ee)))) D [some (.ref sc),some (.ref d),some (.ref od),some (.ref fr),v4,some (.ref h),some (.ref e),v7,v8,v9,bP,b9,some (.ref l),bZ] H2:=λH2 s2=>by
  have S2:=S.keep s2;have B2:=B.keep s2;have u2:=s2 _ _ u
  have aZ:h≠l:=λz=>by
   have q:=B2.at';rw[z,u2] at q;cases hs <;> cases q
  have ene:e≠l:=λz=>by
   have q:=S2.ev;rw[z,u2] at q;cases us <;> cases q
  have S3:=S2.N2 (ys:=fY.map V.str) u2 (λi r z=>by cases z) (.inr λz=>by cases ns <;> cases z) ene
  have B3:Hs (ad H2 l (.lst (fY.map V.str))) h hs:=⟨by rw[i_ aZ];show B2.at',λa ha=>by
   by_cases z:a=l;.subst z;show c_
   .rw[i_ z];show B2.ht a ha⟩;have u3:(ad H2 l (.lst (fY.map V.str))) l=some (.lst (fY.map V.str)):=c_;show⟨_,Z,.inl ⟨Z,_,ag.of u2⟩,l,_,_,Z,Z,u2,by decide,?_⟩;change(vJ (qd K "list" sv (jN 5) (kM (jN 12) ee))) D _ (ad H2 l (.lst (fY.map V.str)));generalize ad H2 l (.lst (fY.map V.str))=H3 at S3 B3 u3⊢
  have iO : hs.length < sizeLine := by have : sizeLine >= 1000 := by decide
                                       lia
  show⟨_,Z,.inl ⟨Z,_,ag.of B3.at'⟩,_,Z,h,_,_,Z,Z,B3.at',by rw[a2x];show iO,(k _ (S3.N2 (ys:=hs.map V.ref++[.ref l]) B3.at' (λi r z=>by cases hs <;> cases z) (.inl n1) n2) ⟨by rw[c_];simp,λa ha=>?_⟩)⟩
  have ah:a≠h:=λz=>by
   have q:H3 a=some (.lst (fY.map V.str)):=(a3j.mp ha).elim (B3.ht a) λy=>by rw[a2Z.mp y];show u3
   rw[z,B3.at'] at q;cases hs <;> cases q
  rw[i_ ah];show(a3j.mp ha).elim (B3.ht a) λy=>by rw[a2Z.mp y];show u3
 show⟨_,Z,sz (by decide),λl1 h1=>?_⟩;have t1:=e_ (o:=.lst []) h1;have B1:=B.keep t1;have v1:(ad H1 l1 (.lst [])) l1=some (.lst []):=c_;change qp P w true _ _ (ad H1 l1 (.lst [])) _;generalize ad H1 l1 (.lst [])=H2 at t1 B1 v1⊢;obtain⟨c1,c2⟩:=vo_ ⟨hs.length,by lia⟩;show⟨_,_,hJ B1.at' (N4 hs B1.ht),hJ v1 .nil,⟨c1,Z,c2⟩,_,Z,?_⟩
 cases hs with
 | nil=>show aK (aK (fin H2 t1))
 | cons a0 r0 =>
  have a0D:∃a∈a0::r0,cv ((a0::r0).map V.ref) (-1)=some (.ref a):=by
   have aZ:(a0::r0)≠[]:=by simp
   generalize (a0::r0)=L at aZ;show⟨L.getLast aZ,List.getLast_mem _,?_⟩
   have e:L.map V.ref=L.dropLast.map V.ref++[V.ref (L.getLast aZ)]:=by
    conv=>lhs;rw[<-a5E aZ]
    rw[a3e];rfl
   rw[e];show AH _ _
  obtain⟨a,ha,ea⟩:=a0D;show bj ⟨_,Z,_,Z,h,_,-1,_,Z,Z,ag.of B1.at',ea,sz (by decide),λl2 h2=>?_⟩;have t2:=t1.trans (e_ (o:=.lst (fY.map V.str)) h2);have w2:=e_ (o:=.lst (fY.map V.str)) h2 _ _ (B1.ht a ha);show L2.sG (hJ w2 (mZ fY)) (hJ c_ (mZ fY)) N3.1 N3.2 ⟨_,Z,aK (fin _ t2)⟩
abbrev fC:Str×Nat×List Nat×List Int:=("abcdefgh",16,[6,6,6,6],List.replicate 24 1)
def vh_:(bX.find? λe=>decide (e.1=(Str.ofString "abcdefgh")))=some fC:=by decide
def sh0:gq (Str.ofString "show "++Str.ofString "a") 11 "a"=true:=by decide
def sh1:gq (Str.ofString "show "++Str.ofString "abcdefgh") 11 "abcdefgh"=true:=by decide
def sh2:gq (Str.ofString "show "++Str.ofString "b") 11 "b"=true:=by decide
section
variable{es:List DE}
def od_(S:bK C H d dx m es)(h3:es.map d8=bX){i:Nat}(hp:ng[i]?=some p)(k:∀H',ae H H'->Q (.str p.2) H'):d7 C c [.ref d,.str (Str.ofString "show "++p.1)] H Q E:=by
 have hi:i<3:=(a2z.mp hp).1;have hc:i=0\/i=1\/i=2:=by lia
 rcases hc with rfl | rfl | rfl <;> cases hp
 .obtain⟨b1,b2,b3,b4,b5⟩:=ik sh0;show ja S h3 b1 b2 b3 b4 (by decide) (by decide) b5 mY λH1 s1=>.inl ⟨Z,λH' s'=>k H'<|s1.trans s'⟩
 .obtain⟨b1,b2,b3,b4,b5⟩:=ik sh1;show ja S h3 b1 b2 b3 b4 (by decide) (by decide) b5 vh_ λH1 s1=>.inl ⟨Z,λH' s'=>k H'<|s1.trans s'⟩
 .obtain⟨b1,b2,b3,b4,b5⟩:=ik sh2;show ja S h3 b1 b2 b3 b4 (by decide) (by decide) b5 ER λH1 s1=>.inl ⟨Z,λH' s'=>k H'<|s1.trans s'⟩
def tc_(h3:es.map d8=bX):es.map dU≠cV:=λz=>by
 cases es with
 | nil=>cases h3
 | cons a r =>
  have z':=congrArg List.head? z;have z2:V.ref a.f=V.str _:=congrArg Prod.snd (a2J z');cases z2
def EV(S:bK C H d dx m es)(hf:H fr=some (.dK cV))(n:es.map dU≠cV):bK C (ad H fr (.bV o (.dK cV))) d dx m es:=by
 show⟨?_,?_,λe he=>?_⟩;.rw[i_ (λz=>by have:=S.ob;rw[z,hf] at this;cases this)];show S.ob
 .rw[i_ (λz=>by have:=S.dc;rw[z,hf] at this;show n (HO.dK.inj<|a2J this).symm)];show S.dc
 .have G:=S.fr e he;show⟨?_,?_,?_,G.ok⟩;.rw[i_ (λz=>by have:=G.tp;rw[z,hf] at this;cases this)];show G.tp
  .rw[i_ (λz=>by have:=G.hp;rw[z,hf] at this;cases this)];show G.hp
  .rw[i_ (λz=>by have:=G.hw;rw[z,hf] at this;cases this)];show G.hw
def lA_(hf:H fr=some u)(s:ae (ad H fr (.bV o u)) H'):ae H (ad H' fr u):=λb x hb=>by
 by_cases z:b=fr;.subst z;rw[c_,<-hf,hb]
 .rw[i_ z];show s _ _<|by rw[i_ z];show hb
end
def N6{i:Nat}(h:cV[i]?=some (k,v)):∃p,ng[i]?=some p/\k=.inr p.1/\v=.str p.2:=by
 unfold cV at h;rw[a2E] at h;obtain⟨p,hp,e⟩:=a4l.mp h;cases e;show⟨p,hp,Z,Z⟩
def N7{i:Nat}(h:ng[i]?=some p):b8 cV (.inr p.1)=some (.str p.2):=by
 have hi:i<3:=(a2z.mp h).1;have hc:i=0\/i=1\/i=2:=by lia
 rcases hc with rfl | rfl | rfl <;> cases h <;> decide
def N8:∀p∈ng,p.1.length<=8:=by decide
inductive N9(K:PySem.W.Frag)(C:Addr)(H0:Hp)(D:Ends)(σ:St)(H:Hp):Prop
 | mk:∀(sc:Addr) (ns:List Int) (d dx m:Addr) (es:List DE) (od ox om fr e h l:Addr) (us hs:List Addr) (v4 v7 v8 v9 bP b9 bZ:Option V),(σ=[some (.ref sc),some (.ref d),some (.ref od),some (.ref fr),v4,some (.ref h),some (.ref e),v7,v8,v9,bP,b9,some (.ref l),bZ])->(LS K C H sc ns d dx m es od ox om fr e us)->(Hs H h hs)->(ni K ns sc h)->(e≠h)->(hs.length<64)->(H l=some (.lst (de.map V.str)))->(H0 fr=none)->(∀v4 H',LS K C H' sc ns d dx m es od ox om fr e us->Hs H' h (hs++[l])->D.nx [some (.ref sc),some (.ref d),some (.ref od),some (.ref fr),v4,some (.ref h),some (.ref e),v7,v8,v9,bP,b9,some (.ref l),bZ] H')->N9 K C H0 D σ H
def vb_(cl:cS K C)(M:iX P w K mg base 16 C "say" ["self","row"] (d7 C c))(hr:bD 17 (XL P w K mg base f ak A outer s H E).A):bQ (XL P w K mg base f ak A outer s H E) (vo.drop 6) (N9 K C H):=by
 have nd:=lS.nd;have hu:=hr.units;show fJ (b_ (Z_ PassesOwn.never Z (tO (pv 3)) (u_ 4) (g_ (C_ (r_ rZ (EF (k:=16) (C:=C) (ps:=["self","row"]) (sp:=d7 C c) (by show cl) (by show M) hr.mo (pv 1) (a_ (o_ y_ n_ (pv 4)) d_)) (qC (by lia) (pv 3) (pv 4) (λ_ _=>rfl)) (bx _)) (g_ (k_ ff)) q_))) (tM (va_ (C:=C) hr))) λD σ H1 q=>?_;obtain⟨sc,ns,d,dx,m,es,od,ox,om,fr,e,h,l,us,hs,v4,v7,v8,v9,bP,b9,bZ,rfl,S,B,n1,n2,hl,u,f0,k⟩:=q;show⟨_,Z,fr,cV,Z,S.fr,λo=>tP (λi σ H2=>∃v4,σ=[some (.ref sc),some (.ref d),some (.ref od),some (.ref fr),v4,some (.ref h),some (.ref e),v7,v8,v9,bP,b9,some (.ref l),bZ]/\ae (ad H1 fr (.bV o (.dK cV))) H2) ⟨_,Z,ae.refl _⟩ (λi σ H2 _ q=>by obtain⟨_,_,q⟩:=q;show q _ _ c_) ?_ ?_⟩
 .rintro i ky v σ H2 hk ⟨v4,rfl,s2⟩;obtain⟨p,hp,rfl,rfl⟩:=N6 hk;have S2:=(EV (o:=o) S.dk S.fr (tc_ S.d3)).keep s2;have pl:=N8 p (a2A hp);have sl:sizeLine>=1000:=by decide
  have q5:(Str.ofString "show ").length=5:=by decide
  show⟨_,Z,d,dx,_,Z,S2.ob,rE (by decide),_,Z,_,_,Z,Z,by lia,?_⟩;unfold ee;show od_ S2 S.d3 hp λH3 s3=>?_;show⟨_,Z,_,Z,fr,.str p.2,Z,?_,⟨Z,_,Z,?_⟩⟩;.show .inl ⟨cV,.inr p.1,.inr ⟨o,s3 _ _ (s2 _ _ c_)⟩,Z,(N7 hp).symm⟩
  .rw[decide_eq_true Z];show aK ⟨_,Z,s2.trans s3⟩
 .rintro σ H2 ⟨v4,rfl,s2⟩;have t:=lA_ S.fr s2;show⟨fr,o,cV,s2 _ _ c_,(λo u z=>by have z':H fr=_:=z;rw[f0] at z';cases z'),?_⟩;show⟨sc,ns,d,dx,m,es,od,ox,om,fr,e,h,l,us,hs,v4,v7,v8,v9,bP,b9,bZ,Z,S.keep t,B.keep t,n1,n2,hl,t _ _ u,λH' a b=>k v4 H' a b⟩
end Hv
namespace Hv
open PySem L2 PySem.Spec PyProof.Rows
def a0E:∀i j k:Fin 3,sortedS [de[i],de[j],de[k]]=true->i≠j->i≠k->j≠k->[de[i],de[j],de[k]]=de:=by decide
def sX_:de.Nodup:=by decide
def a0F(p:ns.Perm de)(h:sortedS ns=true):ns=de:=by
 obtain⟨x,y,z,rfl⟩:=pJ p.length_eq;have nd:=p.nodup_iff.mpr sX_
 have ix:∀x,x∈de->∃i:Fin 3,x=de[i]:=λx hx=>by
  obtain⟨i,hi,e⟩:=List.getElem_of_mem hx;show⟨⟨i,hi⟩,e.symm⟩
 obtain⟨i,rfl⟩:=ix x (p.mem_iff.mp<|by simp);obtain⟨j,rfl⟩:=ix y (p.mem_iff.mp<|by simp);obtain⟨k,rfl⟩:=ix z (p.mem_iff.mp<|by simp);show a0E i j k h ?_ ?_ ?_ <;> rintro rfl <;> simp at nd
def uQ_{es:List DE}(h:es.map d8=bX):es.map (·.nm)=de:=by
 have e:es.map (·.nm)=(es.map d8).map (·.1):=by rw[a3v];rfl
 rw[e,h];rfl
def N'(h:iY i):PyData.canLay0 (.list [.bool true,.str (db i)])=true/\PyData.depth (.list [.bool true,.str (db i)])<=60:=by rcases h with rfl | rfl | rfl | rfl | rfl <;> decide
def Oa:PyData.canLay0 (.list (de.map PyData.str))=true/\PyData.depth (.list (de.map PyData.str))<=60:=by decide
def oe_(S:bK C H d dx m es)(h3:es.map d8=bX)(r:jI H i v)(k:∀ l   H' ,ae H H'->H' l=some (.lst [.bl true,.str (db i)])->Q (.ref l) H'):lN C c [.ref d,v] H Q E:=by
 have bE:es.length<100:=by
  have:=congrArg List.length h3;rw[a2x] at this;rw[this];decide
 show⟨d,dx,_,v,Z,S.ob,rE<|by decide,λl0 h0 Qs Es _ kE=>?_⟩;have t0:=e_ (o:=.lst [.bl false,.au]) h0;have S0:=S.keep t0;have r0:=r.mono λv t=>t.keep t0;generalize ad H l0 _=H0 at t0 S0 r0⊢;have fin:=λH' s'=>kE i H' r.1 λl H2 s2 hl=>k l H2 ((t0.trans s').trans s2) hl;rcases r0 with⟨_,⟨rfl,n⟩ | ⟨z,rfl,hz⟩⟩;.show⟨d,dx,m,es,v,Z,S0,bE,.inl ⟨n,fin⟩⟩
 .obtain⟨a1,a2,a3⟩:=rc_ hz;show(qD_ S0 h3 a1 a2 a3).2 Qs Es fin
def e5:List Expr:=match vo.getD 5 (.Pass ⟨0,0,0,0⟩) with
 | .If (.Compare _ _ [.List es _] _) _ _ _=>es
 | _=>[]
def vl_:cL e5=some de:=by decide
section
variable{K:PySem.W.Frag}
def Ob(K:PySem.W.Frag)(C:Addr)(H0:Hp):TS:=λD σ H=>∃(sc:Addr) (ns:List Int) (d dx m:Addr) (es:List DE) (od ox om fr e h:Addr) (us hs:List Addr) (i:Nat) (v:V) (v4 v7 v8 v9 cI bZ:Option V),σ=[some (.ref sc),some (.ref d),some (.ref od),some (.ref fr),v4,some (.ref h),some (.ref e),v7,v8,v9,some v,some (.str (db i)),cI,bZ]/\ LS K C H sc ns d dx m es od ox om fr e us/\Hs H h hs/\ni K ns sc h/\e≠h/\hs.length<64/\jI H i v/\H0 fr=none/\∀v4 l H',LS K C H' sc ns d dx m es od ox om fr e us->Hs H' h (hs++[l])->D.nx [some (.ref sc),some (.ref d),some (.ref od),some (.ref fr),v4,some (.ref h),some (.ref e),v7,v8,v9,some v,some (.str (db i)),some (.ref l),bZ] H'
def vc_(cl:cS K C)(M:iX P w K mg base 16 C "say" ["self","row"] (d7 C c))(DN:lK P w K mg base 1 C "names" ["self"] (kr C))(DS:ai P w K mg base 17 "_law_said" ["desk","row"] (lN C c))(hr:bD 17 (XL P w K mg base f ak A outer s H E).A):bQ (XL P w K mg base f ak A outer s H E) (vo.drop 3) (Ob K C H):=by
 have nd:=lS.nd;have hu:=hr.units;show fJ (b_ (C_ (PW.pt (je (r_ (sO P w Z Z hu) (m_ DS hr (by rfl) (a_ (pv 1) (a_ (pv 10) d_))) (x_ (a_ ff (a_ (pv 11) d_))) (bx _)) (jO (r_ (sO P w Z Z hu) (MD (by show cl) (by show DN) hr.mo (pv 2)) (x_ d_) (bx _))))) (g_ (k_ ff)) q_) (b_ (j_ 12 (MD (by show cl) (by show DN) hr.mo (pv 1))) (b_ (C_ (r_ (sO P w Z Z hu) (pv 12) (x_ (gn vl_)) (bx _)) (g_ (k_ ff)) q_) (vb_ cl M hr)))) λD σ H1 q=>?_;obtain⟨sc,ns,d,dx,m,es,od,ox,om,fr,e,h,us,hs,i,v,v4,v7,v8,v9,cI,bZ,rfl,S,B,n1,n2,hl,r,f0,k⟩:=q;show⟨_,Z,_,Z,?_⟩;unfold ee;show oe_ S.dk S.d3 r λl1 H2 s2 u2=>⟨_,Z,sz (by simp),λl2 h2=>?_⟩;have t2:=e_ (o:=.lst [.bl true,.str (db i)]) h2;have s3:=s2.trans t2;show L2.sG (hJ (t2 _ _ u2) (.cons (HX true) (.cons (A1 (db i)) .nil))) (hJ c_ (.cons (HX true) (.cons (A1 (db i)) .nil))) (N' r.1).1 (N' r.1).2 ⟨_,Z,aK ?_⟩;generalize ad H2 l2 (.lst [.bl true,.str (db i)])=H3 at s3⊢;have S3:=S.keep s3;show⟨_,Z,od,ox,_,Z,S3.ot.ob,rE (by decide),⟨od,ox,om,[],Z,S3.ot,by decide,λl3 ns3 h3 p3 _=>?_⟩⟩;have e3:ns3=[]:=p3.eq_nil;subst e3;have t3:=e_ (o:=.lst []) h3;have u3:(ad H3 l3 (.lst [])) l3=some (.lst []):=c_;show⟨sz (by decide),λl4 h4=>?_⟩;have t4:=e_ (o:=.lst []) h4;have s4:ae H1 (ad (ad H3 l3 (.lst [])) l4 (.lst [])):=(s3.trans t3).trans t4;show L2.sG (d:=.list []) (hJ (t4 _ _ u3) .nil) (hJ c_ .nil) Z (by decide) ⟨_,Z,aK ?_⟩;change(kG _ _) D _ (ad (ad H3 l3 (.lst [])) l4 (.lst []));generalize ad (ad H3 l3 (.lst [])) l4 (.lst [])=H4 at s4⊢;have S4:=S.keep s4;show⟨_,Z,d,dx,_,Z,S4.dk.ob,rE (by decide),?_⟩;have el:es.length=3:=by rw[<-a2x (f:=d8),S.d3];rfl
 show⟨d,dx,m,es,Z,S4.dk,by lia,λl ns5 h5 p5 o5=>?_⟩;rw[uQ_ S.d3] at p5;have e5:=a0F p5 o5;subst e5;have t5:=e_ (o:=.lst (de.map V.str)) h5;have u5:(ad H4 l (.lst (de.map V.str))) l=some (.lst (de.map V.str)):=c_;have s5:=s4.trans t5;change(kG _ _) D _ (ad H4 l (.lst (de.map V.str)));generalize ad H4 l (.lst (de.map V.str))=H5 at s5 u5⊢;show⟨_,Z,sz (by decide),λl6 h6=>?_⟩;have t6:=e_ (o:=.lst (de.map V.str)) h6;have s6:=s5.trans t6;show L2.sG (hJ (t6 _ _ u5) (mZ de)) (hJ c_ (mZ de)) Oa.1 Oa.2 ⟨_,Z,aK ⟨sc,ns,d,dx,m,es,od,ox,om,fr,e,h,l,us,hs,v4,v7,v8,v9,_,_,bZ,Z,S.keep s6,B.keep s6,n1,n2,hl,t6 _ _ u5,f0,λv4 H' a b=>k v4 l H' a b⟩⟩
end
end Hv
namespace Hv
open PySem L2
inductive Oc(K:PySem.W.Frag)(C:Addr)(H0:Hp)(D:Ends)(σ:St)(H:Hp):Prop
 | mk:∀(sc:Addr) (ns:List Int) (d dx m:Addr) (es:List DE) (od ox om fr e h:Addr) (us:List Addr) (v4 v7 v8 v9 bP b9 cI bZ:Option V),(σ=[some (.ref sc),some (.ref d),some (.ref od),some (.ref fr),v4,some (.ref h),some (.ref e),v7,v8,v9,bP,b9,cI,bZ])->(LS K C H sc ns d dx m es od ox om fr e us)->(us≠[])->(Hs H h [])->(ni K ns sc h)->(e≠h)->(H0 fr=none)->(∀H',D.rt (.bl true) H')->Oc K C H0 D σ H
def rk_(T:Txt mg)(il:mg "abs"=none)(cl:cS K C)(M:iX P w K mg base 16 C "say" ["self","row"] (d7 C c))(DN:lK P w K mg base 1 C "names" ["self"] (kr C))(DS:ai P w K mg base 17 "_law_said" ["desk","row"] (lN C c))(DC:ai P w K mg base 1 "_law_cell" ["script","k"] (oG K))(DP:ai P w K mg base 1 "_law_spoilt" ["cell"] pO) (hr:bD 17 (XL P w K mg base f ak A outer s H E).A):bQ (XL P w K mg base f ak A outer s H E) (gQ.drop 7) (Oc K C H):=by
 have nd:=lS.nd;have hu:=hr.units;show fJ (b_ (Z_ PassesOwn.never Z (kH (by rfl) T.range (a_ (p_ (GT Z) (by rfl) T.max boot_max (a_ h_ (a_ (p_ (GU Z) (by rfl) T.min boot_min (a_ (eV T.len (by rfl) (pv 0)) (a_ h_ d_))) d_))) d_)) (u_ 8) (b_ (j_ 9 (m_ DC hr.mo (by rfl) (a_ (pv 0) (a_ (pv 8) d_)))) (b_ (nI (sK K Z (pv 6) (o_ fz (pv 9) (eV T.len (by rfl) (pv 6)))) (sL K Z Z (W_ (u_ 10) (W_ (u_ 11) p7)))) (b_ (C_ (r_ dW (o_ fz (o_ gB (pv 9) (eV T.len (by rfl) (pv 6))) h_) h_ (bx _)) (g_ (QB (i:=10) (j:=11) Z nd Z Z (by decide) Z Z (a_ (m_ DP hr.mo (by rfl) (a_ (o_ gB (p_ QV (by rfl) il PyProof.Rows.boot_abs (a_ (pv 9) d_)) (o_ jh h_ (eV T.len (by rfl) (pv 6)))) d_)) (a_ n_ d_)) (by rfl))) q_) (vc_ cl M DN DS hr))))) (sZ_ cl M hr)) λD σ H1 q=>?_;obtain⟨sc,ns,d,dx,m,es,od,ox,om,fr,e,h,us,v4,v7,v8,v9,bP,b9,cI,bZ,rfl,S,u0,B,n1,n2,f0,k⟩:=q;have hlU:0<us.length:=List.length_pos_iff.mpr u0;have a2u:=S.ul;show⟨_,Z,sc,_,Z,.inl S.sq,_,_,Z,_,_,Z,?_⟩;rw[a2x];generalize hM:(if (if (63:Int)<(ns.length:Int) then 63 else (ns.length:Int))>24 then (if (63:Int)<(ns.length:Int) then 63 else (ns.length:Int)) else 24)=N
 have m1:24<=N/\N<=63:=by
  rw[<-hM];split <;> (split <;> lia)
 show⟨_,Z,by lia,by lia,nO (n:=N.toNat) (λi σ H2=>∃(v4 v8 v9 bP b9 cI:Option V) (hs:List Addr),σ=[some (.ref sc),some (.ref d),some (.ref od),some (.ref fr),v4,some (.ref h),some (.ref e),v7,v8,v9,bP,b9,cI,bZ]/\LS K C H2 sc ns d dx m es od ox om fr e us/\Hs H2 h hs/\hs.length=i) ⟨v4,v8,v9,bP,b9,cI,[],Z,S,B,Z⟩ ?_ ?_⟩
 .rintro i σ H2 hi ⟨v4,v8,v9,bP,b9,cI,hs,rfl,S2,B2,hh⟩;have a2v:i<63:=by lia
  show⟨_,Z,_,Z,sc,ns,i,by simp,S2.sq,by lia,λc0=>?_⟩;show⟨_,Z,_,Z,_,Z,e,_,Z,.inl (ag.of S2.ev),c0,_,Z,Z,by rw[a2x];lia,?_⟩;rw[a2x];have b0:0<=c0 % (us.length:Int):=a3J _ (by lia);have b1:c0 % (us.length:Int)<us.length:=a3P _ (by lia);obtain⟨j,hj⟩:=a3p b0;have mv:j<us.length:=by lia
  obtain⟨v,ix,ht,rd⟩:=S2.rw us[j] (a3R mv);show⟨e,_,_,.ref us[j],Z,Z,ag.of S2.ev,by rw[hj];show J_ (by rw[a2E,a2T mv];rfl),us[j],_,Z,aP.of ht,Z,_,_,Z,_,_,Z,Z,?_⟩;have fin:∀(v:V) (ix:Nat) H3,ae H2 H3->jI H3 ix v->(Ob K C H) {D with nx:=fun σ H2=>∃(v4 v8 v9 bP b9 cI:Option V) (hs:List Addr),σ=[some (.ref sc),some (.ref d),some (.ref od),some (.ref fr),v4,some (.ref h),some (.ref e),v7,v8,v9,bP,b9,cI,bZ]/\LS K C H2 sc ns d dx m es od ox om fr e us/\Hs H2 h hs/\hs.length=i+1,ct:=fun σ H2=>∃(v4 v8 v9 bP b9 cI:Option V) (hs:List Addr),σ=[some (.ref sc),some (.ref d),some (.ref od),some (.ref fr),v4,some (.ref h),some (.ref e),v7,v8,v9,bP,b9,cI,bZ]/\LS K C H2 sc ns d dx m es od ox om fr e us/\Hs H2 h hs/\hs.length=i+1,bk:=ES C D} [some (.ref sc),some (.ref d),some (.ref od),some (.ref fr),v4,some (.ref h),some (.ref e),v7,some (.int (0+(i:Int))),some (.int c0),some v,some (.str (db ix)),cI,bZ] H3:=λv ix H3 s3 r3 => ⟨sc,ns,d,dx,m,es,od,ox,om,fr,e,h,us,hs,ix,v,v4,v7,_,_,cI,bZ,Z,S2.keep s3,B2.keep s3,n1,n2,by lia,r3,f0,λv4 l H' a b=>⟨v4,_,_,_,_,_,hs++[l],Z,a,b,by simp[hh]⟩⟩;show⟨_,Z,_,Z,e,_,Z,.inl (ag.of S2.ev),c0,_,Z,Z,⟨by rw[a2x];lia,by rw[a2x];lia⟩,_,_,Z,Z,(show(0:Int)<3 by decide),Z,_,Z,?_⟩;show kX (λ_=>?_) (λ_=>?_)
  .show⟨_,Z,_,Z,?_⟩;have hU:(0:Int)<=(if c0<0 then -c0 else c0):=by split <;> lia
   show⟨_,Z,e,_,Z,.inl (ag.of S2.ev),3,_,Z,Z,?_,?_⟩;.show .inl ⟨by decide,by decide⟩
   .rw[a2x];have hq:(0:Int)<=(if c0<0 then -c0 else c0) / (3*(us.length:Int)):=Int.ediv_nonneg hU (by lia);obtain⟨n,hn⟩:=a3p hq;show⟨_,_,Z,Z,⟨by lia,by lia⟩,n,by change[V.int ((if c0<0 then -c0 else c0) / (3*(us.length:Int)))]=_;rw[hn],λz H3 s3 hz=>⟨_,_,Z,?_⟩⟩;show fin (.str z) 9 H3 s3 ⟨.inr (.inr (.inr (.inl Z))),.inl ⟨Z,.inl ⟨z,Z,hz.1,by have:=hz.2.1;lia,hz.2.2⟩⟩⟩
  .show fin v ix H2 (ae.refl _) rd
 .rintro σ H2 ⟨v4,v8,v9,bP,b9,cI,hs,rfl,S2,B2,hh⟩;show⟨d,dx,m,es,_,_,_,_,_,_,_,_,_,_,_,_,_,Z,S2.dk,S2.d3,k⟩
section
variable{od ox om fr e h:Addr}
def LS.a0G(S:LS K C H sc ns d dx m es od ox om fr e us)(hu:H u=some (.tup [v,.str (db 9)]))(r:jI H 9 v)(n1:ni K ns sc e)(hl:us.length<1000):LS K C (ad H e (.lst (us.map V.ref++[.ref u]))) sc ns d dx m es od ox om fr e (us++[u]):=by
 have n:Ag (us.map V.ref):=λi r z=>by
  cases us with
  | nil=>cases z
  | cons a b=>cases z
 show⟨?_,Ah S.dk S.ev n,S.d3,Ah S.ot S.ev n,?_,by rw[c_];simp,by simp;lia,λx hx=>?_⟩
 .rcases n1 with n1 | n1
  .rcases S.sq with(q | ⟨o,q⟩) | q;.show .inl<|.inl<|by rw[i_ n1];show q
   .show .inl<|.inr ⟨o,by rw[i_ n1];show q⟩
   .show .inr q
  .show n1 _
 .rw[i_ (λz=>by have:=S.fr;rw[z,S.ev] at this;cases this)];show S.fr
 .have:=(a3j.mp hx).elim (S.rw x) λy=>by rw[a2Z.mp y];show⟨v,9,hu,r⟩
  obtain⟨v,i,h1,h2⟩:=this;show⟨v,i,by rw[i_ (λz=>by rw[z,S.ev] at h1;cases h1)];show h1,h2.mono λv t=>EU t S.ev⟩
end
def Od(S:ag K H sc (ns.map V.int))(he:H e=none):ni K ns sc e:=by
 rcases S with(q | ⟨o,q⟩) | q;.show .inl λz=>by rw[z,he] at q;cases q
 .show .inl λz=>by rw[z,he] at q;cases q
 .show .inr λH'=>.inr q
def Oe(h:gP H us ps)(ok:∀p∈ps,∃i,iY i/\p.2=db i/\gp i p.1=true):∀u∈us,∃v i,H u=some (.tup [v,.str (db i)])/\jI H i v:=λu hu=>by
 obtain⟨j,hj,e⟩:=List.getElem_of_mem hu;have mC:j<ps.length:=by rw[<-h.1];show hj
 obtain⟨i,h1,h2,h3⟩:=ok ps[j] (a3R mC);have:=h.2 j u ps[j] (by rw[a2T hj,e]) (a2T mC);show⟨_,i,by rw[this,h2],h1,.inr ⟨_,Z,h3⟩⟩
inductive Of(K:PySem.W.Frag)(C:Addr)(H0:Hp)(D:Ends)(σ:St)(H:Hp):Prop
 | mk:∀(sc:Addr) (ns:List Int) (d dx m:Addr) (es:List DE) (od ox om fr h:Addr) (v4 v6 v7 v8 v9 bP b9 cI bZ:Option V),(σ=[some (.ref sc),some (.ref d),some (.ref od),some (.ref fr),v4,some (.ref h),v6,v7,v8,v9,bP,b9,cI,bZ])->(ag K H sc (ns.map V.int))->(bK C H d dx m es)->(es.map d8=bX)->(bK C H od ox om [])->(H fr=some (.dK cV))->(Hs H h [])->(ni K ns sc h)->(H0 fr=none)->(∀H',D.rt (.bl true) H')->Of K C H0 D σ H
def a0H(T:Txt mg)(il:mg "abs"=none)(cl:cS K C)(M:iX P w K mg base 16 C "say" ["self","row"] (d7 C c))(DN:lK P w K mg base 1 C "names" ["self"] (kr C))(DS:ai P w K mg base 17 "_law_said" ["desk","row"] (lN C c))(DC:ai P w K mg base 1 "_law_cell" ["script","k"] (oG K))(DP:ai P w K mg base 1 "_law_spoilt" ["cell"] pO)(DO:ai P w K mg base 1 "_law_none" [] vk)(DT:ai P w K mg base 1 "_law_others" [] vm) (hr:bD 17 (XL P w K mg base f ak A outer s H E).A):bQ (XL P w K mg base f ak A outer s H E) (gQ.drop 5) (Of K C H):=by
 have nd:=lS.nd;have hu:=hr.units;show fJ (b_ (j_ 6 (o_ gY (P_ (f_ jm) Af [] [] Z (B_ (Nr DO hr.mo (by rfl))) (λcl C s H fp=>O_) (λcl C s H fp=>gX (a_ (pv 0) (a_ n_ d_))) (by decide)) (Nr DT hr.mo (by rfl)))) (b_ (Z_ PassesOwn.never Z (B_ (x_ (a_ iu (a_ h_ (a_ (x_ (a_ n_ d_)) (a_ ff (a_ (gX (a_ n_ (a_ n_ d_))) (a_ tD d_)))))))) (u_ 7) (g_ (t_ (dh PySem.F.plainAttrs_list PySem.F.slot_list_append PySem.F.type_list_append kS (pv 6) (a_ (gX (a_ (pv 7) (a_ n_ d_))) d_))))) (rk_ T il cl M DN DS DC DP hr))) λD σ H1 q=>?_;obtain⟨sc,ns,d,dx,m,es,od,ox,om,fr,h,v4,v6,v7,v8,v9,bP,b9,cI,bZ,rfl,sq,dk,d3,ot,jB,B,n1,f0,k⟩:=q;show⟨Z,λlz zs H2 s2 uz zl za=>⟨lz,Z,⟨_,ag.of uz⟩,?_⟩⟩;show z_ (K:=K) (a:=lz) (xs:=zs.map V.str) (λi ys H'=>∃as:List Addr,ys=as.map V.ref/\gP H' as ((zs.take i).map λt=>(t,db 9))/\ae H2 H') ⟨[],Z,⟨Z,λk t p h=>by simp at h⟩,ae.refl _⟩ (λi ys H' _ q=>by obtain⟨_,_,_,q⟩:=q;show ag.of (q _ _ uz)) ?_ ?_
 .rintro i x ys H3 hx ⟨as,rfl,pa,s3⟩;obtain⟨t,ht,rfl⟩:=iS hx;have hi:=(a2z.mp ht).1;have al:=pa.1;simp at al;show⟨bT (by simp;lia),_,Z,sz (by simp),λtp iW=>⟨as++[tp],by simp,?_,s3.trans (e_ iW)⟩⟩;have e:((zs.take (i+1)).map λt=>(t,db 9))=((zs.take i).map λt=>(t,db 9))++[(t,db 9)]:=by rw[a2I,ht];simp
  rw[e];show rG (fL pa (e_ iW)) (qV (p:=(t,db 9)) c_)
 .rintro ys H3 ⟨as,rfl,pa,s3⟩ la hla;rw[a2x,a2M] at pa;have al:=pa.1;rw[a2x] at al;have t4:=e_ (o:=.lst (as.map V.ref)) hla;have u4:(ad H3 la (.lst (as.map V.ref))) la=some (.lst (as.map V.ref)):=c_;have Og:=fL pa t4;have s4:=(s2.trans s3).trans t4;generalize ad H3 la (.lst (as.map V.ref))=H4 at t4 u4 Og s4⊢;show⟨Z,λlo us ps H5 s5 pb u5 pl pk=>?_⟩;have ul:=pb.1;show⟨la,lo,_,_,Z,Z,s5 _ _ u4,u5,sz (by simp;lia),λe he=>?_⟩;have t6:=e_ (o:=.lst (as.map V.ref++us.map V.ref)) he;have s6:=(s4.trans s5).trans t6;have oe:=Od (rM sq (s4.trans s5)) he
  have S6:LS K C (ad H5 e (.lst (as.map V.ref++us.map V.ref))) sc ns d dx m es od ox om fr e (as++us):=by
   show⟨rM sq s6,dk.keep s6,d3,ot.keep s6,s6 _ _ jB,by rw[c_,a3e],by simp;lia,λu hu=>?_⟩;rcases a3j.mp hu with hu | hu
   .show Oe (fL (fL Og s5) t6) (λp hp=>?_) u hu;obtain⟨t,ht,rfl⟩:=a2N.mp hp;show⟨9,.inr (.inr (.inr (.inl Z))),Z,a2K.mp za t ht⟩
   .show Oe (fL pb t6) (λp hp=>ov_ (a2K.mp pk p hp)) u hu
  have B6:=B.keep s6
  have aZ:e≠h:=λz=>by
   have:=(s4.trans s5) _ _ B.at';rw[<-z,he] at this;cases this
  have ul6:(as++us).length<=600:=by rw[a2O];lia
  change(kG _ _) D _ (ad H5 e (.lst (as.map V.ref++us.map V.ref)));generalize ad H5 e (.lst (as.map V.ref++us.map V.ref))=H6 at S6 B6⊢;generalize as++us=ws at S6 ul6;show⟨sz (by simp),λl1 h1=>⟨sz (by simp),λl2 h2=>λl3 h3=>⟨sz (by simp),λl4 h4=>?_⟩⟩⟩;have w1:=e_ (o:=.lst [.str "show a"]) h1;have w2:=e_ (o:=.tup [.str "show",.str "a"]) h2;have w3:=e_ (o:=.dK []) h3;have w4:=e_ (o:=.lst [.au,.int 0,.ref l1,.bl true,.ref l2,.ref l3]) h4;have y1:(ad H6 l1 (.lst [.str "show a"])) l1=some (.lst [.str "show a"]):=c_;have y2:(ad (ad H6 l1 (.lst [.str "show a"])) l2 (.tup [.str "show",.str "a"])) l2=some (.tup [.str "show",.str "a"]):=c_;have y3:(ad (ad (ad H6 l1 (.lst [.str "show a"])) l2 (.tup [.str "show",.str "a"])) l3 (.dK [])) l3=some (.dK []):=c_;have y4:(ad (ad (ad (ad H6 l1 (.lst [.str "show a"])) l2 (.tup [.str "show",.str "a"])) l3 (.dK [])) l4 (.lst [.au,.int 0,.ref l1,.bl true,.ref l2,.ref l3])) l4=some (.lst [.au,.int 0,.ref l1,.bl true,.ref l2,.ref l3]):=c_;have z1:=w4 _ _ (w3 _ _ (w2 _ _ y1));have z2:=w4 _ _ (w3 _ _ y2);have z3:=w4 _ _ y3;have S7:=S6.keep (((w1.trans w2).trans w3).trans w4);have B7:=B6.keep (((w1.trans w2).trans w3).trans w4);show⟨l4,Z,⟨_,ag.of y4⟩,?_⟩;generalize ad (ad (ad (ad H6 l1 (.lst [.str "show a"])) l2 (.tup [.str "show",.str "a"])) l3 (.dK [])) l4 (.lst [.au,.int 0,.ref l1,.bl true,.ref l2,.ref l3])=H7 at y4 z1 z2 z3 S7 B7⊢
  have tg:∀x∈[V.au,.int 0,.ref l1,.bl true,.ref l2,.ref l3],cM H7 x/\∀z,x≠.str z:=λx hx=>by
   simp only[a2B,a2Q,or_false] at hx;rcases hx with rfl | rfl | rfl | rfl | rfl | rfl;.show⟨.au,λz q=>by cases q⟩
   .show⟨.int 0,λz q=>by cases q⟩
   .show⟨.lst z1,λz q=>by cases q⟩
   .show⟨.bl true,λz q=>by cases q⟩
   .show⟨.tup z2,λz q=>by cases q⟩
   .show⟨.dK z3,λz q=>by cases q⟩
  show kI (K:=K) (a:=l4) (xs:=[V.au,.int 0,.ref l1,.bl true,.ref l2,.ref l3]) (λi σ H'=>∃(v7:Option V) (ij:List Addr),σ=[some (.ref sc),some (.ref d),some (.ref od),some (.ref fr),v4,some (.ref h),some (.ref e),v7,v8,v9,bP,b9,cI,bZ]/\LS K C H' sc ns d dx m es od ox om fr e ij/\Hs H' h []/\ij.length=ws.length+i/\H' l4=some (.lst [.au,.int 0,.ref l1,.bl true,.ref l2,.ref l3])/\∀x∈[V.au,.int 0,.ref l1,.bl true,.ref l2,.ref l3],cM H' x) ⟨v7,ws,Z,S7,B7,Z,y4,λx hx=>(tg x hx).1⟩ (λi σ H' _ q=>by obtain⟨_,_,_,_,_,_,q,_⟩:=q;show ag.of q) ?_ ?_
  .rintro i x σ H8 hx ⟨v7,ij,rfl,S8,B8,l8,u8,t8⟩;have hi:i<6:=(a2z.mp hx).1;have mx:=a2A hx;have sl:sizeLine>=1000:=by decide
   show⟨_,Z,.inl ⟨Z,_,ag.of S8.ev⟩,_,Z,sz (by simp),λtp iW=>?_⟩;have w9:=e_ (o:=.tup [x,.str (db 9)]) iW;have S9:=S8.keep w9;show⟨e,_,_,Z,Z,S9.ev,by rw[a2x];lia,?_⟩;show⟨_,ij++[tp],Z,S9.a0G c_ ⟨.inr (.inr (.inr (.inl Z))),.inl ⟨Z,.inr ⟨(t8 x mx).keep w9,(tg x mx).2⟩⟩⟩ oe (by lia),⟨by rw[i_ (Ne.symm aZ)];show(B8.keep w9).at',λa ha=>by cases ha⟩,by simp;lia,?_,λy hy=>EU ((t8 y hy).keep w9) S9.ev⟩;rw[i_];.show w9 _ _ u8
   .intro z;have q:=S8.ev;rw[<-z,u8] at q;have q:=HO.lst.inj (a2J q);cases ij <;> cases q
  .rintro σ H8 ⟨v7,ij,rfl,S8,B8,l8,u8,t8⟩;have l8:ij.length=ws.length+6:=l8;show⟨sc,ns,d,dx,m,es,od,ox,om,fr,e,h,ij,v4,v7,v8,v9,bP,b9,cI,bZ,Z,S8,λz=>by rw[z] at l8;simp at l8,B8,n1,aZ,f0,k⟩
def Ai(e:Str×Nat×List Nat×List Int):Str:=Str.ofString "frame "++e.1++Str.ofString " "++Mt.fText e.2.1 e.2.2.1 e.2.2.2
def Oh(e:Str×Nat×List Nat×List Int):Bool:=gq (Ai e) 0 e.1&&decide ((Mt.ba (Ai e))[2]?=some (Mt.fText e.2.1 e.2.2.1 e.2.2.2))&&(Mt.fText e.2.1 e.2.2.1 e.2.2.2).cps.toList.all (λc=>decide (c<128))&&decide ((Mt.fText e.2.1 e.2.2.1 e.2.2.2).length<=300)
def rz_:bX.all Oh=true:=by decide
def tV_:∀e∈bX,dY e.2.1 e.2.2.1 e.2.2.2:=by
 intro e he;simp only[bX,a2B,a2Q,or_false] at he;rcases he with rfl | rfl | rfl <;> show⟨by decide,by decide,by decide,by decide,by decide,by decide,by decide⟩
def ry_:∀i:Fin 3,∀e∈bX.take i,e.1≠bX[i].1:=by decide
def ol_(h:∀x∈es,x.nm≠e.nm):mU es e=es++[e]:=by
 unfold mU;rw[if_neg];intro z;obtain⟨x,hx,hz⟩:=a5s.mp z;show h x hx (by simpa using hz)
def lz_(S:bK C H d dx m es)(h3:es.map d8=bX.take i)(he:bX[i]?=some e)(k:∀lU H',bK C H' d dx m lU->lU.map d8=bX.take (i+1)->Kp [m] H H'->Q (.str (Str.ofString "ok")) H'):d7 C c [.ref d,.str (Ai e)] H Q E:=by
 have hi:i<3:=(a2z.mp he).1;have me:=a2A he;have ck:=a2K.mp rz_ e me;simp only[Oh,a2H,decide_eq_true_eq,a2K] at ck;obtain⟨⟨⟨c1,c2⟩,c3⟩,c4⟩:=ck;obtain⟨b1,b2,b3,b4,b5⟩:=ik c1
 have el:es.length<=3:=by
  have:=congrArg List.length h3;rw[a2x,a3a] at this;lia
 obtain⟨r,hr,h0,_⟩:=zT b3;rw[b4] at hr
 have new:∀x∈es,x.nm≠e.1:=λx hx=>by
  have:d8 x∈bX.take i:=by rw[<-h3];show List.mem_map_of_mem hx
  have q:=ry_ ⟨i,hi⟩ _ this;have e1:bX[i]=e:=by rw[a2T hi] at he;show a2J he
  show λz=>q (by change x.nm=bX[i].1;rw[e1];show z)
 show⟨d,dx,m,es,_,Z,S,by lia,.inr ⟨_,0,Z,b1,b2,b3,?_,λH1 s1 S1=>⟨e.1,b5,.inl ⟨Z,_,c2,λc hc=>c3 c hc,c4,.inr ⟨e.2.1,e.2.2.1,e.2.2.2,tV_ e me,Z,λf a a' H' _ _ _ S' kp=>?_⟩⟩⟩⟩⟩
 .rw[h0];unfold ii;rw[rB hr]
 .rw[ol_ new] at S';show k _ H' S' ?_ λb o hb n=>kp b o (s1 _ _ hb) n;rw[a3e,h3,a2I,he];rfl
def qn_:∀p∈ng,p.2.length<=100:=by decide
def up_{i:Nat}(h:ng[i]?=some p):∃e,bX[i]?=some e/\p=(e.1,Mt.fText e.2.1 e.2.2.1 e.2.2.2):=by
 unfold ng at h;rw[a2E] at h;obtain⟨e,he,q⟩:=a4l.mp h;show⟨e,he,q.symm⟩
inductive Oi(K:PySem.W.Frag)(C:Addr)(H0:Hp)(D:Ends)(σ:St)(H:Hp):Prop
 | mk:∀(sc:Addr) (ns:List Int) (d dx m:Addr) (od ox om fr:Addr) (v4 v5 v6 v7 v8 v9 bP b9 cI bZ:Option V),(σ=[some (.ref sc),some (.ref d),some (.ref od),some (.ref fr),v4,v5,v6,v7,v8,v9,bP,b9,cI,bZ])->(ag K H sc (ns.map V.int))->(bK C H d dx m [])->(bK C H od ox om [])->(om≠m)->(H fr=some (.dK cV))->(H0 fr=none)->(∀H',D.rt (.bl true) H')->Oi K C H0 D σ H
def a0I(T:Txt mg)(il:mg "abs"=none)(cl:cS K C)(M:iX P w K mg base 16 C "say" ["self","row"] (d7 C c))(DN:lK P w K mg base 1 C "names" ["self"] (kr C))(DS:ai P w K mg base 17 "_law_said" ["desk","row"] (lN C c))(DC:ai P w K mg base 1 "_law_cell" ["script","k"] (oG K))(DP:ai P w K mg base 1 "_law_spoilt" ["cell"] pO)(DO:ai P w K mg base 1 "_law_none" [] vk)(DT:ai P w K mg base 1 "_law_others" [] vm) (hr:bD 17 (XL P w K mg base f ak A outer s H E).A):bQ (XL P w K mg base f ak A outer s H E) (gQ.drop 3) (Oi K C H):=by
 have nd:=lS.nd;have hu:=hr.units;show fJ (b_ (Z_ PassesOwn.never Z (tO (pv 3)) (u_ 4) (g_ (t_ (EF (k:=16) (C:=C) (ps:=["self","row"]) (sp:=d7 C c) (by show cl) (by show M) hr.mo (pv 1) (a_ (o_ y_ (o_ y_ (o_ y_ n_ (pv 4)) n_) (qC (by lia) (pv 3) (pv 4) (λ_ _=>rfl))) d_))))) (tM (b_ (j_ 5 (x_ d_)) (a0H T il cl M DN DS DC DP DO DT hr)))) λD σ H1 q=>?_;obtain⟨sc,ns,d,dx,m,od,ox,om,fr,v4,v5,v6,v7,v8,v9,bP,b9,cI,bZ,rfl,sq,dk,ot,nm,hf,f0,k⟩:=q;have nfm:fr≠m:=λz=>by have:=dk.dc;rw[<-z,hf] at this;cases this
 have nfo:fr≠om:=λz=>by have:=ot.dc;rw[<-z,hf] at this;cases this
 show⟨_,Z,fr,cV,Z,hf,λo=>tP (λi σ H2=>∃v4 es,σ=[some (.ref sc),some (.ref d),some (.ref od),some (.ref fr),v4,v5,v6,v7,v8,v9,bP,b9,cI,bZ]/\bK C H2 d dx m es/\es.map d8=bX.take i/\bK C H2 od ox om []/\ag K H2 sc (ns.map V.int)/\H2 fr=some (.bV o (.dK cV))) ?_ (λi σ H2 _ q=>by obtain⟨_,_,_,_,_,_,_,q⟩:=q;show q) ?_ ?_⟩
 .show⟨v4,[],Z,EV dk hf (λz=>by cases z),Z,EV ot hf (λz=>by cases z),?_,c_⟩;rcases sq with(q | ⟨o',q⟩) | q;.show .inl (.inl (by rw[i_ (λz=>by rw[z,hf] at q;cases q)];show q))
  .show .inl (.inr ⟨o',by rw[i_ (λz=>by rw[z,hf] at q;cases q)];show q⟩)
  .show .inr q
 .rintro i ky v σ H2 hk ⟨v4,es,rfl,S2,d3,O2,q2,f2⟩;obtain⟨p,hp,rfl,rfl⟩:=N6 hk;have pl:=N8 p (a2A hp);have pl2:=qn_ p (a2A hp);have gv:=N7 hp;obtain⟨e,he,ep⟩:=up_ hp;have er:Str.ofString "frame "++p.1++Str.ofString " "++p.2=Ai e:=by rw[ep];rfl
  have sl:sizeLine>=1000:=by decide
  have q6:(Str.ofString "frame ").length=6:=by decide
  have q1:(Str.ofString " ").length=1:=by decide
  have la:∀x y:Str,(x++y).length=x.length+y.length:=λx y=>by rw[Mt.len_list,Mt.app_list,a2O,<-Mt.len_list,<-Mt.len_list]
  have a1:=la (Str.ofString "frame ") p.1;have a2:=la (Str.ofString "frame "++p.1) (Str.ofString " ");show⟨_,Z,d,dx,_,Z,S2.ob,rE (by decide),_,Z,_,_,Z,Z,by lia,_,_,Z,Z,by lia,_,Z,_,Z,fr,.str p.2,Z,.inl ⟨cV,.inr p.1,.inr ⟨o,f2⟩,Z,gv.symm⟩,_,_,Z,Z,by lia,?_⟩;unfold ee;change d7 C c [.ref d,.str (Str.ofString "frame "++p.1++Str.ofString " "++p.2)] _ _ _;rw[er];show lz_ S2 d3 he λlU H3 S3 d3' kp=>⟨_,lU,Z,S3,d3',?_,?_,?_⟩;.show⟨kp _ _ O2.ob (λz=>by rw[a2Z.mp z] at O2;have:=O2.ob;rw[S2.dc] at this;cases this),kp _ _ O2.dc (λz=>nm (a2Z.mp z)),λe he=>by cases he⟩
  .rcases q2 with(q | ⟨o',q⟩) | q;.show .inl (.inl (kp _ _ q λz=>by rw[a2Z.mp z,S2.dc] at q;cases q))
   .show .inl (.inr ⟨o',kp _ _ q λz=>by rw[a2Z.mp z,S2.dc] at q;cases q⟩)
   .show .inr q
  .show kp _ _ f2 λz=>nfm (a2Z.mp z)
 .rintro σ H2 ⟨v4,es,rfl,S2,d3,O2,q2,f2⟩;have d3:es.map d8=bX:=d3;have up:∀ {b:Addr} {x:HO},H2 b=some x->(∀u v,x≠.bV u v)->(ad H2 fr (.dK cV)) b=some x:=λhb hn=>by rw[i_ (λz=>by rw[z,f2] at hb;show hn _ _ (a2J hb).symm)];show hb
  have Oj:∀ {d dx m:Addr} {es:List DE},bK C H2 d dx m es->bK C (ad H2 fr (.dK cV)) d dx m es:=λS =>
   ⟨up S.ob (λu v z=>by cases z),up S.dc (λu v z=>by cases z),λe he=>have G:=S.fr e he;⟨up G.tp (λu v z=>by cases z),up G.hp (λu v z=>by cases z),up G.hw (λu v z=>by cases z),G.ok⟩⟩
  have q3:ag K (ad H2 fr (.dK cV)) sc (ns.map V.int):=by
   rcases q2 with(q | ⟨o',q⟩) | q;.show .inl (.inl (up q (λu v z=>by cases z)))
   .show .inl (.inr ⟨o',by rw[i_ (λz=>by rw[z,f2] at q;cases q)];show q⟩)
   .show .inr q
  have S3:=Oj S2;have O3:=Oj O2;have u3:(ad H2 fr (.dK cV)) fr=some (.dK cV):=c_;show⟨fr,o,cV,f2,(λo u z=>by have z':H fr=_:=z;rw[f0] at z';cases z'),?_⟩;change(kG _ _) D _ (ad H2 fr (.dK cV));generalize ad H2 fr (.dK cV)=H3 at S3 O3 q3 u3⊢;show⟨sz (by decide),λh hh=>?_⟩;have t4:=e_ (o:=.lst []) hh;show⟨sc,ns,d,dx,m,es,od,ox,om,fr,h,v4,v6,v7,v8,v9,bP,b9,cI,bZ,Z,rM q3 t4,S3.keep t4,d3,O3.keep t4,t4 _ _ u3,⟨c_,λa ha=>by cases ha⟩,Od q3 hh,f0,k⟩
@[irreducible] def eD:Expr:=match gQ.getD 2 (.Pass ⟨0,0,0,0⟩) with
 | .Assign _ e _=>e
 | _=>.Constant .none 0 ⟨0,0,0,0⟩
def Ol:List Stmt:=match gQ.getD 2 (.Pass ⟨0,0,0,0⟩) with
 | .Assign ts _ p=>gQ.set 2 (.Assign ts eD p)
 | _=>[]
def tb_:gQ=Ol:=by
 unfold Ol eD;rfl
def Om:List Expr:=match (match gQ.getD 2 (.Pass ⟨0,0,0,0⟩) with
 | .Assign _ e _=>e
 | _=>.Constant .none 0 ⟨0,0,0,0⟩) with
 | .Dict _ vs _=>vs
 | _=>[]
@[irreducible] def eM:Expr:=Om.getD 1 (.Constant .none 0 ⟨0,0,0,0⟩)
@[irreducible] def eJ:Expr:=match Om.getD 1 (.Constant .none 0 ⟨0,0,0,0⟩) with
 | .BinOp _ _ b _=>b
 | e=>e
def vi_:∃j1 p1 p2,eM=.BinOp (.Constant (.str "16:6+6+6+6:") j1 p1) .Add eJ p2:=by
 unfold eM eJ;show⟨_,_,_,Z⟩
def On:∃j1 j2 j3 j4 j5 p1 p2 p3 p4 p5 p6,eD=.Dict [some (.Constant (.str "a") j1 p1),some (.Constant (.str "abcdefgh") j2 p2),some (.Constant (.str "b") j3 p3)] [.Constant (.str "10:1+1:1 1") j4 p4,eM,.Constant (.str "2:1+1:0 9") j5 p5] p6:=by
 unfold eD eM;show⟨_,_,_,_,_,_,_,_,_,_,_,Z⟩
def Oo:TE:=iD AO (GZ (kM (tC (.str "1")) ee)) (tC (.int 24))
def Aj(X:Cx):TE:=qd X.K "str" yO (tC (.str " ")) (kM Oo ee)
def ux_:PE X (.BinOp (.List [.Constant (.str "1") j1 p1] p2) .Mult (.Constant (.int 24) j2 p3) p4) Oo := @o_ X _ _ _ _ _ _ _ RK (@x_ X _ _ _ (a_ n_ d_)) h_
def uy_(hl:(ap.endLine==cp.line)=true):PE X (.Call (.Attribute (.Constant (.str " ") j0 p0) "join" ap) [.BinOp (.List [.Constant (.str "1") j1 p1] p2) .Mult (.Constant (.int 24) j2 p3) p4] [] cp) (Aj X):=by
 show dh PySem.F.plainAttrs_str PySem.F.slot_str_join PySem.F.type_str_join uH n_ (a_ ux_ d_ ?_) ?_ ?_ hl ?_ ?_;all_goals rfl
def vj_:∃j0 j1 j2 p0 p1 p2 p3 p4 ap cp,(ap.endLine==cp.line)=true/\eJ=.Call (.Attribute (.Constant (.str " ") j0 p0) "join" ap) [.BinOp (.List [.Constant (.str "1") j1 p1] p2) .Mult (.Constant (.int 24) j2 p3) p4] [] cp:=by
 unfold eJ;show⟨_,_,_,_,_,_,_,_,_,_,Z,Z⟩
def uA_:PE X eJ (Aj X):=by
 obtain⟨j0,j1,j2,p0,p1,p2,p3,p4,ap,cp,hl,e⟩:=vj_;rw[e];show uy_ hl
def uz_:PE X eM (iD (λx y H Q=>∃i j,x=.str i/\y=.str j/\i.length+j.length<=sizeLine/\Q (.str (i++j)) H) (tC (.str "16:6+6+6+6:")) (Aj X)):=by
 obtain⟨j1,p1,p2,e⟩:=vi_;rw[e];show o_ y_ n_ uA_
def tDD(X:Cx):TE:=IA [(tC (.str "a"),tC (.str "10:1+1:1 1")),(tC (.str "abcdefgh"),iD (λx y H Q=>∃i j,x=.str i/\y=.str j/\i.length+j.length<=sizeLine/\Q (.str (i++j)) H) (tC (.str "16:6+6+6+6:")) (Aj X)),(tC (.str "b"),tC (.str "2:1+1:0 9"))]
def uB_:PE X eD (tDD X):=by
 obtain⟨j1,j2,j3,j4,j5,p1,p2,p3,p4,p5,p6,e⟩:=On;rw[e];show IB (xj n_ n_<|xj n_ uz_<|xj n_ n_ Iy) Z Z (by simp)<|by simp
def ur_(x:Str)(iB:Pos)(l:Nat)(env:Env):swapsWith eD (some (.Name x iB)) l env=pure false:=by
 obtain⟨j1,j2,j3,j4,j5,p1,p2,p3,p4,p5,p6,e⟩:=On;rw[e];rfl
def Op:List (ax×V):=[(.inr "a",.str "10:1+1:1 1"),(.inr "abcdefgh",.str (("16:6+6+6+6:":Str)++Txt.join " " (List.replicate 24 "1"))),(.inr "b",.str "2:1+1:0 9")]
def td_:gI [] Op=cV:=by decide
def Oq:(Txt.join " " (List.replicate 24 ("1":Str))).length=47/\("16:6+6+6+6:":Str).length=11/\(((List.replicate 24 ("1":Str)).map (·.length)).sum+(List.replicate 24 ("1":Str)).length*(" ":Str).length<=16777216):=by decide
def a0J:(List.replicate (24:Int).toNat [V.str "1"]).flatten=(List.replicate 24 ("1":Str)).map V.str:=by rfl
def tDN:TE:=λ_ H Q=>∀fr H',ae H H'->H fr=none->H' fr=some (.dK cV)->Q (.ref fr) H'
def sF_:PE X eD tDN:=λaa s σ H Q I h=>uB_ aa s σ H Q I<|by
 intro p hp;have t0:=e_ (o:=.dK []) hp;have u0:(ad H p<|.dK []) p=some (.dK []):=c_;generalize ad H p (.dK [])=H1 at t0 u0⊢;show⟨Z,sz<|by decide,λl1 h1=>?_⟩;have t1:=e_ (o:=.lst [V.str "1"]) h1;have u1:(ad H1 l1<|.lst [V.str "1"]) l1=some (.lst [V.str "1"]):=c_;generalize ad H1 l1 (.lst [V.str "1"])=H2 at t1 u1⊢;show⟨l1,24,_,Z,Z,u1,by decide,by decide,sz<|by decide,λl2 h2=>?_⟩;have t2:=e_ (o:=.lst ((List.replicate 24 ("1":Str)).map V.str)) h2;have u2:(ad H2 l2 (.lst ((List.replicate 24 ("1":Str)).map V.str))) l2=some (.lst ((List.replicate 24 ("1":Str)).map V.str)):=c_;have t3:=t1.trans t2;have u3:=t3 _ _ u0;show⟨_,l2,List.replicate 24 "1",Z,Z,u2,Oq.2.2,_,_,Z,Z,?_,u3,Op,Z,?_,?_⟩
 .have:=Oq;have sl:sizeLine>=1000:=by decide
  lia
 .decide
 .show h p _ (λb o hb=>?_) hp c_;rw[i_ (λz=>by rw[z,hp] at hb;cases hb)];show t3 _ _ (t0 _ _ hb)
def sS_(F:ay K "law" "law" jm f fd)(T:Txt mg)(il:mg "abs"=none)(cl:cS K C)(DI:zi P w K mg base 1 "Desk" C ["self"] (zK C))(M:iX P w K mg base 16 C "say" ["self","row"] (d7 C c))(DN:lK P w K mg base 1 C "names" ["self"] (kr C))(DS:ai P w K mg base 17 "_law_said" ["desk","row"] (lN C c))(DC:ai P w K mg base 1 "_law_cell" ["script","k"] (oG K))(DP:ai P w K mg base 1 "_law_spoilt" ["cell"] pO)(DO:ai P w K mg base 1 "_law_none" [] vk)(DT:ai P w K mg base 1 "_law_others" [] vm):av P w K mg base aE 18 f fd ["script"] (uF K):=by
 show F.ok lS λak A outer s H vs Q E hr h=>?_
 .obtain⟨sc,ns,rfl,sq,bE,k⟩:=h;have nd:=lS.nd;change ∃t,bQ (XL P w K mg base f ak A outer s H E) gQ t/\_;rw[tb_];show⟨_,b_ (j_ 1 (M8 DI hr.mo (by rfl))) (b_ (j_ 2 (M8 DI hr.mo (by rfl))) (b_ (j_ 3 sF_ (ur_ _ _ _ _)) (a0I T il cl M DN DS DC DP DO DT hr))),?_⟩;intro d dx hd hdx aZ;have s1:ae H (ad (ad H dx (.own d)) d (.ins C dx [])):=(e_ hdx).trans (e_ (by rw[i_ (Ne.symm aZ)];show hd));show⟨d,dx,Z,c_,λm H1 hm S1 kp1=>⟨Z,?_⟩⟩;have t1:ae H H1:=λb o hb=>kp1 _ _ (s1 _ _ hb) λz=>by rw[a2Z.mp z,hd] at hb;cases hb
  intro od ox Os hox a0K;have s2:ae H1 (ad (ad H1 ox (.own od)) od (.ins C ox [])):=(e_ hox).trans (e_ (by rw[i_ (Ne.symm a0K)];show Os));show⟨od,ox,Z,c_,λom H2 hom S2 kp2=>⟨Z,?_⟩⟩;have t2:ae H1 H2:=λb o hb=>kp2 _ _ (s2 _ _ hb) λz=>by rw[a2Z.mp z,Os] at hb;cases hb
  have nm:om≠m:=λz=>by
   have:=s2 _ _ S1.dc;rw[<-z,hom] at this;cases this
  have S2':=S1.keep t2;have sq2:=rM sq (t1.trans t2);intro fr H3 t3 f2 f3;have f0:H fr=none:=(t1.trans t2).free f2;show⟨sc,ns,d,dx,m,od,ox,om,fr,_,_,_,_,_,_,_,_,_,_,Z,rM sq2 t3,S2'.keep t3,S2.keep t3,nm,f3,f0,λH'=>k H'⟩
abbrev DR:=Str×Tok×Value
def dE(P:Params)(r:DR):DictEntry:=⟨PyData.keyHash P r.1,.str r.1 r.2.1,r.2.2⟩
theorem Ot{P:Program}{w:World}:∀es:List DR,Pairs (v_ P w) (es.map (dE w.params)) (es.map λe=>((Sum.inr e.1:ax),e.2.2))
 | []=>.nil
 | e::r=>.cons (An P w e.1 e.2.1) Z (Ot r)
def Ou(es:List DR){kvs:List (ax×V)}(lk:K.lookup a=some ⟨.type "dict",none,.dict (es.map (dE w.params)).toArray n,sl⟩)(ns:(a==sysModules)=false) (hk:KV kvs (es.map λe=>((Sum.inr e.1:ax),e.2.2))) (nd:(es.map (·.1)).Nodup) (hs:sl=#[]):KD K P w a kvs:=by
 subst hs;show⟨ns,_,hk,λh hh=>⟨_,_,n,hh _ _ lk,⟨Z,Z,Z⟩,Z,λe he=>?_,Ot es,?_⟩⟩
 .obtain⟨r,_,rfl⟩:=a2N.mp (List.mem_toArray.mp he);show⟨.inr r.1,An P w _ _,Z⟩
 .rw[a3v];show List.pairwise_map.mpr<|(List.pairwise_map.mp nd).imp λh z=>h<|Sum.inr.inj z
def Ak(K:PySem.W.Frag)(t:Addr)(zs:List Str):Prop:=∀H,aP K H t (zs.map V.str)
def EW(h:K.lookup t=some ⟨.type "tuple",od,.seq #[] n,sl⟩):Ak K t [] := λ_=>.inr ⟨_,_,n,h,Z,Z,a3q _,.nil⟩
def nj(h:K.lookup t=some ⟨.type "tuple",od,.seq #[.str z k] n,sl⟩):Ak K t [z] := λ_=>.inr ⟨_,_,n,h,Z,Z,(by decide:1<=sizeLine),.cons ⟨_,Z⟩ .nil⟩
def tp2(h:K.lookup t=some ⟨.type "tuple",od,.seq #[.str z k,.str y j] n,sl⟩):Ak K t [z,y] := λ_=>.inr ⟨_,_,n,h,Z,Z,(by decide:2<=sizeLine),.cons ⟨_,Z⟩ (.cons ⟨_,Z⟩ .nil)⟩
def vp(K:PySem.W.Frag)(ts:List Addr)(rs:List (List Str)):Prop:=Paired (λt r=>Ak K t r) ts rs
theorem vp.at{K:PySem.W.Frag}:∀ {ts:List Addr} {rs:List (Str×List Str)},vp K ts (rs.map (·.2))->ts.length=rs.length/\∀(i:Nat) (r:Str×List Str) (t:Addr),rs[i]?=some r->ts[i]?=some t->∀H,aP K H t (r.2.map V.str)
 | [],[],_=>⟨Z,λi r t h=>by simp at h⟩
 | [],_::_,h=>by cases h
 | _::_,[],h=>by cases h
 | t::ts,r::rs,h=>by
  cases h with
  | cons a b =>
   have ⟨l,q⟩:=vp.at b;show⟨by simp[l],λi r' t' hr ht=>?_⟩
   cases i with
   | zero=>cases hr;cases ht;show a
   | succ i=>show q i r' t' hr ht
def ph_
  (lk:K.lookup a=some ⟨.type "dict",none,.dict #[⟨PyData.keyHash w.params "frame",.str "frame" k0,.ref t0⟩,⟨PyData.keyHash w.params "weigh",.str "weigh" k1,.ref t1⟩,⟨PyData.keyHash w.params "drop",.str "drop" k2,.ref t2⟩,⟨PyData.keyHash w.params "many",.str "many" k3,.ref t3⟩,⟨PyData.keyHash w.params "below",.str "below" k4,.ref t4⟩,⟨PyData.keyHash w.params "nth",.str "nth" k5,.ref t5⟩,⟨PyData.keyHash w.params "next",.str "next" k6,.ref t6⟩,⟨PyData.keyHash w.params "last",.str "last" k7,.ref t7⟩,⟨PyData.keyHash w.params "miss",.str "miss" k8,.ref t8⟩,⟨PyData.keyHash w.params "near",.str "near" k9,.ref t9⟩,⟨PyData.keyHash w.params "sums",.str "sums" Ov,.ref EX⟩,⟨PyData.keyHash w.params "show",.str "show" Ow,.ref EY⟩] n,sl⟩) (ns:(a==sysModules)=false) (hs:sl=#[]) (h:vp K [t0,t1,t2,t3,t4,t5,t6,t7,t8,t9,EX,EY] (cU.map (·.2))):MT K P w a:=by
 obtain⟨l,q⟩:=vp.at h;show⟨_,Ou [("frame",k0,.ref t0),("weigh",k1,.ref t1),("drop",k2,.ref t2),("many",k3,.ref t3),("below",k4,.ref t4),("nth",k5,.ref t5),("next",k6,.ref t6),("last",k7,.ref t7),("miss",k8,.ref t8),("near",k9,.ref t9),("sums",Ov,.ref EX),("show",Ow,.ref EY)] lk ns ?_ (by change(List.map Prod.fst cU).Nodup;decide) hs,l,q⟩;show .cons ⟨Z,Z⟩<|.cons ⟨Z,Z⟩<|.cons ⟨Z,Z⟩<|.cons ⟨Z,Z⟩<|.cons ⟨Z,Z⟩<|.cons ⟨Z,Z⟩<|.cons ⟨Z,Z⟩<|.cons ⟨Z,Z⟩<|.cons ⟨Z,Z⟩<|.cons ⟨Z,Z⟩<|.cons ⟨Z,Z⟩<|.cons ⟨Z,Z⟩ .nil
def pi_
  (lk:K.lookup a=some ⟨.type "dict",none,.dict #[⟨PyData.keyHash w.params "N",.str "N" k0,.int 30 j0⟩,⟨PyData.keyHash w.params "K",.str "K" k1,.int 30 j1⟩,⟨PyData.keyHash w.params "D",.str "D" k2,.int 4 j2⟩,⟨PyData.keyHash w.params "P",.str "P" k3,.int 2 j3⟩,⟨PyData.keyHash w.params "W",.str "W" k4,.int 2 j4⟩] n,sl⟩) (ns:(a==sysModules)=false) (hs:sl=#[]):KD K P w a uY:=by
 show Ou [("N",k0,.int 30 j0),("K",k1,.int 30 j1),("D",k2,.int 4 j2),("P",k3,.int 2 j3),("W",k4,.int 2 j4)] lk ns ?_ (by change([kN,kK,kD,kP,kW]:List Str).Nodup;decide) hs;unfold KV;show .cons ⟨Z,_,Z⟩ (.cons ⟨Z,_,Z⟩ (.cons ⟨Z,_,Z⟩ (.cons ⟨Z,_,Z⟩ (.cons ⟨Z,_,Z⟩ .nil))))
structure aN(K:PySem.W.Frag)(x:Str)(st:Stmt):Prop where
 ex:∃(f:Addr) (oc:Value) (od an:Option Addr) (df:Array (Option Value)) (kV bz pm ak ct:Value),PySem.W.nsIn K mainGlobals x=some (some (.ref f))/\
  K.lookup f=some ⟨oc,od,.func (PySem.W.fnOf x x (gD st) (I_ st) (f_ st) .none kV bz pm an ak ct),df⟩/\PySem.W.codeIn K ak x=true/\PySem.W.keepIn K (.ref f)=true
def vg_{kV bz pm ak ct:Value}(a:PySem.W.nsIn K mainGlobals x=some (some (.ref f))) (l:K.lookup f=some ⟨oc,od,.func (PySem.W.fnOf x x (gD st) (I_ st) (f_ st) .none kV bz pm an ak ct),df⟩) (c:PySem.W.codeIn K ak x=true) (k:PySem.W.keepIn K (.ref f)=true):aN K x st:=⟨f,oc,od,an,df,kV,bz,pm,ak,ct,a,l,c,k⟩
structure EZ(K:PySem.W.Frag):Prop where
 fF:PySem.W.nsIn K mainGlobals "isinstance"=some none
 int:PySem.W.nsIn K mainGlobals "int"=some none
 bool:PySem.W.nsIn K mainGlobals "bool"=some none
 list:PySem.W.nsIn K mainGlobals "list"=some none
 tuple:PySem.W.nsIn K mainGlobals "tuple"=some none
 all:PySem.W.nsIn K mainGlobals "all"=some none
 len:PySem.W.nsIn K mainGlobals "len"=some none
 sum:PySem.W.nsIn K mainGlobals "sum"=some none
 range:PySem.W.nsIn K mainGlobals "range"=some none
 max:PySem.W.nsIn K mainGlobals "max"=some none
 min:PySem.W.nsIn K mainGlobals "min"=some none
 rev:PySem.W.nsIn K mainGlobals "reversed"=some none
 zip:PySem.W.nsIn K mainGlobals "zip"=some none
 enum:PySem.W.nsIn K mainGlobals "enumerate"=some none
def E1{p:List Value->Prop}(h:p [])(us:List Value)(hl:us.length=0):p us:=by simp_all
def vq{p:List Value->Prop}(h:∀a r,r.length=n->p (a::r))(us:List Value)(hl:us.length=n+1):p us:=by
 cases us with
 | nil=>cases hl
 | cons a r=>show h a r (Nat.succ.inj hl)
def dP{p:List Value->Prop}(h:∀a,p [a]):∀us:List Value,us.length=1->p us:=vq λa=>E1<|h a
def cq{p:List Value->Prop}(h:∀a b,p [a,b]):∀us:List Value,us.length=2->p us:=vq λa=>dP (p:=λr=>p (a::r)) (h a)
def gr{p:List Value->Prop}(h:∀a b c,p [a,b,c]):∀us:List Value,us.length=3->p us:=vq λa=>cq<|h a
def E2{p:List Value->Prop}(h:∀a b c d,p [a,b,c,d]):∀us:List Value,us.length=4->p us:=vq λa=>gr<|h a
def Ox{p:List Value->Prop}(h:∀a b c d e,p [a,b,c,d,e]):∀us:List Value,us.length=5->p us:=vq λa=>E2 (p:=λr=>p (a::r)) (h a)
def EZ.txt(T:EZ K)(X:K.In h)(G:h.Ns mainGlobals mg):Txt mg :=
 have e:∀x,PySem.W.nsIn K mainGlobals x=some none->mg x=none:=λx z=>a4p X G z
 ⟨e _ T.fF,e _ T.int,e _ T.bool,e _ T.list,e _ T.tuple,e _ T.all,e _ T.len,e _ T.sum,e _ T.range,e _ T.max,e _ T.min,e _ T.rev,e _ T.zip,e _ T.enum⟩
def s_(D:aN K x st)(X:K.In h)(G:h.Ns mainGlobals mg)(ok:∀f fd,ay K x x st f fd->av P w K mg base aE k f fd ps sp) (hb:∀ kV bz pm   an   ak ct   us ,us.length=ps.length->bindArgs (PySem.W.fnOf x x (gD st) (I_ st) (f_ st) .none kV bz pm an ak ct) ⟨us,[]⟩=pure (ps.zip us)):ai P w K mg base k x ps sp:=by
 obtain⟨f,oc,od,an,df,kV,bz,pm,ak,ct,a,l,c,kp⟩:=D.ex;have F:=qg l c kp;show⟨f,_,ok _ _ F,a3n X G a,kp,F.binds hb⟩
def gS(D:aN K x st)(X:K.In h)(G:h.Ns mainGlobals mg)(ok:∀f fd,ay K x x st f fd->av P w K mg base (bt P w) k f fd ps sp) (hb:∀ kV bz pm   an   ak ct   us ,us.length=ps.length->bindArgs (PySem.W.fnOf x x (gD st) (I_ st) (f_ st) .none kV bz pm an ak ct) ⟨us,[]⟩=pure (ps.zip us)):ci P w K mg base k x ps sp:=by
 obtain⟨f,oc,od,an,df,kV,bz,pm,ak,ct,a,l,c,kp⟩:=D.ex;have F:=qg (st:=st) l c kp;show⟨f,_,ok _ _ F,a3n X G a,kp,F.binds hb⟩
structure pS(K:PySem.W.Frag)(C:Addr)(m qual:Str)(st:Stmt):Prop where
 ex:∃(f:Addr) (oc:Value) (od an:Option Addr) (df:Array (Option Value)) (kV bz pm ak ct:Value),PySem.W.findIn K (.ref C) m=some (some (.ref f))/\PySem.W.isFn K (.ref f)=true/\
  K.lookup f=some ⟨oc,od,.func (PySem.W.fnOf m qual (gD st) (I_ st) (f_ st) .none kV bz pm an ak ct),df⟩/\PySem.W.codeIn K ak qual=true/\PySem.W.keepIn K (.ref f)=true
def E3{kV bz pm ak ct:Value}(a:PySem.W.findIn K (.ref C) m=some (some (.ref f)))(i:PySem.W.isFn K (.ref f)=true) (l:K.lookup f=some ⟨oc,od,.func (PySem.W.fnOf m qual (gD st) (I_ st) (f_ st) .none kV bz pm an ak ct),df⟩) (c:PySem.W.codeIn K ak qual=true) (k:PySem.W.keepIn K (.ref f)=true):pS K C m qual st:=⟨f,oc,od,an,df,kV,bz,pm,ak,ct,a,i,l,c,k⟩
def ri_(D:pS K C m qual st)(ok:∀f fd,ay K m qual st f fd->av P w K mg base aE k f fd ps sp) (hb:∀ kV bz pm   an   ak ct   us ,us.length=ps.length->bindArgs (PySem.W.fnOf m qual (gD st) (I_ st) (f_ st) .none kV bz pm an ak ct) ⟨us,[]⟩=pure (ps.zip us)):lK P w K mg base k C m ps sp:=by
 obtain⟨f,oc,od,an,df,kV,bz,pm,ak,ct,a,i,l,c,kp⟩:=D.ex;have F:=qg (st:=st) l c kp;show⟨f,_,ok _ _ F,⟨a,i,kp⟩,F.binds hb⟩
def rJ_(D:pS K C "__init__" qual st)(mk:PySem.W.makesIn K C=true)(kc:PySem.W.keepIn K (.ref C)=true)(hx:mg x=some (.ref C))(ok:∀f fd,ay K "__init__" qual st f fd->av P w K mg base aE k f fd ps sp) (hb:∀ kV bz pm   an   ak ct   us ,us.length=ps.length->bindArgs (PySem.W.fnOf "__init__" qual (gD st) (I_ st) (f_ st) .none kV bz pm an ak ct) ⟨us,[]⟩=pure (ps.zip us)):zi P w K mg base k x C ps sp:=by
 obtain⟨f,oc,od,an,df,kV,bz,pm,ak,ct,a,i,l,c,kp⟩:=D.ex;have F:=qg l c kp;show⟨f,_,ok _ _ F,⟨mk,a,i,kc⟩,hx,F.binds hb⟩
def oK_(D:pS K C m qual st)(ok:∀f fd,ay K m qual st f fd->av P w K mg base (bt P w) k f fd ps sp) (hb:∀ kV bz pm   an   ak ct   us ,us.length=ps.length->bindArgs (PySem.W.fnOf m qual (gD st) (I_ st) (f_ st) .none kV bz pm an ak ct) ⟨us,[]⟩=pure (ps.zip us)):iX P w K mg base k C m ps sp:=by
 obtain⟨f,oc,od,an,df,kV,bz,pm,ak,ct,a,i,l,c,kp⟩:=D.ex;have F:=qg l c kp;show⟨f,_,ok _ _ F,⟨a,i,kp⟩,F.binds hb⟩
def ul_{l:PySem.W.OpenLaw}(X:K.In h)(G:h.Ns mainGlobals mg)(hfa:mg "law"=some (.ref fa))(TI:EZ K) (i0:aN K "is_whole" Bd) (i1:aN K "is_between" Be) (i2:aN K "is_list_between" wG) (i3:aN K "is_frame" Bf) (i4:aN K "need_frame" Bg) (i5:aN K "how_many" Bh) (i6:aN K "need_number" wH) (i7:aN K "cut_by_parts" Bi) (i8:aN K "figures_of" wI) (i9:aN K "part_sums" oh) (Oy:aN K "misses_by" wJ) (ED:aN K "with_one_more_figure" Bj) (i12:aN K "ways_of_weights" wK) (oR:aN K "ways_of_parts" wL) (Oz:aN K "ways_with" Bk) (OA:aN K "even_by_sums" Bl) (OB:aN K "count_even" Bm) (OC:aN K "weighted_sum" sS) (OD:aN K "number_of" Br) (OE:aN K "part_beginnings" wO) (E4:aN K "need_bound" wM) (OF:aN K "stretches_below" wN) (OG:aN K "need_miss" Bn) (oS:aN K "running_counts" Bo) (OH:aN K "ways_within" Bp) (OI:aN K "count_spread_within" qx) (OJ:aN K "tails_of_part" wP) (OL:aN K "tails_of_parts" wQ) (OM:aN K "ways_from_beginnings" Bt) (ON:aN K "count_begun" Bu) (OO:aN K "count_below" sU) (OP:aN K "count_near" Bq) (E5:aN K "near_below" wU) (OQ:aN K "figure_and_rest" Bv) (OR:aN K "number_at" Bw) (OS:aN K "need_place" Bs) (E6:aN K "near_by" By) (OT:aN K "even_by" Bx) (OU:aN K "even_below" wR) (OV:aN K "next_even" wS) (OW:aN K "last_even" wT) (OX:aN K "is_written" qy) (OY:aN K "is_written_with_sign" BB) (E7:aN K "joined_by" qz) (OZ:aN K "show_frame" BC) (O0:aN K "is_writing" sV) (O4:aN K "frame_or_none" sW) (O5:aN K "read_frame" wW) (O6:aN K "copy_of" Bz) (O7:aN K "with_weight" wV) (O8:aN K "is_name" wX) (O9:aN K "fits" BD) (Pa:aN K "is_row" wY) (Pb:aN K "words_of" BE) (Pc:aN K "read_row" wZ) (Pd:aN K "number_or_none" BF) (Pe:aN K "answer_with_number" BG) (Pf:aN K "answer" BH) (Pg:aN K "_law_cell" BI) (Ph:aN K "_law_said" BJ) (Pi:aN K "_law_none" sX) (Pj:aN K "_law_others" oj) (Pk:aN K "_law_spoilt" mt) (aC:PySem.W.nsIn K mainGlobals "Desk"=some (some (.ref C))) (E8:PySem.W.plainGet K C Str.empty=true) (E9:PySem.W.hasDictIn K C=true) (Fa:PySem.W.plainOver K C=true) (Fb:PySem.W.findIn K (.ref C) "__setattr__"=some (some (.builtin "object.__setattr__"))) (Fc:PySem.W.makesIn K C=true) (kC:PySem.W.keepIn K (.ref C)=true) (nS:PySem.W.findIn K (.ref C) "by_name"=some none) (Fd:pS K C "say" "Desk.say" BM) (Fe:pS K C "__init__" "Desk.__init__" BK) (Ff:pS K C "names" "Desk.names" BL) {cB c0 c1 c2 c3 c4 c5 c6 c7 c8 c9:Addr} (eB:PySem.W.nsIn K mainGlobals "HalfError"=some (some (.ref cB))) (e0:PySem.W.nsIn K mainGlobals "NoFrame"=some (some (.ref c0))) (e1:PySem.W.nsIn K mainGlobals "NoNumber"=some (some (.ref c1))) (e2:PySem.W.nsIn K mainGlobals "NoPart"=some (some (.ref c2))) (e3:PySem.W.nsIn K mainGlobals "NoSum"=some (some (.ref c3))) (e4:PySem.W.nsIn K mainGlobals "NoMiss"=some (some (.ref c4))) (e5:PySem.W.nsIn K mainGlobals "NoEven"=some (some (.ref c5))) (e6:PySem.W.nsIn K mainGlobals "NoFrames"=some (some (.ref c6))) (e7:PySem.W.nsIn K mainGlobals "NoText"=some (some (.ref c7))) (e8:PySem.W.nsIn K mainGlobals "NoName"=some (some (.ref c8))) (e9:PySem.W.nsIn K mainGlobals "NoRow"=some (some (.ref c9))) (tB:PySem.W.typeIn K (.ref cB)=some (.type "type")) (mB:PySem.W.mroIn K cB (.type "BaseException")=some true) (q1:PySem.W.excIn K c1 [.type "ValueError",.type "Exception",.type "BaseException",.type "object"] "ValueError.__new__"=true) (m1:PySem.W.mroIn K c1 (.ref cB)=some true) (l1:iV K c1) (v1:PySem.W.kitOne K (.ref c1) (.type "ValueError")=some true) (Fg:PySem.W.kitOne K (.ref c1) (.ref c0)=some false) (Fh:PySem.W.kitOne K (.ref c1) (.ref c1)=some true) (Fi:PySem.W.kitOne K (.ref c1) (.ref c2)=some false) (Fj:PySem.W.kitOne K (.ref c1) (.ref c3)=some false) (Fk:PySem.W.kitOne K (.ref c1) (.ref c4)=some false) (Fl:PySem.W.kitOne K (.ref c1) (.ref c5)=some false) (Fm:PySem.W.kitOne K (.ref c1) (.ref c6)=some false) (Fn:PySem.W.kitOne K (.ref c1) (.ref c7)=some false) (Fo:PySem.W.kitOne K (.ref c1) (.ref c8)=some false) (Fp:PySem.W.kitOne K (.ref c1) (.ref c9)=some false) (q2:PySem.W.excIn K c2 [.type "ValueError",.type "Exception",.type "BaseException",.type "object"] "ValueError.__new__"=true) (m2:PySem.W.mroIn K c2 (.ref cB)=some true) (l2:iV K c2) (v2:PySem.W.kitOne K (.ref c2) (.type "ValueError")=some true) (Fq:PySem.W.kitOne K (.ref c2) (.ref c0)=some false) (Fs:PySem.W.kitOne K (.ref c2) (.ref c1)=some false) (Ft:PySem.W.kitOne K (.ref c2) (.ref c2)=some true) (Fu:PySem.W.kitOne K (.ref c2) (.ref c3)=some false) (Fv:PySem.W.kitOne K (.ref c2) (.ref c4)=some false) (Fw:PySem.W.kitOne K (.ref c2) (.ref c5)=some false) (Fx:PySem.W.kitOne K (.ref c2) (.ref c6)=some false) (Fy:PySem.W.kitOne K (.ref c2) (.ref c7)=some false) (Fz:PySem.W.kitOne K (.ref c2) (.ref c8)=some false) (FA:PySem.W.kitOne K (.ref c2) (.ref c9)=some false) (q7:PySem.W.excIn K c7 [.type "ValueError",.type "Exception",.type "BaseException",.type "object"] "ValueError.__new__"=true) (m7:PySem.W.mroIn K c7 (.ref cB)=some true) (l7:iV K c7) (v7:PySem.W.kitOne K (.ref c7) (.type "ValueError")=some true) (FB:PySem.W.kitOne K (.ref c7) (.ref c0)=some false) (FC:PySem.W.kitOne K (.ref c7) (.ref c1)=some false) (FD:PySem.W.kitOne K (.ref c7) (.ref c2)=some false) (FE:PySem.W.kitOne K (.ref c7) (.ref c3)=some false) (FF:PySem.W.kitOne K (.ref c7) (.ref c4)=some false) (FG:PySem.W.kitOne K (.ref c7) (.ref c5)=some false) (FH:PySem.W.kitOne K (.ref c7) (.ref c6)=some false) (FI:PySem.W.kitOne K (.ref c7) (.ref c7)=some true) (FJ:PySem.W.kitOne K (.ref c7) (.ref c8)=some false) (FK:PySem.W.kitOne K (.ref c7) (.ref c9)=some false) (q8:PySem.W.excIn K c8 [.type "ValueError",.type "Exception",.type "BaseException",.type "object"] "ValueError.__new__"=true) (m8:PySem.W.mroIn K c8 (.ref cB)=some true) (l8:iV K c8) (v8:PySem.W.kitOne K (.ref c8) (.type "ValueError")=some true) (FL:PySem.W.kitOne K (.ref c8) (.ref c0)=some false) (FM:PySem.W.kitOne K (.ref c8) (.ref c1)=some false) (FN:PySem.W.kitOne K (.ref c8) (.ref c2)=some false) (FO:PySem.W.kitOne K (.ref c8) (.ref c3)=some false) (FP:PySem.W.kitOne K (.ref c8) (.ref c4)=some false) (FQ:PySem.W.kitOne K (.ref c8) (.ref c5)=some false) (FR:PySem.W.kitOne K (.ref c8) (.ref c6)=some false) (FS:PySem.W.kitOne K (.ref c8) (.ref c7)=some false) (FT:PySem.W.kitOne K (.ref c8) (.ref c8)=some true) (FU:PySem.W.kitOne K (.ref c8) (.ref c9)=some false) (q9:PySem.W.excIn K c9 [.type "ValueError",.type "Exception",.type "BaseException",.type "object"] "ValueError.__new__"=true) (m9:PySem.W.mroIn K c9 (.ref cB)=some true) (l9:iV K c9) (v9:PySem.W.kitOne K (.ref c9) (.type "ValueError")=some true) (FV:PySem.W.kitOne K (.ref c9) (.ref c0)=some false) (FW:PySem.W.kitOne K (.ref c9) (.ref c1)=some false) (FX:PySem.W.kitOne K (.ref c9) (.ref c2)=some false) (FY:PySem.W.kitOne K (.ref c9) (.ref c3)=some false) (FZ:PySem.W.kitOne K (.ref c9) (.ref c4)=some false) (F0:PySem.W.kitOne K (.ref c9) (.ref c5)=some false) (F3:PySem.W.kitOne K (.ref c9) (.ref c6)=some false) (F4:PySem.W.kitOne K (.ref c9) (.ref c7)=some false) (F5:PySem.W.kitOne K (.ref c9) (.ref c8)=some false) (F6:PySem.W.kitOne K (.ref c9) (.ref c9)=some true) {nR nM:Nat} (gR:PySem.W.nsIn K mainGlobals "ROWS"=some (some (.ref aR))) (lR:K.lookup aR=some ⟨.type "dict",none,.dict #[⟨PyData.keyHash w.params "frame",.str "frame" kr0,.ref Pn⟩,⟨PyData.keyHash w.params "weigh",.str "weigh" kr1,.ref Po⟩,⟨PyData.keyHash w.params "drop",.str "drop" kr2,.ref Pp⟩,⟨PyData.keyHash w.params "many",.str "many" kr3,.ref Pq⟩,⟨PyData.keyHash w.params "below",.str "below" kr4,.ref Pr⟩,⟨PyData.keyHash w.params "nth",.str "nth" kr5,.ref Ps⟩,⟨PyData.keyHash w.params "next",.str "next" kr6,.ref Pt⟩,⟨PyData.keyHash w.params "last",.str "last" kr7,.ref Pu⟩,⟨PyData.keyHash w.params "miss",.str "miss" kr8,.ref Pw⟩,⟨PyData.keyHash w.params "near",.str "near" kr9,.ref Px⟩,⟨PyData.keyHash w.params "sums",.str "sums" a0L,.ref Py⟩,⟨PyData.keyHash w.params "show",.str "show" a0M,.ref Pz⟩] nR,Pl⟩) (sR:(aR==sysModules)=false) (zR:Pl=#[]) (gM:PySem.W.nsIn K mainGlobals "MOST_FIGURES"=some (some (.ref aM))) (lM:K.lookup aM=some ⟨.type "dict",none,.dict #[⟨PyData.keyHash w.params "N",.str "N" km0,.int 30 a0N⟩,⟨PyData.keyHash w.params "K",.str "K" km1,.int 30 a0O⟩,⟨PyData.keyHash w.params "D",.str "D" km2,.int 4 a0P⟩,⟨PyData.keyHash w.params "P",.str "P" km3,.int 2 a0Q⟩,⟨PyData.keyHash w.params "W",.str "W" km4,.int 2 a0R⟩] nM,Pm⟩) (sM:(aM==sysModules)=false) (zM:Pm=#[]) (x0:K.lookup Pn=some ⟨.type "tuple",ox0,.seq #[.str "TEXT" a0S] nx0,lx0⟩) (x1:K.lookup Po=some ⟨.type "tuple",ox1,.seq #[.str "P" a0T,.str "W" a0U] nx1,lx1⟩) (x2:K.lookup Pp=some ⟨.type "tuple",ox2,.seq #[] nx2,lx2⟩) (x3:K.lookup Pq=some ⟨.type "tuple",ox3,.seq #[] nx3,lx3⟩) (x4:K.lookup Pr=some ⟨.type "tuple",ox4,.seq #[.str "N" a0V] nx4,lx4⟩) (x5:K.lookup Ps=some ⟨.type "tuple",ox5,.seq #[.str "K" a0W] nx5,lx5⟩) (x6:K.lookup Pt=some ⟨.type "tuple",ox6,.seq #[.str "N" a0X] nx6,lx6⟩) (x7:K.lookup Pu=some ⟨.type "tuple",ox7,.seq #[.str "N" a0Y] nx7,lx7⟩) (x8:K.lookup Pw=some ⟨.type "tuple",ox8,.seq #[.str "N" a0Z] nx8,lx8⟩) (x9:K.lookup Px=some ⟨.type "tuple",ox9,.seq #[.str "D" a1a] nx9,lx9⟩) (F7:K.lookup Py=some ⟨.type "tuple",a1c,.seq #[.str "N" a1e] a1b,a1d⟩) (F8:K.lookup Pz=some ⟨.type "tuple",a1g,.seq #[] a1f,a1h⟩) (vt:∃t,PySem.W.nsIn K mainGlobals "FIGURES"=some (some (.str "0123456789" t))) (vv:∃t,PySem.W.nsIn K mainGlobals "LETTERS"=some (some (.str "abcdefghijklmnopqrstuvwxyz" t))) (vw:∃t,PySem.W.nsIn K mainGlobals "MOST_LETTERS"=some (some (.int 8 t))) (oJ:PySem.W.nsIn K mainGlobals "dict"=some none) (mF:PySem.W.nsIn K mainGlobals "sorted"=some none) (im:PySem.W.nsIn K mainGlobals "str"=some none) (il:PySem.W.nsIn K mainGlobals "abs"=some none) (vx:PySem.W.nsIn K mainGlobals "ValueError"=some none) (jl:aN K "law" jm) : ∃fd:FuncData,(∀ s   v ,BindsTo s fd ⟨[v],[]⟩ [("script",v)])/\∀base:Heap,K.In base->base.Ns mainGlobals mg->av l.prog w K mg base aE 18 fa fd ["script"] (uF K):=by
 have T:=TI.txt X G;obtain⟨f,oc,od,an,df,kV,bz,pm,ak,ct,a,lk,c,kp⟩:=jl.ex;have e:=hfa.symm.trans (a3n X G a);cases e;have F:=qg (st:=jm) lk c kp;show⟨PySem.W.fnOf "law" "law" (gD jm) (I_ jm) (f_ jm) .none kV bz pm an ak ct,λs v=>.of_eq Z,λbase BX _=>?_⟩;have oJ:mg "dict"=none:=a4p X G oJ;have mF:mg "sorted"=none:=a4p X G mF;have im:mg "str"=none:=a4p X G im;have il:mg "abs"=none:=a4p X G il;have vx:mg "ValueError"=none:=a4p X G vx;have vt:∃t,mg "FIGURES"=some (.str "0123456789" t):=vt.elim λt z=>⟨t,a3n X G z⟩;have vv:∃t,mg "LETTERS"=some (.str "abcdefghijklmnopqrstuvwxyz" t):=vv.elim λt z=>⟨t,a3n X G z⟩;have vw:∃t,mg "MOST_LETTERS"=some (.int 8 t):=vw.elim λt z=>⟨t,a3n X G z⟩;have en:MC mg (cs [c0,c1,c2,c3,c4,c5,c6,c7,c8,c9]):=⟨a3n X G e0,a3n X G e1,a3n X G e2,a3n X G e3,a3n X G e4,a3n X G e5,a3n X G e6,a3n X G e7,a3n X G e8,a3n X G e9,vx⟩;have o1:=uV PySem.F.excBase_ValueError BX q1;have u1:Up K c1 cB:=⟨m1,mB,tB⟩;have y1:Kind K (cs [c0,c1,c2,c3,c4,c5,c6,c7,c8,c9]) c1 1:=⟨l1,by decide,λj hj=>match j,hj with | 0,_=>Fg | 1,_=>Fh | 2,_=>Fi | 3,_=>Fj | 4,_=>Fk | 5,_=>Fl | 6,_=>Fm | 7,_=>Fn | 8,_=>Fo | 9,_=>Fp,v1⟩;have o2:=uV PySem.F.excBase_ValueError BX q2;have u2:Up K c2 cB:=⟨m2,mB,tB⟩;have y2:Kind K (cs [c0,c1,c2,c3,c4,c5,c6,c7,c8,c9]) c2 2:=⟨l2,by decide,λj hj=>match j,hj with | 0,_=>Fq | 1,_=>Fs | 2,_=>Ft | 3,_=>Fu | 4,_=>Fv | 5,_=>Fw | 6,_=>Fx | 7,_=>Fy | 8,_=>Fz | 9,_=>FA,v2⟩;have o7:=uV PySem.F.excBase_ValueError BX q7;have u7:Up K c7 cB:=⟨m7,mB,tB⟩;have y7:Kind K (cs [c0,c1,c2,c3,c4,c5,c6,c7,c8,c9]) c7 7:=⟨l7,by decide,λj hj=>match j,hj with | 0,_=>FB | 1,_=>FC | 2,_=>FD | 3,_=>FE | 4,_=>FF | 5,_=>FG | 6,_=>FH | 7,_=>FI | 8,_=>FJ | 9,_=>FK,v7⟩;have o8:=uV PySem.F.excBase_ValueError BX q8;have u8:Up K c8 cB:=⟨m8,mB,tB⟩;have y8:Kind K (cs [c0,c1,c2,c3,c4,c5,c6,c7,c8,c9]) c8 8:=⟨l8,by decide,λj hj=>match j,hj with | 0,_=>FL | 1,_=>FM | 2,_=>FN | 3,_=>FO | 4,_=>FP | 5,_=>FQ | 6,_=>FR | 7,_=>FS | 8,_=>FT | 9,_=>FU,v8⟩;have o9:=uV PySem.F.excBase_ValueError BX q9;have u9:Up K c9 cB:=⟨m9,mB,tB⟩;have y9:Kind K (cs [c0,c1,c2,c3,c4,c5,c6,c7,c8,c9]) c9 9:=⟨l9,by decide,λj hj=>match j,hj with | 0,_=>FV | 1,_=>FW | 2,_=>FX | 3,_=>FY | 4,_=>FZ | 5,_=>F0 | 6,_=>F3 | 7,_=>F4 | 8,_=>F5 | 9,_=>F6,v9⟩;have cl:cS K C:=⟨E8,E9,Fa,Fb⟩;have F9:ai l.prog w K mg base 1 "is_whole" ["thing"] qv:=s_ i0 X G (λ_ _ F=>T6 F T) λ_ _ _ _ _ _=>dP λ_=>rfl;have ic:ai l.prog w K mg base 2 "is_between" ["thing","least","greatest"] jk:=s_ i1 X G (λ_ _ F=>T8 F F9) λ_ _ _ _ _ _=>gr λ_ _ _=>rfl;have a1i:ai l.prog w K mg base 3 "is_list_between" ["thing","least","greatest"] xn:=s_ i2 X G (λ_ _ F=>Ua F T ic) λ_ _ _ _ _ _=>gr λ_ _ _=>rfl;have d_is_frame:ai l.prog w K mg base 4 "is_frame" ["thing"] tG:=s_ i3 X G (λ_ _ F=>Ui F T ic a1i) λ_ _ _ _ _ _=>dP λ_=>rfl;have fZ:ai l.prog w K mg base 5 "need_frame" ["thing"] fS:=s_ i4 X G (λ_ _ F=>Ut F (d_is_frame.less ZU)) λ_ _ _ _ _ _=>dP λ_=>rfl;have nk:ai l.prog w K mg base 6 "how_many" ["frame"] lh:=s_ i5 X G (λ_ _ F=>Uu F T fZ) λ_ _ _ _ _ _=>dP λ_=>rfl;have PB:ai l.prog w K mg base 7 "need_number" ["frame","thing"] qw:=s_ i6 X G (λ_ _ F=>IP F ic nk) λ_ _ _ _ _ _=>cq λ_ _=>rfl;have a1j:ci l.prog w K mg base 7 "need_number" ["frame","thing"] (cO qw (gO c1)):=gS i6 X G (λ_ _ F=>(IP F ic nk).up.or (ie_ F ic nk o1 en.n1)) λ_ _ _ _ _ _=>cq λ_ _=>rfl;have vy:ai l.prog w K mg base 1 "cut_by_parts" ["frame","row"] oq:=s_ i7 X G (λ_ _ F=>Uw F) λ_ _ _ _ _ _=>cq λ_ _=>rfl;have F':ai l.prog w K mg base 8 "figures_of" ["frame","n"] og:=s_ i8 X G (λ_ _ F=>IQ F T fZ PB) λ_ _ _ _ _ _=>cq λ_ _=>rfl;have a1k:ci l.prog w K mg base 8 "figures_of" ["frame","n"] (cO og (gO c1)):=gS i8 X G (λ_ _ F=>(IQ F T fZ PB).up.or (ii_ F fZ a1j)) λ_ _ _ _ _ _=>cq λ_ _=>rfl;have a1l:ai l.prog w K mg base 9 "part_sums" ["frame","n"] ou:=s_ i9 X G (λ_ _ F=>JG F T F' vy) λ_ _ _ _ _ _=>cq λ_ _=>rfl;have PD:ci l.prog w K mg base 9 "part_sums" ["frame","n"] (cO ou (gO c1)):=gS i9 X G (λ_ _ F=>(JG F T F' vy).up.or (oA_ F a1k)) λ_ _ _ _ _ _=>cq λ_ _=>rfl;have a1m:ci l.prog w K mg base 10 "misses_by" ["frame","n"] (cO xJ (gO c1)):=gS Oy X G (λ_ _ F=>(Vn F T a1l).up.or (kk_ F PD)) λ_ _ _ _ _ _=>cq λ_ _=>rfl;have a1n:ai l.prog w K mg base 1 "with_one_more_figure" ["ways","base","weight"] xM:=s_ ED X G (λ_ _ F=>Vr F T) λ_ _ _ _ _ _=>gr λ_ _ _=>rfl;have PH:ai l.prog w K mg base 2 "ways_of_weights" ["base","weights"] ub:=s_ i12 X G (λ_ _ F=>Vt F T oJ mF a1n) λ_ _ _ _ _ _=>cq λ_ _=>rfl;have PJ:ai l.prog w K mg base 3 "ways_of_parts" ["frame"] uc:=s_ oR X G (λ_ _ F=>VI F T vy PH) λ_ _ _ _ _ _=>dP λ_=>rfl;have a1o:ai l.prog w K mg base 1 "ways_with" ["ways_by_part","total"] xS:=s_ Oz X G (λ_ _ F=>VJ F) λ_ _ _ _ _ _=>cq λ_ _=>rfl;have a1p:ai l.prog w K mg base 6 "even_by_sums" ["frame"] xT:=s_ OA X G (λ_ _ F=>VL F fZ PJ a1o) λ_ _ _ _ _ _=>dP λ_=>rfl;have a1q:ai l.prog w K mg base 7 "count_even" ["frame"] yI:=s_ OB X G (λ_ _ F=>YC F T a1p) λ_ _ _ _ _ _=>dP λ_=>rfl;have a1r:ai l.prog w K mg base 1 "weighted_sum" ["figures","weights"] yj:=s_ OC X G (λ_ _ F=>WS F T) λ_ _ _ _ _ _=>cq λ_ _=>rfl;have a1s:ai l.prog w K mg base 1 "number_of" ["base","figures"] ya:=s_ OD X G (λ_ _ F=>Wj F) λ_ _ _ _ _ _=>cq λ_ _=>rfl;have a1t:ai l.prog w K mg base 1 "part_beginnings" ["frame","head","end"] yq:=s_ OE X G (λ_ _ F=>Xc F T) λ_ _ _ _ _ _=>gr λ_ _ _=>rfl;have Al:ai l.prog w K mg base 7 "need_bound" ["frame","thing"] kj:=s_ E4 X G (λ_ _ F=>K0 F ic nk) λ_ _ _ _ _ _=>cq λ_ _=>rfl;have a1u:ai l.prog w K mg base 9 "stretches_below" ["frame","n"] yr:=s_ OF X G (λ_ _ F=>Xl F T nk F') λ_ _ _ _ _ _=>cq λ_ _=>rfl;have rN:ai l.prog w K mg base 2 "need_miss" ["thing"] ph:=s_ OG X G (λ_ _ F=>X9 F F9) λ_ _ _ _ _ _=>dP λ_=>rfl;have a1v:ai l.prog w K mg base 1 "running_counts" ["ways","low","high"] xY:=s_ oS X G (λ_ _ F=>V' F T) λ_ _ _ _ _ _=>gr λ_ _ _=>rfl;have a1w:ai l.prog w K mg base 1 "ways_within" ["running_by_part","start","end"] xZ:=s_ OH X G (λ_ _ F=>Wc F) λ_ _ _ _ _ _=>gr λ_ _ _=>rfl;have PK:ai l.prog w K mg base 2 "count_spread_within" ["ways_by_part","width"] uj:=s_ OI X G (λ_ _ F=>We F T a1v a1w) λ_ _ _ _ _ _=>cq λ_ _=>rfl;have a1x:ai l.prog w K mg base 3 "tails_of_part" ["base","weights"] yu:=s_ OJ X G (λ_ _ F=>Xy F T PH) λ_ _ _ _ _ _=>cq λ_ _=>rfl;have rO:ai l.prog w K mg base 4 "tails_of_parts" ["frame"] pf:=s_ OL X G (λ_ _ F=>XB F vy a1x) λ_ _ _ _ _ _=>dP λ_=>rfl;have a1y:ai l.prog w K mg base 2 "ways_from_beginnings" ["rows","weights","tails"] yv:=s_ OM X G (λ_ _ F=>XE F T a1r) λ_ _ _ _ _ _=>gr λ_ _ _=>rfl;have PL:ai l.prog w K mg base 3 "count_begun" ["frame","tails_by_part","d","head","end"] uy:=s_ ON X G (λ_ _ F=>XW F T a1t vy a1y PK) λ_ _ _ _ _ _=>Ox λ_ _ _ _ _=>rfl;have vz:ai l.prog w K mg base 10 "count_below" ["frame","tails_by_part","d","n"] pi:=s_ OO X G (λ_ _ F=>Ya F T a1u PL) λ_ _ _ _ _ _=>E2 λ_ _ _ _=>rfl;have a1z:ai l.prog w K mg base 6 "count_near" ["frame","d"] yH:=s_ OP X G (λ_ _ F=>YA F fZ rN PJ PK) λ_ _ _ _ _ _=>cq λ_ _=>rfl;have a1A:ai l.prog w K mg base 11 "near_below" ["frame","d","n"] re:=s_ E5 X G (λ_ _ F=>Lr F fZ rN Al rO vz) λ_ _ _ _ _ _=>gr λ_ _ _=>rfl;have a1B:ai l.prog w K mg base 4 "figure_and_rest" ["frame","tails_by_part","d","head","k"] yE:=s_ OQ X G (λ_ _ F=>Yf F PL) λ_ _ _ _ _ _=>Ox λ_ _ _ _ _=>rfl;have Am:ai l.prog w K mg base 11 "number_at" ["frame","tails_by_part","d","k"] rf:=s_ OR X G (λ_ _ F=>Yl F T nk vz a1B a1s) λ_ _ _ _ _ _=>E2 λ_ _ _ _=>rfl;have PM:ai l.prog w K mg base 2 "need_place" ["thing"] yF:=s_ OS X G (λ_ _ F=>Yv F F9) λ_ _ _ _ _ _=>dP λ_=>rfl;have a1C:ai l.prog w K mg base 12 "near_by" ["frame","d","k"] yG:=s_ E6 X G (λ_ _ F=>LB F fZ rN PM rO Am) λ_ _ _ _ _ _=>gr λ_ _ _=>rfl;have a2w:ai l.prog w K mg base 12 "near_by" ["frame","d","k"] De:=s_ E6 X G (λ_ _ F=>(LB F fZ rN PM rO Am).imp YH) λ_ _ _ _ _ _=>gr λ_ _ _=>rfl;have a1D:ai l.prog w K mg base 13 "even_by" ["frame","k"] yN:=s_ OT X G (λ_ _ F=>(Yy F a1C).imp YI) λ_ _ _ _ _ _=>cq λ_ _=>rfl;have Ga:ci l.prog w K mg base 7 "need_bound" ["frame","thing"] (cO kj (gm c1 bB)):=gS E4 X G (λ_ _ F=>(K0 F ic nk).up.or (ZY F ic nk o1 en.n1)) λ_ _ _ _ _ _=>cq λ_ _=>rfl;have a1E:ci l.prog w K mg base 11 "near_below" ["frame","d","n"] (cO re (zh c1 bB)):=gS E5 X G (λ_ _ F=>(Lr F fZ rN Al rO vz).up.or (ZZ F fZ rN Ga)) λ_ _ _ _ _ _=>gr λ_ _ _=>rfl;have a1F:ci l.prog w K mg base 12 "even_below" ["frame","n"] (cO yA (gm c1 bB)):=gS OU X G (λ_ _ F=>(Yb F a1A).up.or (fC_ F a1E)) λ_ _ _ _ _ _=>cq λ_ _=>rfl;have a1G:ci l.prog w K mg base 12 "next_even" ["frame","n"] (cO yL (gm c1 bB)):=gS OV X G (λ_ _ F=>((Yp F fZ Al rO vz Am).imp YF).up.or (Z0 F fZ Ga)) λ_ _ _ _ _ _=>cq λ_ _=>rfl;have a1H:ci l.prog w K mg base 12 "last_even" ["frame","n"] (cO yM (gm c1 bB)):=gS OW X G (λ_ _ F=>((Yo F fZ Al rO vz Am).imp YG).up.or (Z1 F fZ Ga)) λ_ _ _ _ _ _=>cq λ_ _=>rfl;have Gb:ai l.prog w K mg base 1 "is_written" ["text","most"] rn:=s_ OX X G (λ_ _ F=>Y6 F T vt) λ_ _ _ _ _ _=>cq λ_ _=>rfl;have PN:ai l.prog w K mg base 2 "is_written_with_sign" ["text","most"] uQ:=s_ OY X G (λ_ _ F=>Y7 F Gb) λ_ _ _ _ _ _=>cq λ_ _=>rfl;have a1I:ai l.prog w K mg base 1 "joined_by" ["sign","numbers"] yU:=s_ E7 X G (λ_ _ F=>YT F im) λ_ _ _ _ _ _=>cq λ_ _=>rfl;have a1J:ai l.prog w K mg base 1 "joined_by" ["sign","numbers"] zG:=s_ E7 X G (λ_ _ F=>oD_ F im) λ_ _ _ _ _ _=>cq λ_ _=>rfl;have a1K:ai l.prog w K mg base 6 "show_frame" ["frame"] yV:=s_ OZ X G (λ_ _ F=>YX F im fZ a1I) λ_ _ _ _ _ _=>dP λ_=>rfl;have a1L:ai l.prog w K mg base 3 "is_writing" ["base","parts","weights"] yZ:=s_ O0 X G (λ_ _ F=>Zc F T Gb PN) λ_ _ _ _ _ _=>gr λ_ _ _=>rfl;have PQ:ai l.prog w K mg base 5 "frame_or_none" ["text"] uR:=s_ O4 X G (λ_ _ F=>Zl F T im d_is_frame a1L) λ_ _ _ _ _ _=>dP λ_=>rfl;have a1M:ci l.prog w K mg base 6 "read_frame" ["text"] (cO ze (zg c7)):=gS O5 X G (λ_ _ F=>(ZW F PQ).up.or (ZX F PQ o7 en.n7)) λ_ _ _ _ _ _=>dP λ_=>rfl;have En:ai l.prog w K mg base 1 "copy_of" ["frame"] zj:=s_ O6 X G (λ_ _ F=>Z3 F T) λ_ _ _ _ _ _=>dP λ_=>rfl;have a1N:ci l.prog w K mg base 3 "with_weight" ["frame","place","weight"] (cO zk (zm c2 c1)):=gS O7 X G (λ_ _ F=>(Z4 F T ic En).up.or (ox_ F T ic o2 en.n2 o1 en.n1)) λ_ _ _ _ _ _=>gr λ_ _ _=>rfl;have a1O:ai l.prog w K mg base 1 "is_name" ["word"] zq:=s_ O8 X G (λ_ _ F=>qQ_ F T vv vw) λ_ _ _ _ _ _=>dP λ_=>rfl;have a1P:ai l.prog w K mg base 3 "fits" ["thing","word"] zt:=s_ O9 X G (λ_ _ F=>qT_ F ⟨_,a3n X G gM,pi_ lM sM zM⟩ Gb PN) λ_ _ _ _ _ _=>cq λ_ _=>rfl;have PU:ai l.prog w K mg base 4 "is_row" ["words"] vc:=s_ Pa X G (λ_ _ F=>oE_ F T ⟨_,a3n X G gR,ph_ lR sR zR (.cons (nj x0) (.cons (tp2 x1) (.cons (EW x2) (.cons (EW x3) (.cons (nj x4) (.cons (nj x5) (.cons (nj x6) (.cons (nj x7) (.cons (nj x8) (.cons (nj x9) (.cons (nj F7) (.cons (EW F8) .nil))))))))))))⟩ a1O a1P) λ_ _ _ _ _ _=>dP λ_=>rfl;have PV:ai l.prog w K mg base 1 "words_of" ["row"] uZ:=s_ Pb X G (λ_ _ F=>sN_ F) λ_ _ _ _ _ _=>dP λ_=>rfl;have a1Q:ci l.prog w K mg base 5 "read_row" ["row"] (cO zE (zF c9)):=gS Pc X G (λ_ _ F=>(ki_ F T im PV PU).up.or (ia_ F T im PV PU o9 en.n9)) λ_ _ _ _ _ _=>dP λ_=>rfl;have a1R:ai l.prog w K mg base 1 "number_or_none" ["number"] zy:=s_ Pd X G (λ_ _ F=>sQ_ F im) λ_ _ _ _ _ _=>dP λ_=>rfl;have a1S:ci l.prog w K mg base 14 "answer_with_number" ["frame","word","number"] (zH c1):=gS Pe X G (λ_ _ F=>qW_ F im a1R a1J a1F a1D a1G a1H a1m a1z PD) λ_ _ _ _ _ _=>gr λ_ _ _=>rfl;have a1T:ci l.prog w K mg base 15 "answer" ["frame","words"] (zJ c1):=gS Pf X G (λ_ _ F=>sV_ F T im a1K a1q a1S) λ_ _ _ _ _ _=>cq λ_ _=>rfl;have PY:iX l.prog w K mg base 16 C "say" ["self","row"] (d7 C (cs [c0,c1,c2,c3,c4,c5,c6,c7,c8,c9])):=oK_ Fd (λ_ _ F=>sO_ (c:=(cs [c0,c1,c2,c3,c4,c5,c6,c7,c8,c9])) F T cl nS o8 en.n8 a1Q a1M a1N a1T) λ_ _ _ _ _ _=>cq λ_ _=>rfl;have a1U:zi l.prog w K mg base 1 "Desk" C ["self"] (zK C):=rJ_ Fe Fc kC (a3n X G aC) (λ_ _ F=>oF_ F cl nS) λ_ _ _ _ _ _=>dP λ_=>rfl;have a1V:lK l.prog w K mg base 1 C "names" ["self"] (kr C):=ri_ Ff (λ_ _ F=>oC_ F cl nS mF) λ_ _ _ _ _ _=>dP λ_=>rfl;have a1W:ai l.prog w K mg base 1 "_law_cell" ["script","k"] (oG K):=s_ Pg X G (λ_ _ F=>Vq F T) λ_ _ _ _ _ _=>cq λ_ _=>rfl;have a1X:ai l.prog w K mg base 17 "_law_said" ["desk","row"] (lN C (cs [c0,c1,c2,c3,c4,c5,c6,c7,c8,c9])):=s_ Ph X G (λ_ _ F=>qO_ (c:=(cs [c0,c1,c2,c3,c4,c5,c6,c7,c8,c9])) F T en (a3n X G eB) (λi h=>match i,h with | _,.inl rfl=>u8 | _,.inr (.inl rfl)=>u1 | _,.inr (.inr (.inl rfl))=>u2 | _,.inr (.inr (.inr (.inl rfl)))=>u9 | _,.inr (.inr (.inr (.inr rfl)))=>u7) (λi h=>match i,h with | _,.inl rfl=>y8 | _,.inr (.inl rfl)=>y1 | _,.inr (.inr (.inl rfl))=>y2 | _,.inr (.inr (.inr (.inl rfl)))=>y9 | _,.inr (.inr (.inr (.inr rfl)))=>y7) cl PY) λ_ _ _ _ _ _=>cq λ_ _=>rfl;have a1Y:ai l.prog w K mg base 1 "_law_none" [] vk:=s_ Pi X G (λ_ _ F=>qP_ F) λ_ _ _ _ _ _=>E1 Z;have a1Z:ai l.prog w K mg base 1 "_law_others" [] vm:=s_ Pj X G (λ_ _ F=>mp_ F) λ_ _ _ _ _ _=>E1 Z;have a2a:ai l.prog w K mg base 1 "_law_spoilt" ["cell"] pO:=s_ Pk X G (λ_ _ F=>mo_ F T) λ_ _ _ _ _ _=>dP λ_=>rfl;show sS_ (c:=(cs [c0,c1,c2,c3,c4,c5,c6,c7,c8,c9])) F T il cl a1U PY a1V a1X a1W a2a a1Y a1Z
def walk{l:PySem.W.OpenLaw}{XP:(Str->Option Value)->Heap->Prop}{K:Params->PySem.W.Frag}(hn:l.most=some 63)(sw:d.params.defaults=[]) (hY:∀ w   h ,YP w h->(K w.params).In h) (F:∀ w   mg   fa   h ,(K w.params).In h->h.Ns mainGlobals mg->mg d.name=some (.ref fa)-> ∃fd:FuncData,(∀ s   u ,BindsTo s fd ⟨[u],[]⟩ [("script",u)])/\∀base:Heap,(K w.params).In base->base.Ns mainGlobals mg->av l.prog w (K w.params) mg base aE 18 fa fd ["script"] (uF (K w.params))) : PySem.W.WalkO q qe XP YP l.row.toRowW d [] (λf vs=>PySem.call f vs) := L2.RX (n:=63) (k:=18) (x:="script") (CX:=λ_=>aE) (sp:=λw=>uF (K w.params)) hn (by decide) sw ⟨Z,by decide,by decide,Z⟩ hY F (λ_ _ a ns hl _ hS=>⟨a,ns,Z,hS,hl,λ_=>rfl⟩) λ_ _ _ _ _ z=>z
end Hv
open PySem PySem.W PyProof.Rows
namespace PySem.W.Fast
def tw5488073721677561436:=0
def tw16011101152878197948:=0
def tw1249299108471115143:=0
def tw9183217358002881126:=0
def tw9257633322549633564:=0
def tw11154908997448927694:=0
def tw348553029295521396:=0
def tw10226498173149608563:=0
def tw3814310723506674497:=0
def tw8784818471672046392:=0
def tw18067236231566349512:=0
def tw6002182532994818739:=0
def tw4712796816506420222:=0
def tw3612120325168502394:=0
def tw11567917615724517445:=0
def tw13305577789066916752:=0
def tw10115338112814308894:=0
def tw15600545749684407097:=0
def tw12004892855729676232:=0
def tw7301446929236371320:=0
def tw10166238253440479465:=0
def tw1695232529627885665:=0
def tw5917808256384681177:=0
def tw10804115100768795181:=0
def tw11659638895585022110:=0
def tw6705909332495379893:=0
def tw11417604212988933491:=0
def tw855890594665975579:=0
def tw7390539634511150866:=0
def tw6135052283621616081:=0
def tw15775684004389655814:=0
def tw15442512074616909038:=0
def tw8903246844677911840:=0
def tw16776716987678836146:=0
def tw885657491984012667:=0
def tw2715380814832957503:=0
def tw11575590521720338483:=0
def tw6881986601272420611:=0
def tw4254476333443901516:=0
def tw12908213334347581808:=0
def tw11127307455204118526:=0
def tw5971889380867918234:=0
def tw13408996085135661660:=0
def tw16279998244541814440:=0
def tw13556507544844070474:=0
def tw1232403470988472956:=0
def tw7321966042367929914:=0
def tw4713980995350079187:=0
def tw8741297561880515322:=0
def tw9999590673658359985:=0
def tw6035062441627256905:=0
def tw14519949211693189168:=0
def tw3208480432220566805:=0
def tw18183236775580512821:=0
def tw12395578567385397714:=0
def tw6197388044775459220:=0
def tw6850131851174889512:=0
def tw3885910398237938565:=0
def tw12995482979331321794:=0
def tw1105297164608866374:=0
def tw9202155658109682386:=0
def tw1388340962784572726:=0
def tw11168587404537898518:=0
def tw3825984654440350513:=0
def tw60516717927514914:=0
def tw15859935108799987392:=0
def tw17669683110530397275:=0
def tw7415179752971209828:=0
def tw529460044618377855:=0
def tw10058662129045636077:=0
def tw13231372434811245162:=0
def tw6347574793136356472:=0
def tw15273066969650649280:=0
def tw13224872144479156816:=0
def tw1520709337087036459:=0
def tw6835909287908676051:=0
def tw12199174810453515755:=0
def tw18066510428157273294:=0
def tw14781035217425115884:=0
def tw8648823683523642812:=0
def tw9498871429436846614:=0
def tw15467451495456634149:=0
def tw18146609062157438293:=0
def tw12187710720871111078:=0
def tw10128651811624983965:=0
def tw15323639790340265483:=0
def tw14933039426771392084:=0
def tw1420574354239012866:=0
def tw2767766429641181890:=0
def tw887960825427775433:=0
def tw5101579927591577523:=0
def tw13452749000975082606:=0
def tw11373577518966907425:=0
def tw790085437229093104:=0
def tw6008651679661065095:=0
def tw8776140779699330704:=0
def tw10542624694063767424:=0
def tw5723918042774159304:=0
def tw17835428571228885530:=0
def tw9898230133556085806:=0
def tw13925157277705086675:=0
def tw14465120721414339359:=0
def tw9840183604165502976:=0
def tw17444243640590339468:=0
def tw740527148502036501:=0
def tw18049208839359277893:=0
def tw17057363638946458473:=0
def tw17062815296619462687:=0
def tw227711393538491610:=0
def tw2158519339692515190:=0
def tw17057801622252941589:=0
def tw12696016483253566400:=0
def tw15467802120885283262:=0
def tw10102479837505385379:=0
def tw2465849447332242477:=0
def tw16055248795294048628:=0
def tw3045165953723827223:=0
def tw117969359532452640:=0
def tw440704507256160073:=0
def tw7107930672580297463:=0
def tw10514642798188985267:=0
def tw15388556543972080014:=0
def tw15935896400648449792:=0
def tw18126024837031593140:=0
def tw11736459483806428333:=0
def tw7146053471763050847:=0
def tw3667418116421399212:=0
def tw12523456738030859581:=0
def tw6812020582827515198:=0
def tw9767939505247542907:=0
def tw8955299969024443863:=0
def tw11413594513453998590:=0
def tw11839910172140106617:=0
def tw18011156866858904921:=0
def tw6783738084936706245:=0
def tw9611732876130238165:=0
def tw12137073486035443201:=0
def tw10977577132894035167:=0
def tw8784596514629057576:=0
def tw5128170598474383466:=0
def tw3772244826765531997:=0
def tw1899106812250233688:=0
def tw7506511759761214747:=0
def tw14616261050823567775:=0
def tw7237303563279597267:=0
def tw13151950032721065586:=0
def tw1359449735608730098:=0
def tw913356820204021070:=0
def tw14796561251994131367:=0
def tw4149744478587410847:=0
def tw14763671284212587598:=0
def tw11283674198502611853:=0
def tw11538847872823846078:=0
def tw9437399366106881220:=0
def tw13399267385630352972:=0
def tw8052353277050768097:=0
def tw14093183626561247306:=0
def tw16200996064879908292:=0
def tw7578533027173986891:=0
def tw12404834354771176074:=0
def tw13735204014868470302:=0
def tw11193225977759392945:=0
def tw4107727812006517568:=0
def tw281272476074195831:=0
def tw13068687932629002215:=0
def tw11091941545064295419:=0
def tw16240788979197052179:=0
def tw18389697631698704671:=0
def tw14359357386503426533:=0
def tw4840144118300421638:=0
def tw4375901634595384014:=0
def tw13273546099002959059:=0
def tw1596154633301235428:=0
def tw17714403075222946574:=0
def tw7789787794524330160:=0
def tw12092315570061061370:=0
def tw8291861081254603627:=0
def tw4683960692578269307:=0
def tw4941832646327281967:=0
def tw2150673959553712016:=0
def tw10791477011485447345:=0
def tw2629228438749329003:=0
def tw5844918117201440709:=0
def tw8089291606378856727:=0
def tw2551478733768783601:=0
def tw17985114416130661585:=0
def tw2982384890353878464:=0
def tw8244047212931242319:=0
def tw13058859159768249806:=0
def tw11879035474396050712:=0
def tw11665360808169226014:=0
def tw10071195093841891633:=0
def tw6294736986510055253:=0
def tw15545113225359827397:=0
def tw9753993923355490143:=0
def tw15358662732695948417:=0
def tw18200366295686950215:=0
def tw795229220125063130:=0
def tw10219427276766709314:=0
def tw157635996328973777:=0
def tw12844616302149645253:=0
def tw14788770031469286658:=0
def tw7655059110400174473:=0
def tw1567485388390248856:=0
def tw13405587266136948171:=0
def tw9652319880073154053:=0
def tw9069738734535541379:=0
def tw1497789759925942978:=0
def tw12407020322884934818:=0
def tw11701778410403066288:=0
def tw883957190485840078:=0
def tw381626044454284158:=0
def tw14583792751786326156:=0
def tw15375016552466063179:=0
def tw18078898035197582989:=0
def tw11432761497620692988:=0
def tw1809707777531423769:=0
def tw7995372881623732310:=0
def tw3071069777921686944:=0
def tw8750064794494973739:=0
def tw18038994525151531976:=0
def tw10444061384690158134:=0
def tw14729089823646867897:=0
def tw4265139216484929770:=0
def tw12732928667808982261:=0
def tw11503121992912707332:=0
def tw2711529349889876207:=0
def tw18427672920711378748:=0
def tw11056527674788738115:=0
def tw13422882418486928726:=0
def tw5572637758484663647:=0
def tw3063367968876745132:=0
def tw16304195032926310149:=0
def tw14434938345585388031:=0
def tw13188535460302845474:=0
def tw7820379643997086608:=0
def tw3874109874397624692:=0
def tw14223786735918156769:=0
def tw9600586497183486629:=0
def tw14998571451590126798:=0
def tw9402346451682115994:=0
def tw426202487942556476:=0
def tw1372955034367582650:=0
def tw15782660086086007283:=0
def tw2901944331542915227:=0
def tw16513745128460280888:=0
def tw11129756205074989631:=0
def tw10097605909700887208:=0
def tw16348056520339783029:=0
def tw7645860727818814110:=0
def tw4761186718897559126:=0
def tw13881460626966568099:=0
def tw3273313369717647924:=0
def tw7826787339485222969:=0
def tw18002595775108249397:=0
def tw1613236139561492564:=0
def tw12570133463354767515:=0
def tw12940002351040276954:=0
def tw12225675126668205761:=0
def tw5436765315094906426:=0
def tw5647460294237218976:=0
def tw2129700419103378524:=0
def tw12228255572884795316:=0
def tw5452682082189080974:=0
def tw12224951510756145702:=0
def tw1249983825633302818:=0
def tw215189761830645547:=0
def tw355843655959996592:=0
def tw8114361762317512097:=0
def tw12473235133564240990:=0
def tw7135153630165864728:=0
def tw11823944675550032038:=0
def tw13898737416673516473:=0
def tw8612846912109657875:=0
def tw12191864373945822253:=0
def tw5531394994551339237:=0
def tw3705919932740779348:=0
def tw3626143561451386846:=0
def tw9694023286115081017:=0
def tw9660405773970615620:=0
def tw14607709120909647625:=0
def tw3372840507081494584:=0
def tw6569788167049961916:=0
def tw3031303032336146638:=0
def tw17648606931945498209:=0
def tw4416960139531969108:=0
def tw92683880613432362:=0
def tw7469078374390565461:=0
def tw4740276680233741363:=0
def tw8508061735676583031:=0
def tw16575950352469505322:=0
def tw2602230274739751114:=0
def tw14871199242899303099:=0
def tw12236570900002975902:=0
def tw14326138353380350428:=0
def tw11329071958540958930:=0
def tw10442797538980142483:=0
def tw1922542926933339485:=0
def tw9339205524039826776:=0
def tw6620999795318271339:=0
def tw15618377539355415399:=0
def tw10996328977296247634:=0
def tw13276515303379664178:=0
def tw11227555704282441052:=0
def tw1580064513207035103:=0
def tw10697339260673108299:=0
def tw16289721273819786887:=0
def tw7260438355151870797:=0
def tw12029661163899936973:=0
def tw14285745869641450051:=0
def tw1594023835434477678:=0
def tw2317536732208158438:=0
def tw11799826342699922158:=0
def tw3486731171062269109:=0
def tw6730903191523002460:=0
def tw5724062484279096526:=0
def tw12820416298782455735:=0
def tw4867836689382698724:=0
def tw1113236240154651674:=0
def tw14511602970248900934:=0
def tw7956585551097441023:=0
def tw7588927346995946459:=0
def tw1041332825136730308:=0
def tw1594824044828673720:=0
def tw474238277707192357:=0
def tw5126821448883717640:=0
def tw2157683894101907034:=0
def tw18106215899696343830:=0
def tw1990106828267419657:=0
def tw13117677532262046691:=0
def tw5593439182065602482:=0
def tw6991472535949454337:=0
def tw15949471592907081769:=0
def tw13137567276820692511:=0
def tw13832882152357309749:=0
def tw12760272774690815098:=0
def tw11663717468111027502:=0
def tw4026148624172768320:=0
def tw2146345513782381024:=0
def tw899617423805479806:=0
def tw12738846597942849369:=0
def tw16188880441679378836:=0
def tw14351048103894215081:=0
def tw18316801327311008531:=0
def tw1359399631638249003:=0
def tw14578533440711001845:=0
def tw3012634132682476330:=0
def tw10250086905883546674:=0
def tw6661255529994371529:=0
def tw6634778308289318977:=0
def tw58604524791102721:=0
def tw8973242909354851485:=0
def tw6287932826164796398:=0
def tw5381304813874031965:=0
def tw5736580650185478271:=0
def tw17334440481030962223:=0
def tw5011175845724475971:=0
def tw15739673090068605115:=0
def tw12095964483107138489:=0
def tw10423710442909433260:=0
def tw9866616238102977256:=0
def tw3634427907833269400:=0
def tw7978270503536056240:=0
def tw1840948169946509997:=0
def tw16550931936954135500:=0
def tw9653679081629449369:=0
def tw4130080838685740346:=0
def tw5129724313004647008:=0
def tw5236418062643970019:=0
def tw6486693596586423613:=0
def tw5728882506957925207:=0
def tw12923144061310776715:=0
def tw6388989448804259869:=0
def tw8938316930008031736:=0
def tw15964795084219613968:=0
def tw13634769807603338548:=0
def tw9635303360873171276:=0
def tw11759664132701199133:=0
def tw2594583896989034653:=0
def tw5151020173687749706:=0
def tw18208995949700805274:=0
def tw5486022325537776802:=0
def tw11061814132574392813:=0
def tw5855361864112858042:=0
def tw8425943446714839161:=0
def tw521011725145278733:=0
def tw14218218793550580567:=0
def tw9931244972069629907:=0
def tw17983749230787959833:=0
def tw7391851324346576844:=0
def tw10501938655706966878:=0
def tw10944922112547998469:=0
def tw13587000604095725346:=0
def tw10355424805641955110:=0
def tw4141447503868567457:=0
def tw1845399399928371652:=0
def tw15473989740654787974:=0
def tw11674053876037781412:=0
def tw18048688969334508096:=0
def tw5868935893512780006:=0
def tw9605794597251968143:=0
def tw735689790904019889:=0
def tw3687983256984154851:=0
def tw17073179855286897694:=0
def tw10308028394632963717:=0
def tw12831446735888104414:=0
def tw2726412363153250321:=0
def tw12290466412127931423:=0
def tw15468763015855843570:=0
def tw15260062928806823227:=0
def tw9763502462501132439:=0
def tw14361260462256187364:=0
def tw936429968356954990:=0
def tw17473819160137526240:=0
def tw581452030103478672:=0
def tw17637993971816058816:=0
def tw15396788930408665412:=0
def tw15079939400441666217:=0
def tw10588245851458885023:=0
def tw2937334205150020120:=0
def tw10122143702980521931:=0
def tw10711499289353787563:=0
def tw356437406668874279:=0
def tw17109516368104468167:=0
def tw17070584517647834672:=0
def tw16804092844448443708:=0
def tw2920408493094482732:=0
def tw15087729868327516290:=0
def tw8124044523466216171:=0
def tw3420224337944841021:=0
def tw16108819435577890422:=0
def tw1109291149058433552:=0
def tw13034488765476741253:=0
def tw10074126011744731398:=0
def tw2318690570243964506:=0
def tw12352265588796766531:=0
def tw4276897909885338733:=0
def tw7710556767101518723:=0
def tw1446712817617163115:=0
def tw7847971079285912071:=0
def tw14778251164632181423:=0
def tw11005209104649445357:=0
def tw10062155454996522035:=0
def tw1261627659913118355:=0
def tw13886646039944614506:=0
def tw5236350518786610705:=0
def tw16969244515500491722:=0
def tw16749071646116565911:=0
def tw945913675126573278:=0
def tw14750550679340157160:=0
def tw15913242227170245957:=0
def tw10962642659135066005:=0
def tw14196955337664203868:=0
def tw15289555022540794187:=0
def tw16865203567988068329:=0
def tw16582007502402200456:=0
def tw17135452858629007509:=0
def tw8851495286910300725:=0
def tw14113296940962019681:=0
def tw6240439625155862049:=0
def tw6890243140517456833:=0
def tw9739152975948121477:=0
def tw2330486677123758255:=0
def tw14312241698643773180:=0
def tw17805717537922100911:=0
def tw11039888405743083538:=0
def tw4851001450455572600:=0
def tw8498821480439169470:=0
def tw10506193534708994880:=0
def tw2640633503460900435:=0
def tw4811631808019417988:=0
def tw10504319336856760519:=0
def tw14722854415111557286:=0
def tw7812712918278890785:=0
def tw15285957392227050383:=0
def tw1548010310654602049:=0
def tw14709986832213462341:=0
def tw3449917502014038924:=0
def tw3260753477277666651:=0
def tw13791740584791694897:=0
def tw2287202971278430570:=0
def tw3026932466702719635:=0
def tw8992850754826020388:=0
def tw11010818066641427427:=0
def tw9022142640184472346:=0
def tw14780257641201401369:=0
def tw13508667319892634146:=0
def tw17221587214088979099:=0
def tw9341489925204633523:=0
def tw12498376214715798565:=0
def tw11866227947610146912:=0
def tw6231450197702481340:=0
def tw14266834869225402828:=0
def tw3706879156363995992:=0
def tw15463761314323897804:=0
def tw17155149118477893402:=0
def tw7315917524099353211:=0
def tw5118108144455163315:=0
def tw6290319789252208938:=0
def tw17718183167658446585:=0
def tw8556140205752512568:=0
def tw18210362285413537726:=0
def tw10148715758342108860:=0
def tw9174100803265246719:=0
def tw8254185764929599403:=0
def tw8947909066850334518:=0
def tw4213967129625377836:=0
def tw16360720594335733450:=0
def tw12588031506251182698:=0
def tw9138239071066731488:=0
def tw3123797444403510310:=0
def tw5478634434018422333:=0
def tw11386793758529985474:=0
def tw5226797396118275065:=0
def tw2577682585246463850:=0
def tw381852197207515261:=0
def tw15289468267614171992:=0
def tw2191502596554364170:=0
def tw7520216882949249188:=0
def tw12620594390222440092:=0
def tw13526361549431634199:=0
def tw3001146916338658948:=0
def tw11482371010129313200:=0
def tw22802952281043198:=0
def tw4302545046145091390:=0
def tw4151427063643247280:=0
def tw6071979556840508580:=0
def tw3489933189488704421:=0
def tw14927613378656465829:=0
def tw16442755092318424984:=0
def tw12759764877575175190:=0
def tw14987534828066044616:=0
def tw1633729275557542996:=0
def tw828327309498116127:=0
def tw2690611058992154947:=0
def tw12704505227283260662:=0
def tw14270871968563331131:=0
def tw11268862098462830238:=0
def tw17738009635507610180:=0
def tw602166919213446761:=0
def tw11858592941462299309:=0
def tw13461293184894452059:=0
def tw6764267105933522955:=0
def tw18311244925626315468:=0
def tw14914781071531236001:=0
def tw10296210101526855471:=0
def tw5339699683485367484:=0
def tw6797754865579705677:=0
def tw12662205538379043094:=0
def tw9724012997513194966:=0
def tw16740908936030892433:=0
def tw3152888314105161519:=0
def tw6555337483592937725:=0
def tw4424404064613713861:=0
def tw15792236706864057403:=0
def tw12619211675140656106:=0
def tw11205168043424972528:=0
def tw6275269018682799698:=0
def tw4431353159130542813:=0
def tw18025260320305765670:=0
def tw7962733049475815308:=0
def tw17454486377659565384:=0
def tw16000676335961241096:=0
def tw7733484636620182844:=0
def tw16056771361517739037:=0
def tw11746058226710030500:=0
def tw17459506005349627961:=0
def tw841667015022104380:=0
def tw7427816737868622133:=0
def tw9219848874195184498:=0
def tw12356734453368748356:=0
def tw18140539821524424306:=0
def tw6237402255389272876:=0
def tw262785408441179810:=0
def tw15125349777981839470:=0
def tw7378519766501666768:=0
def tw84766658952862442:=0
def tw16605663142518092597:=0
def tw12201181388704550737:=0
def tw9577541532174334259:=0
def tw10019802340658895524:=0
def tw5746269026834897762:=0
def tw5146800989122465761:=0
def tw6655492705982319127:=0
def tw2685463615105578484:=0
def tw4847786454286260583:=0
def tw11548632177992472023:=0
def tw15077943008302782913:=0
def tw6604682856665477560:=0
end PySem.W.Fast
set_option maxRecDepth 100000 in
set_option maxHeartbeats 0 in
theorem PySem.Challenge.cw_likehalves_k41_rows_that_are_none_holds : PySem.Challenge.rw_likehalves_k41_rows_that_are_none.Holds := by
 w_on;o_law;k_head;(case hw=>w_witness2);k_fill;refine Hv.walk (l := PySem.Challenge.rw_likehalves_k41_rows_that_are_none) rfl rfl (λw h Y => PySem.W.kIn_of Y) ?F
 case F =>
  intro w mg fa h KX G sA;refine' Hv.ul_ KX G sA ?t ?i0 ?i1 ?i2 ?i3 ?i4 ?i5 ?i6 ?i7 ?i8 ?i9 ?Oy ?ED ?i12 ?oR ?Oz ?OA ?OB ?OC ?OD ?OE ?E4 ?OF ?OG ?oS ?OH ?OI ?OJ ?OL ?OM ?ON ?OO ?OP ?E5 ?OQ ?OR ?OS ?E6 ?OT ?OU ?OV ?OW ?OX ?OY ?E7 ?OZ ?O0 ?O4 ?O5 ?O6 ?O7 ?O8 ?O9 ?Pa ?Pb ?Pc ?Pd ?Pe ?Pf ?Pg ?Ph ?Pi ?Pj ?Pk ?aC ?E8 ?E9 ?Fa ?Fb ?Fc ?kC ?nS ?Fd ?Fe ?Ff ?eB ?e0 ?e1 ?e2 ?e3 ?e4 ?e5 ?e6 ?e7 ?e8 ?e9 ?tB ?mB ?q1 ?m1 ?l1 ?v1 ?Fg ?Fh ?Fi ?Fj ?Fk ?Fl ?Fm ?Fn ?Fo ?Fp ?q2 ?m2 ?l2 ?v2 ?Fq ?Fs ?Ft ?Fu ?Fv ?Fw ?Fx ?Fy ?Fz ?FA ?q7 ?m7 ?l7 ?v7 ?FB ?FC ?FD ?FE ?FF ?FG ?FH ?FI ?FJ ?FK ?q8 ?m8 ?l8 ?v8 ?FL ?FM ?FN ?FO ?FP ?FQ ?FR ?FS ?FT ?FU ?q9 ?m9 ?l9 ?v9 ?FV ?FW ?FX ?FY ?FZ ?F0 ?F3 ?F4 ?F5 ?F6 ?gR ?lR ?sR ?zR ?gM ?lM ?sM ?zM ?x0 ?x1 ?x2 ?x3 ?x4 ?x5 ?x6 ?x7 ?x8 ?x9 ?F7 ?F8 ?vt ?vv ?vw ?oJ ?mF ?im ?il ?vx ?jl;case aC=>k_is
  case E8=>k_is
  case E9=>k_is
  case Fa=>k_is
  case Fb=>k_is
  case Fc=>k_is
  case kC=>k_is
  case nS=>k_is
  case Fd =>
   refine' Hv.E3 ?a ?i ?l ?c ?k;(case a=>k_is);(case i=>k_is);(case l=>k_is);(case c=>k_is);(case k=>k_is)
  case Fe =>
   refine' Hv.E3 ?a ?i ?l ?c ?k;(case a=>k_is);(case i=>k_is);(case l=>k_is);(case c=>k_is);(case k=>k_is)
  case Ff =>
   refine' Hv.E3 ?a ?i ?l ?c ?k;(case a=>k_is);(case i=>k_is);(case l=>k_is);(case c=>k_is);(case k=>k_is)
  case eB=>k_is
  case e0=>k_is
  case e1=>k_is
  case e2=>k_is
  case e3=>k_is
  case e4=>k_is
  case e5=>k_is
  case e6=>k_is
  case e7=>k_is
  case e8=>k_is
  case e9=>k_is
  case tB=>k_is
  case mB=>k_is
  case q1=>kernel_rfl
  case m1=>k_is
  case l1=>exact⟨by k_is,by k_is,by kernel_rfl,by k_is,by k_is⟩
  case v1=>kernel_rfl
  case Fg=>kernel_rfl
  case Fh=>kernel_rfl
  case Fi=>kernel_rfl
  case Fj=>kernel_rfl
  case Fk=>kernel_rfl
  case Fl=>kernel_rfl
  case Fm=>kernel_rfl
  case Fn=>kernel_rfl
  case Fo=>kernel_rfl
  case Fp=>kernel_rfl
  case q2=>kernel_rfl
  case m2=>k_is
  case l2=>exact⟨by k_is,by k_is,by kernel_rfl,by k_is,by k_is⟩
  case v2=>kernel_rfl
  case Fq=>kernel_rfl
  case Fs=>kernel_rfl
  case Ft=>kernel_rfl
  case Fu=>kernel_rfl
  case Fv=>kernel_rfl
  case Fw=>kernel_rfl
  case Fx=>kernel_rfl
  case Fy=>kernel_rfl
  case Fz=>kernel_rfl
  case FA=>kernel_rfl
  case q7=>kernel_rfl
  case m7=>k_is
  case l7=>exact⟨by k_is,by k_is,by kernel_rfl,by k_is,by k_is⟩
  case v7=>kernel_rfl
  case FB=>kernel_rfl
  case FC=>kernel_rfl
  case FD=>kernel_rfl
  case FE=>kernel_rfl
  case FF=>kernel_rfl
  case FG=>kernel_rfl
  case FH=>kernel_rfl
  case FI=>kernel_rfl
  case FJ=>kernel_rfl
  case FK=>kernel_rfl
  case q8=>kernel_rfl
  case m8=>k_is
  case l8=>exact⟨by k_is,by k_is,by kernel_rfl,by k_is,by k_is⟩
  case v8=>kernel_rfl
  case FL=>kernel_rfl
  case FM=>kernel_rfl
  case FN=>kernel_rfl
  case FO=>kernel_rfl
  case FP=>kernel_rfl
  case FQ=>kernel_rfl
  case FR=>kernel_rfl
  case FS=>kernel_rfl
  case FT=>kernel_rfl
  case FU=>kernel_rfl
  case q9=>kernel_rfl
  case m9=>k_is
  case l9=>exact⟨by k_is,by k_is,by kernel_rfl,by k_is,by k_is⟩
  case v9=>kernel_rfl
  case FV=>kernel_rfl
  case FW=>kernel_rfl
  case FX=>kernel_rfl
  case FY=>kernel_rfl
  case FZ=>kernel_rfl
  case F0=>kernel_rfl
  case F3=>kernel_rfl
  case F4=>kernel_rfl
  case F5=>kernel_rfl
  case F6=>kernel_rfl
  case gR=>k_is
  case lR=>k_is
  case sR=>decide
  case zR=>rfl
  case gM=>k_is
  case lM=>k_is
  case sM=>decide
  case zM=>rfl
  case x0=>k_is
  case x1=>k_is
  case x2=>k_is
  case x3=>k_is
  case x4=>k_is
  case x5=>k_is
  case x6=>k_is
  case x7=>k_is
  case x8=>k_is
  case x9=>k_is
  case F7=>k_is
  case F8=>k_is
  case vt=>exact⟨_,by k_is⟩
  case vv=>exact⟨_,by k_is⟩
  case vw=>exact⟨_,by k_is⟩
  case oJ=>k_is
  case mF=>k_is
  case im=>k_is
  case il=>k_is
  case vx=>k_is
  case t=>refine⟨?_,?_,?_,?_,?_,?_,?_,?_,?_,?_,?_,?_,?_,?_⟩ <;> k_is
  all_goals
   refine' Hv.vg_ ?a ?l ?c ?k;(case a=>k_is);(case l=>k_is);(case c=>k_is);(case k=>k_is)
#print axioms PySem.Challenge.cw_likehalves_k41_rows_that_are_none_holds
