import PyProof.Rows.All
import Wide.All
import OpenK.AllK
import Wide.FinOn
import Lean
import PyProof.EqAt
import PyProof.EqKinds
import PyProof.TupleCall
import PySem.Challenge.RW_twomarks_k38_no_mean
set_option Elab.async false
set_option linter.all false
set_option maxRecDepth 100000
set_option maxHeartbeats 0
abbrev My.vw : PySem.Program := PySem.W.view
 PySem.Challenge.rw_twomarks_k38_no_mean.row.prog [1, 2, 3, 4, 5, 6, 7, 8, 9, 11, 12, 14, 15, 16, 17, 18, 19, 20, 21, 22, 23, 24, 25, 26, 28, 29, 30, 31, 33, 34, 35, 37, 38, 39, 41, 42, 44, 45, 46, 47, 48, 49, 50, 51, 53, 55, 56, 57, 58, 60, 61, 62, 63, 64, 65, 66, 67]
open PySem PySem.W in
theorem My.hd_s {p:Program} {N:Nat} {α β:Type} {S:Shared->α×β} {G:α×β} (a:∀ w,(openEnds treeTable p w N).map (λs=>(S s).1)=some G.1) (b:∀ w,(openEnds treeTable p w N).map (λs=>(S s).2)=some G.2):∀ w,(openEnds treeTable p w N).map S=some G:=λw=>by
 have h:=a w
 have g:=b w
 cases e:openEnds treeTable p w N with
 | none=>rw [e] at h;exact nomatch h
 | some s=>rw [e,Option.map_some] at h g;rw [Option.map_some];exact congrArg some (Prod.ext (Option.some.inj h) (Option.some.inj g))
open PySem PySem.W in
theorem My.hd_l {p q:Program} {loose:List Str} {Xt:Shared->Bool} {α:Type} {Yf:Shared->α} {Ya:World->α} {N:Nat} (a:∀ w,(openEnds treeTable p w N).map (λs=>openSeen q loose (importedModules p.main.body) Xt true s)=some (openGood q loose)) (b:∀ w,(openEnds treeTable p w N).map Yf=some (Ya w)):LeftO p q loose Xt Yf Ya N:=λw=>by
 have h:=a w;have g:=b w;cases e:openEnds treeTable p w N with
 | none=>rw [e] at h;exact nomatch h
 | some s=>rw [e,Option.map_some] at h g;rw [Option.map_some,Option.some.inj h,Option.some.inj g]
theorem My.hd_b {A B C H:Prop} (f:A->B->C->H) (p:A∧B∧C):H:=f p.1 p.2.1 p.2.2
local macro_rules
 | `(tactic| o_head $H:term) => `(tactic| (
  refine My.hd_b (λa b c => PySem.W.holds_open (q := My.vw) (loose := [])
   (Xt := λs => PySem.W.xlAt My.vw [] s && PySem.W.recOk
    (PySem.W.RowW.records PySem.Challenge.rw_twomarks_k38_no_mean.row.toRowW) s)
   (XP := PySem.W.XL My.vw []) (Yf := ($H).obs)
   (Ya := ($H).val) (YP := ($H).says) (N := 20000) (My.hd_l a b)
   ($H).of ($H).keeps (λs e => PySem.W.xl_of s
    (Bool.and_eq_true_iff.mp e).1) PySem.W.XL.keeps
   (by rfl) (by rfl) (by rfl)
   (λs e => PySem.W.recFacts_of
    (Bool.and_eq_true_iff.mp e).2)
   (by rfl) ?k1 (by decide +kernel)
   ⟨rfl, rfl, rfl, rfl, rfl, by decide +kernel⟩ ?hw c) ?hc
  (case k1 => assumption)))
open_top My.hd_0 for PySem.Challenge.rw_twomarks_k38_no_mean
noncomputable def My.hd_n:=λx0 x1 x2 x3 b c=>My.hd_0 ⟨(My.hd_s x0 (My.hd_s x1 (My.hd_s x2 x3))),b,c⟩
noncomputable def My.hd_n0:=λx1 x2 x3 b c=>My.hd_n (λw=>by kernel_rfl) x1 x2 x3 b c
noncomputable def My.hd_n1:=λx2 x3 b c=>My.hd_n0 (λw=>by kernel_rfl) x2 x3 b c
noncomputable def My.hd_n2:=λx3 b c=>My.hd_n1 (λw=>by kernel_rfl) x3 b c
noncomputable def My.hd_n3:=λb c=>My.hd_n2 (λw=>by kernel_rfl) b c
noncomputable def My.hd_1:=My.hd_n3
noncomputable def My.hd:=λc=>My.hd_1 (λw=>by kernel_rfl) c
set_option maxHeartbeats 4000000
open PySem PySem.Spec PyProof.Rows
def uN:=@PySem.Heap.get?_push_of_some
def uO:=@List.length_map
def uP:=@List.mem_cons_of_mem
def uQ:=@Nat.le_refl
def uR:=@List.getElem?_eq_some_iff
def uS:=@PySem.Heap.get?_push_size
def uT:=@List.getElem?_map
def uU:=@Nat.lt_of_lt_of_le
def uV:=@List.mem_cons
def uW:=@List.size_toArray
def uX:=@List.map_cons
def uY:=@PySem.Heap.lt_size
def uZ:=@List.length_cons
def u3:=@Bool.false_ne_true
def u4:=@List.mem_append_right
def u5:=@List.getElem?_set_ne
def u6:=@List.replicate_succ
def u7:=@List.getElem?_range
def u8:=@Nat.le_trans
def u9:=@Nat.ne_of_lt
def vc:=@Option.some.inj
def vd:=@List.getElem?_eq_getElem
def ve:=@Nat.lt_irrefl
def vf:=@List.getElem?_set_self
def vg:=@List.map_map
def vh:=@List.getElem?_eq_none
def vm:=@Bool.and_eq_true
def vn:=@List.getElem?_replicate
def vo:=@List.append_nil
def vp:=@List.getElem?_append_left
def vq:=@List.length_range
def vx:=@PySem.mem_of_lookup
def vz:=@Int.le_refl
def vA:=@List.getElem?_append_right
def vC:=@List.lookup_cons
def vD:=@PySem.Heap.size_push
def vE:=@List.length_replicate
def vF:=@List.length_append
def vG:=@List.flatten_cons
def vH:=@Int.toNat_natCast
def vI:=@PySem.PassesOwn.never
def vJ:=@PySem.W.kia_one
def vK:=@List.length_set
def vL:=@Int.le_of_lt
def vM:=@List.mem_cons_self
def vN:=@PySem.Heap.get?_update_other
def vO:=@Nat.ne_of_gt
def vP:=@List.map_congr_left
def vQ:=@List.mem_range
def vR:=@List.drop_eq_getElem_cons
def vS:=@PyProof.Rows.callWith_type1
def vT:=@List.filterMap_cons
def vU:=@PySem.W.mg_of
def vV:=@List.mem_append
def vW:=@List.map_append
def vX:=@Nat.pos_of_ne_zero
def vY:=@List.mem_of_getElem?
def vZ:=@PySem.F.plainAttrs_list
def v6:=@Int.mul_nonneg
def v7:=@List.ext_getElem?
def v8:=@PySem.Around.under_plainId
def v9:=@List.length_take
def wa:=@PySem.F.slot_int_rmul
def wb:=@Int.emod_lt_of_pos
def wc:=@Bool.not_true
def we:=@Bool.false_eq_true
def wf:=@Nat.zero_le
def wj:=@Nat.mul_le_mul_right
def wk:=@PySem.F.type_list_append
def wl:=@PySem.F.slot_list_append
def wm:=@PyProof.Rows.slot_tuple_getitem
def wn:=@List.length_nil
def wo:=@PySem.Heap.get?_update_self
def wp:=@Int.mul_le_mul_of_nonneg_left
def wq:=@Nat.succ_mul
def wt:=@List.mem_map
def wu:=@Int.emod_nonneg
def wv:=@PySem.F.plain_min_loop
def ww:=@Nat.lt_succ_of_lt
def wx:=@List.sum_cons
def wy:=@List.append_assoc
def wz:=@Bool.not_eq_true'
def wA:=@PySem.Obj.data_mapFields
def wC:=@Int.mul_lt_mul_of_pos_left
def wD:=@List.mem_append_left
def wE:=@Nat.lt_succ_self
def wF:=@List.not_mem_nil
def wG:=@List.length_drop
def wH:=@List.cons_append
def wI:=@List.length_reverse
def wJ:=@Nat.le_of_lt
def wK:=@List.map_nil
def wL:=@PySem.F.slot_tuple_iterator_next
def wM:=@Nat.lt_of_le_of_lt
def wN:=@List.zip_cons_cons
def wO:=@List.length_zip
def wP:=@List.find?_cons
def wQ:=@List.contains_cons
def wR:=@PySem.Heap.SameBut.update
def wS:=@PySem.PyData.hasDict_of_canLay
def wT:=@Nat.le_of_not_lt
def wU:=@List.getElem_mem
def wV:=@PySem.SeqAt.canLay_of_shaped
def wW:=@List.range_succ
def wX:=@List.nil_append
def wY:=@List.length_pos_iff
def wZ:=@Int.mul_pos
def w6:=@Bool.eq_iff_iff
def w8:=@PySem.W.callWith_K
def xa:=@Nat.lt_or_eq_of_le
def xb:=@List.mem_filterMap
def xf:=@Int.mul_zero
def xg:=@Int.le_of_eq
def xh:=@Array.append_assoc
def xi:=@Int.lt_of_mul_lt_mul_left
def xj:=@Classical.byContradiction
def xk:=@PySem.F.args_tuple_mul_2
def xl:=@Nat.le_of_succ_le
def xm:=@List.reverse_cons
def xn:=@List.isEmpty_cons
def xo:=@PySem.F.entry_tuple_mul
def xp:=@PySem.F.args_int_rmul_2
def xq:=@List.getElem?_cons_succ
def xr:=@Int.eq_ofNat_of_zero_le
def xt:=@PySem.Calls.Name_function_global
def xu:=@Option.getD_some
def xv:=@List.drop_length
def xw:=@PySem.F.slot_tuple_mul
def xx:=@PySem.F.entry_int_rmul
def xz:=@Option.map_eq_some_iff
def xA:=@PySem.F.fills_int_mul
def xB:=@Nat.min_eq_left
def xC:=@Nat.add_comm
def xD:=@List.take_append_drop
def xE:=@List.nodup_cons
def xF:=@List.getElem?_reverse
def xG:=@List.forIn_cons
def xH:=@List.forIn_nil
def xI:=@Bool.not_false
def xJ:=@List.getElem_of_mem
def xK:=@Function.comp_apply
def xL:=@Array.length_toList
def xM:=@PySem.Obj.isFreed_of_fields
def xN:=@PySem.F.typeOf_object_class
def xO:=@PySem.F.slot_zip_next
def xP:=@PySem.F.attrBase_ValueError
def xQ:=@PySem.W.kitx_dict
def xR:=@PySem.F.args_object_init_2
def xS:=@Nat.min_le_right
def xT:=@List.take_length
def xU:=@PySem.Paired.length
def xV:=@Option.map_some
def xW:=@List.of_mem_zip
def xX:=@List.foldl_cons
def xY:=@Int.one_mul
def xZ:=@Int.mul_one
def x6:=@Int.mul_eq_zero
def x8:=@Int.fmod_eq_emod_of_nonneg
def x9:=@Int.fdiv_eq_ediv_of_nonneg
def ya:=@Array.getElem?_eq_some_iff
def yb:=@Nat.mul_le_mul
def yc:=@List.getElem?_zip_eq_some
def ye:=@List.getElem?_eq_none_iff
def yf:=@PySem.F.args_tuple_add_2
def yg:=@List.eq_of_mem_replicate
def yh:=@Lean.Omega.Int.ofNat_min
def yi:=@Int.not_le
def yj:=@PySem.F.entry_tuple_add
def yk:=@List.any_cons
def yl:=@PySem.F.entry_min_loop
abbrev ym:=PySem.W.Frag
abbrev yv:=PyData->PyData->Option PyData
abbrev yw:=Value->Shared->Prop
abbrev yx:=List PyData
abbrev yy:=List Int
abbrev yz:=List Value
abbrev yA:=List Str
abbrev yC:=Str->Option Value
local macro_rules | `(tactic| trivial) => `(tactic| first | decide +kernel | exact ⟨rfl,rfl,rfl,by decide +kernel,rfl,by decide +kernel,by decide +kernel⟩ | exact ⟨rfl,by decide +kernel,by decide +kernel,by decide +kernel,by decide +kernel⟩ | fail "x")
namespace L2
abbrev aD:=Sum Int Str
noncomputable def jt:aD->Value->Bool
 | .inl k,v=>Value.isInt k v
 | .inr x,v=>Value.isStrOf x v
noncomputable def Zky (w:World):aD->Int
 | .inl k=>hashInt k
 | .inr x=>hashStr w x
theorem f9:∀ {k:aD} {v:Value},jt k v=true->(∃ i t,k=Sum.inl i/\v=Value.int i t)\/(∃ x t,k=Sum.inr x/\v=Value.str x t)
 | .inl i,v,h=>by
  obtain ⟨t,e⟩:=Value.isInt_shape (k:=i) (v:=v) h;exact .inl ⟨i,t,rfl,e⟩
 | .inr x,v,h=>by
  obtain ⟨t,e⟩:=Value.isStrOf_shape (x:=x) (v:=v) h;exact .inr ⟨x,t,rfl,e⟩
theorem Zkx (i:Int) (t:Tok):jt (.inl i) (.int i t)=true:=by simp [jt,Value.isInt]
theorem Zkw (x:Str) (t:Tok):jt (.inr x) (.str x t)=true:=by simp [jt,Value.isStrOf]
theorem Zkv (a b:Int):decide ((Sum.inl a:aD)=Sum.inl b)=(a == b):=by
 by_cases e:a=b
 ·subst e; simp
 ·have h:¬ (Sum.inl a:aD)=Sum.inl b:=λq=>e (Sum.inl.inj q);rw [decide_eq_false h];exact (beq_eq_false_iff_ne.mpr e).symm
theorem Zks (a b:Str):decide ((Sum.inr a:aD)=Sum.inr b)=decide (a=b):=by
 by_cases e:a=b
 ·subst e; simp
 ·have h:¬ (Sum.inr a:aD)=Sum.inr b:=λq=>e (Sum.inr.inj q);rw [decide_eq_false h,decide_eq_false e]
theorem Zku (a:Int) (b:Str):decide ((Sum.inl a:aD)=Sum.inr b)=false:=decide_eq_false (λq=>nomatch q)
theorem Zkt (a:Str) (b:Int):decide ((Sum.inr a:aD)=Sum.inl b)=false:=decide_eq_false (λq=>nomatch q)
noncomputable def de (prog:Program) (w:World):PySem.KeyKind prog w aD where
 is:=jt
 hash:=Zky w
 inj:=λv a b ha hb=>by
  rcases f9 ha with ⟨i,t,rfl,rfl⟩ | ⟨x,t,rfl,rfl⟩
  ·rcases f9 hb with ⟨j,u,rfl,e⟩ | ⟨y,u,rfl,e⟩
   ·injection e with e1 _; rw [e1]
   ·exact nomatch e
  ·rcases f9 hb with ⟨j,u,rfl,e⟩ | ⟨y,u,rfl,e⟩
   ·exact nomatch e
   ·injection e with e1 _; rw [e1]
 byValue:=λk v h=>by
  rcases f9 h with ⟨i,t,rfl,rfl⟩ | ⟨x,t,rfl,rfl⟩ <;> rfl
 pyHash:=λhv h=>by
  rcases f9 hv with ⟨i,t,rfl,rfl⟩ | ⟨x,t,rfl,rfl⟩
  ·exact wpAny_pyHash_int h
  ·exact wpAny_pyHash_str h
 eqBool:=λhu hv h=>by
  rcases f9 hu with ⟨i,t,rfl,rfl⟩ | ⟨x,t,rfl,rfl⟩
  ·rcases f9 hv with ⟨j,u,rfl,rfl⟩ | ⟨y,u,rfl,rfl⟩
   ·rw [Zkv] at h; exact wpAny_eqBool_int h
   ·rw [Zku] at h; exact SeqAt.EqAt.int_str i t y u _ _ _ _ h
  ·rcases f9 hv with ⟨j,u,rfl,rfl⟩ | ⟨y,u,rfl,rfl⟩
   ·rw [Zkt] at h; exact SeqAt.EqAt.str_int x t j u _ _ _ _ h
   ·rw [Zks] at h; exact wpAny_eqBool_str h
 «strs»:=λk x t v h=>by
  rcases f9 h with ⟨i,u,rfl,e⟩ | ⟨y,u,rfl,e⟩
  ·exact nomatch e
  ·injection e with e1 _;subst e1;cases v <;> rfl
theorem ZjJ (prog:Program) (w:World) (i:Int) (t:Tok):(de prog w).is (.inl i) (.int i t)=true:=Zkx i t
theorem ZjI (prog:Program) (w:World) (x:Str) (t:Tok):(de prog w).is (.inr x) (.str x t)=true:=Zkw x t
inductive V where
 | non | bl (b:Bool) | int (i:Int) | str (x:Str) | byt (b:Array UInt8) | flt (b:UInt64) | ref (a:Addr) | ty (n:String)
 deriving DecidableEq
abbrev yB:=List V
noncomputable def RelV:V->Value->Prop
 | .non,u=>u=Value.none
 | .bl b,u=>u=Value.bool b
 | .int i,u=>∃ t,u=Value.int i t
 | .str x,u=>∃ t,u=Value.str x t
 | .byt b,u=>∃ t,u=Value.bytes b t
 | .flt b,u=>∃ t,u=Value.float b t
 | .ref a,u=>u=Value.ref a
 | .ty n,u=>u=Value.type n
abbrev Vals:List V->List Value->Prop:=Paired RelV
theorem Vals.length {xs:yB} {us:yz} (r:Vals xs us):xs.length=us.length:=xU r
theorem Vals.get {xs:yB} {us:yz} {i:Nat} {x:V} (h:Vals xs us) (e:xs[i]?=some x):∃ u,us[i]?=some u/\RelV x u:=by
 induction h generalizing i with
 | nil=>cases e
 | cons r t ih=>cases i with | zero=>cases e; exact ⟨_,rfl,r⟩ | succ i=>exact ih (i:=i) e
theorem Vals.set {x:V} {u:Value} (r:RelV x u) {xs:yB} {us:yz} (i:Nat) (h:Vals xs us):Vals (xs.set i x) (us.set i u):=by
 induction h generalizing i with
 | nil=>exact .nil
 | cons q t ih=>cases i with | zero=>exact .cons r t | succ i=>exact .cons q (ih i)
theorem Vals.append {xs ys:yB} {us ws:yz} (h:Vals xs us) (s:Vals ys ws):Vals (xs++ys) (us++ws):=by
 induction h with
 | nil=>exact s
 | cons r t ih=>exact .cons r ih
theorem Vals.take {xs:yB} {us:yz} (n:Nat) (h:Vals xs us):Vals (xs.take n) (us.take n):=by
 induction h generalizing n with
 | nil=>rw [List.take_nil,List.take_nil]; exact .nil
 | cons r t ih=>cases n with | zero=>exact .nil | succ n=>exact .cons r (ih n)
theorem Vals.drop {xs:yB} {us:yz} (n:Nat) (h:Vals xs us):Vals (xs.drop n) (us.drop n):=by
 induction h generalizing n with
 | nil=>rw [List.drop_nil,List.drop_nil]; exact .nil
 | cons r t ih=>cases n with | zero=>exact .cons r t | succ n=>exact ih n
theorem Vals.none_of:∀ {xs:yB} {us:yz} {i:Nat},Vals xs us->xs[i]?=none->us[i]?=none:=λ{xs us i} r e=>by
 have h1:=r.length;have h2:xs.length<=i:=ye.mp e;exact ye.mpr (by omega)
noncomputable def RelO:Option V->Option Value->Prop
 | some v,some u=>RelV v u
 | none,none=>True
 | _,_=>False
noncomputable def KV {κ:Type}:List (κ×V)->List (κ×Value)->Prop:=Paired λ(p:κ×V) (q:κ×Value)=>p.1=q.1/\RelV p.2 q.2
noncomputable def kV:aD->V
 | .inl i=>.int i
 | .inr x=>.str x
inductive HO where
 /-- a list -/
 | lst (xs:yB)
 /-- a tuple (never changes) -/
 | tup (xs:yB)
 /-- a dict whose keys are ints and texts; one whose keys are tuples of ints and texts (the empty one is both) -/
 | dK (kvs:List (aD×V)) | dT (kvs:List (List aD×V))
 /-- a set of ints: its members,its size -/
 | set (S:Int->Bool) (n:Nat)
 /-- an instance of the class at C,its dict at dx,its attributes -/
 | ins (C dx:Addr) (fs:List (Str×V))
 /-- the dict of the instance at x -/
 | own (x:Addr)
 /-- the dict of an exception -/
 | xd (fs:List (Str×V))
 /-- a bound method,f of x -/
 | met (f x:Addr)
 /-- a range object lo,lo+1,.. below hi -/
 | rng (lo hi:Int)
 /-- a thing that is known to the object (the script; a dict while a loop walks it): read,never written while it is so -/
 | frz (o:Obj) (u:HO)
 /-- a code object's table -/
 | tbl (ps:Array Value)
 /-- any other thing,by what is true of its one object (a def of one's own: SetO a S n:=HO.ext λh=>..) -/
 | ext (φ:Heap->Prop)
 | cod (ps:Array Value)
abbrev Hp:=Addr->Option HO
noncomputable def upd (H:Hp) (a:Addr) (o:HO):Hp:=λb=>if b=a then some o else H b
theorem bq {H:Hp} {a:Addr} {o:HO}:upd H a o a=some o:=by unfold upd; rw [if_pos rfl]
theorem ap {H:Hp} {a b:Addr} {o:HO} (h:b≠a):upd H a o b=H b:=by unfold upd; rw [if_neg h]
theorem kc {H:Hp} {a b:Addr} {o u:HO} (h:H a=some o) (h':H b=some u) (d:o≠u):a≠b:=by
 intro e; subst e; rw [h] at h'; exact d (vc h')
theorem bS {H:Hp} {a b:Addr} {o:HO} (h:H a=some o) (h':H b=none):a≠b:=by
 intro e; subst e; rw [h] at h'; cases h'
section
variable (P:Program) (w:World)
noncomputable def ObjOk (H:Hp) (h:Heap) (a:Addr):HO->Prop
 | .lst xs=>xs.length<=sizeLine/\∃ (its:yz) (n:Nat),Vals xs its/\h.get? a=some { cls:=.type "list",data:=.seq its.toArray n }
 | .tup xs=>xs.length<=sizeLine/\∃ its:yz,Vals xs its/\IsTup h a its.toArray
 | .dK kvs=>kvs.length<=sizeLine/\(a == sysModules)=false/\∃ vs,KV kvs vs/\h.DictOf (de P w) a vs
 | .dT kvs=>kvs.length<=sizeLine/\(a == sysModules)=false/\∃ xs:List (List aD×Addr×Value),
   Paired (λ(p:List aD×V) (q:List aD×Addr×Value)=>p.1=q.1/\H q.2.1=some (.tup (p.1.map kV))/\RelV p.2 q.2.2) kvs xs /\
   ∃ o es ep,h.get? a=some o/\o.ExactDict/\o.data=.dict es ep/\es.toList=xs.map (entryOfKey (tupleKind (de P w)))/\(xs.map (·.1)).Nodup
 | .set S n=>h.SetOf (intKind P w) a S n
 | .ins C dx fs=>H dx=some (.own a)/\fs.length<=1000/\dx≠a/\h.get? a=some (PySem.W.instObj C dx) /\
   ∃ mA,h.Ns1 dx mA/\(∀ f,RelO (fs.lookup f) (mA f))/\PySem.Within mA (fs.map (·.1))
 | .own _=>∃ o,h.get? a=some o
 | .xd fs=>∃ mA,h.Ns1 a mA/\∀ f,RelO (fs.lookup f) (mA f)
 | .rng lo hi=>∃ t u v,h.get? a=some { cls:=.type "range",data:=.fields #[.int lo t,.int hi u,.int 1 v] }
 | .frz o u=>h.get? a=some o/\ObjOk H h a u
 | .tbl ps=>h.get? a=some { cls:=.none,data:=.fields ps }
 | .met f x=>h.get? a=some (PySem.W.methodObj (.ref f) (.ref x))
 | .ext φ=>φ h/\(∃ o,h.get? a=some o)/\∀ h1 h2:Heap,φ h1->(∀ o,h1.get? a=some o->h2.get? a=some o)->φ h2
 | .cod ps=>∃ more:Array Value,h.get? a=some { cls:=.none,data:=.fields (ps++more) }/\PySem.TriplesOk (ps++more).toList/\∀ (po:Pos) (v:Value),codeAmong po (ps++more).toList=some v->∃ (c:Addr) (ob:Obj) (vs:Array Value) (q:Str) (t:Tok),v=.ref c/\H c=some (.frz ob (.own 0))/\ob.data=.fields vs/\vs[1]?=some (.str q t)
def HOk (H:Hp) (h:Heap):Prop:=∀ a o,H a=some o->ObjOk P w H h a o
end
section
variable {P:Program} {w:World} {H H':Hp} {h h':Heap} {a:Addr} {o:HO}
theorem ObjOk.lt (x:ObjOk P w H h a o):a < h.objs.size:=by
 cases o with
 | lst xs=>obtain ⟨_,_,_,_,e⟩:=x; exact uY e
 | tup xs=>obtain ⟨_,_,_,p⟩:=x; exact p.lt
 | dK kvs=>obtain ⟨_,_,_,_,o,_,_,e,_⟩:=x; exact uY e
 | dT kvs=>obtain ⟨_,_,_,_,o,_,_,e,_⟩:=x; exact uY e
 | set S n=>obtain ⟨o,_,_,_,e,_⟩:=x; exact uY e
 | ins C dx fs=>obtain ⟨_,_,_,e,_⟩:=x; exact uY e
 | own y=>obtain ⟨_,e⟩:=x; exact uY e
 | xd fs=>obtain ⟨_,⟨_,_,_,e,_⟩,_⟩:=x; exact uY e
 | rng lo hi=>obtain ⟨_,_,_,e⟩:=x; exact uY e
 | frz ob u=>obtain ⟨e,_⟩:=x; exact uY e
 | tbl ps=>exact uY (show h.get? a=some _ from x)
 | met f y=>exact uY (show h.get? a=some _ from x)
 | ext φ=>obtain ⟨_,⟨_,e⟩,_⟩:=x; exact uY e
 | cod ps=>obtain ⟨_,e,_⟩:=x; exact uY e
theorem Paired.mapP {α β:Type} {F G:α->β->Prop} {l₁:List α} {l₂:List β} (h:Paired F l₁ l₂) (f:∀ a b,F a b->G a b):Paired G l₁ l₂:=by
 induction h with
 | nil=>exact .nil
 | cons r t ih=>exact .cons (f _ _ r) ih
theorem ObjOk.stay (x:ObjOk P w H h a o) (k:∀ b u,(b=a\/H b=some (.own a))->h.get? b=some u->h'.get? b=some u)
  (ho:∀ b,H b=some (.own a)->H' b=some (.own a)) (ht:∀ b xs,H b=some (.tup xs)->H' b=some (.tup xs)) (hf:∀ b ob u vs,H b=some (.frz ob u)->ob.data=.fields vs->H' b=some (.frz ob u)):ObjOk P w H' h' a o:=by
 induction o with
 | lst xs=>obtain ⟨z,its,n,r,e⟩:=x; exact ⟨z,its,n,r,k _ _ (.inl rfl) e⟩
 | tup xs=>obtain ⟨z,its,r,ob,e,c⟩:=x; exact ⟨z,its,r,ob,k _ _ (.inl rfl) e,c⟩
 | dK kvs=>obtain ⟨z,y,vs,r,ob,es,ep,e,c⟩:=x; exact ⟨z,y,vs,r,ob,es,ep,k _ _ (.inl rfl) e,c⟩
 | dT kvs =>
  obtain ⟨z,y,xs,r,ob,es,ep,e,c⟩:=x;exact ⟨z,y,xs,Paired.mapP r λp q z=>⟨z.1,ht _ _ z.2.1,z.2.2⟩,ob,es,ep,k _ _ (.inl rfl) e,c⟩
 | set S n=>obtain ⟨ob,es,ep,t,e,c⟩:=x; exact ⟨ob,es,ep,t,k _ _ (.inl rfl) e,c⟩
 | ins C dx fs =>
  obtain ⟨d,z,ne,e,mA,⟨od,es,ep,e2,c⟩,r⟩:=x;exact ⟨ho _ d,z,ne,k _ _ (.inl rfl) e,mA,⟨od,es,ep,k _ _ (.inr d) e2,c⟩,r⟩
 | own y=>obtain ⟨ob,e⟩:=x; exact ⟨ob,k _ _ (.inl rfl) e⟩
 | xd fs=>obtain ⟨mA,⟨od,es,ep,e,c⟩,r⟩:=x; exact ⟨mA,⟨od,es,ep,k _ _ (.inl rfl) e,c⟩,r⟩
 | rng lo hi=>obtain ⟨t,u,v,e⟩:=x; exact ⟨t,u,v,k _ _ (.inl rfl) e⟩
 | frz ob u ih=>obtain ⟨e,q⟩:=x; exact ⟨k _ _ (.inl rfl) e,ih q⟩
 | tbl ps =>
  have e:h.get? a=some { cls:=.none,data:=.fields ps }:=x;show h'.get? a=some { cls:=.none,data:=.fields ps };exact k a _ (.inl rfl) e
 | met f y =>
  have e:h.get? a=some (PySem.W.methodObj (.ref f) (.ref y)):=x;show h'.get? a=some (PySem.W.methodObj (.ref f) (.ref y));exact k a _ (.inl rfl) e
 | ext φ=>obtain ⟨p,⟨o,e⟩,st⟩:=x; exact ⟨st _ _ p λo q=>k _ _ (.inl rfl) q,⟨o,k _ _ (.inl rfl) e⟩,st⟩
 | cod ps =>
  obtain ⟨more,e,tr,al⟩:=x;refine ⟨more,k _ _ (.inl rfl) e,tr,λpo v hv=>?_⟩;obtain ⟨c,ob,vs,q,t,r1,r2,r3⟩:=al po v hv;exact ⟨c,ob,vs,q,t,r1,hf _ _ _ _ r2 r3.1,r3⟩
theorem HOk.lt (x:HOk P w H h) (e:H a=some o):a < h.objs.size:=(x a o e).lt
theorem HOk.fresh (x:HOk P w H h) (e:h.objs.size<=a):H a=none:=by
 cases q:H a with
 | none=>rfl
 | some u=>exact absurd (uU (x.lt q) e) (ve _)
theorem HOk.kept (x:HOk P w H h) (k:∀ b u,h.get? b=some u->h'.get? b=some u):HOk P w H h':=λa o e =>
 (x a o e).stay (λb u _ q=>k b u q) (λ_ q=>q) (λ_ _ q=>q) λ_ _ _ _ q _=>q
theorem HOk.laid (x:HOk P w H h) (k:∀ b u,h.get? b=some u->h'.get? b=some u) (hp:h.objs.size<=a) (new:ObjOk P w (upd H a o) h' a o):HOk P w (upd H a o) h':=λb u e=>by
 have hn:=x.fresh hp;by_cases hb:b=a
 ·subst hb; rw [bq] at e; cases e; exact new
 ·rw [ap hb] at e;exact (x b u e).stay (λc v _ q=>k c v q) (λc q=>by rw [ap (bS q hn)]; exact q) (λc xs q=>by rw [ap (bS q hn)]; exact q) λc ob xs _ q _=>by rw [ap (bS q hn)]; exact q
end
def Rd (H:Hp) (a:Addr) (u:HO):Prop:=H a=some u\/∃ o,H a=some (.frz o u)
theorem Rd.ok {P:Program} {w:World} {H:Hp} {h:Heap} {a:Addr} {u:HO} (r:Rd H a u) (x:HOk P w H h):ObjOk P w H h a u:=by
 rcases r with r | ⟨o,r⟩
 ·exact x a u r
 ·obtain ⟨_,q⟩:=x a _ r;exact q
noncomputable def mR:Option HO->Prop
 | some (.lst _)=>True
 | some (.dK _)=>True
 | some (.dT _)=>True
 | some (.set _ _)=>True
 | some (.ins _ _ _)=>True
 | some (.ext _)=>True
 | _=>False
section
variable {P:Program} {w:World} {H:Hp} {h h':Heap} {x e:Addr} {o':HO}
theorem HOk.write (ok:HOk P w H h) (mu:mR (H x)) (he:e=x\/H e=some (.own x)) (k:∀ b u,b≠e->h.get? b=some u->h'.get? b=some u) (heo:∃ u,h'.get? e=some u)
  (new:ObjOk P w (upd H x o') h' x o'):HOk P w (upd H x o') h':=λb u q=>by
 have nown:∀ c y,H c=some (.own y)->c≠x:=λc y r z=>by subst z; rw [r] at mu; exact mu
 have ntup:∀ c xs,H c=some (.tup xs)->c≠x:=λc xs r z=>by subst z; rw [r] at mu; exact mu
 have nfrz:∀ c ob u,H c=some (.frz ob u)->c≠x:=λc ob u r z=>by subst z; rw [r] at mu; exact mu
 by_cases hb:b=x
 ·subst hb; rw [bq] at q; cases q; exact new
 ·rw [ap hb] at q;by_cases hbe:b=e
  ·have q':H b=some (.own x):=by
    rcases he with z | z
    ·exact absurd (hbe.trans z) hb
    ·rw [hbe]; exact z
   rw [q] at q'; cases q';obtain ⟨v,hv⟩:=heo;exact ⟨v,by rw [hbe]; exact hv⟩
  ·refine (ok b u q).stay (λc v hc r=>k c v ?_ r) (λc r=>by rw [ap (nown c b r)]; exact r) (λc xs r=>by rw [ap (ntup c xs r)]; exact r) λc ob xs _ r _=>by rw [ap (nfrz c ob xs r)]; exact r
   rcases hc with rfl | hc
   ·exact hbe
   ·rintro rfl;rcases he with z | z
    ·exact nown c b hc z
    ·rw [hc] at z; cases z; exact hb rfl
end
structure Un (fs ex:List Addr) (H H':Hp) (h h':Heap):Prop where
 keep:∀ b o,h.get? b=some o->H b=none->b ∉ fs->b ∉ ex->h'.get? b=some o
 slot:∀ b o,h.get? b=some o->H b=none->b∈fs->b ∉ ex->∃ sl,h'.get? b=some { o with slots:=sl }
 free:∀ b o,h.get? b=some o->H b=none->b ∉ ex->H' b=none
 there:∀ b o,h.get? b=some o->b ∉ ex->∃ o',h'.get? b=some o'
 tups:∀ b xs,H b=some (.tup xs)->H' b=some (.tup xs)
 frzs:∀ b o u,H b=some (.frz o u)->H' b=some (.frz o u)
 tbls:∀ b ps,H b=some (.tbl ps)->∃ more,H' b=some (.tbl (ps++more))
section
variable {fs fs' ex ex':List Addr} {H H1 H2:Hp} {h h1 h2 h':Heap} {a x e:Addr} {o:HO}
theorem Un.any (u:Un fs ex H H1 h h1) {b:Addr} {ob:Obj} (q:h.get? b=some ob) (n:H b=none) (hx:b ∉ ex):∃ sl,h1.get? b=some { ob with slots:=sl }:=by
 by_cases hb:b∈fs
 ·exact u.slot b ob q n hb hx
 ·exact ⟨ob.slots,u.keep b ob q n hb hx⟩
theorem Un.kept (k:∀ b u,h.get? b=some u->h'.get? b=some u):Un fs ex H H h h' :=
 ⟨λb ob q _ _ _=>k b ob q,λb ob q _ _ _=>⟨ob.slots,k b ob q⟩,λ_ _ _ n _=>n,λb ob q _=>⟨ob,k b ob q⟩,λ_ _ q=>q,λ_ _ _ q=>q,λ_ ps q=>⟨#[],by rw [q]; simp⟩⟩
theorem Un.refl:Un fs ex H H h h:=Un.kept λ_ _ q=>q
theorem Un.laid (k:∀ b u,h.get? b=some u->h'.get? b=some u) (hp:h.objs.size<=a) (hn:H a=none):Un fs ex H (upd H a o) h h' where
 keep:=λb u q _ _ _=>k b u q
 slot:=λb u q _ _ _=>⟨u.slots,k b u q⟩
 free:=λb u q n _=>by rw [ap (u9 (uU (uY q) hp))]; exact n
 there:=λb u q _=>⟨u,k b u q⟩
 tups:=λb xs q=>by rw [ap (bS q hn)]; exact q
 frzs:=λb u xs q=>by rw [ap (bS q hn)]; exact q
 tbls:=λb ps q=>⟨#[],by rw [ap (bS q hn),q]; simp⟩
theorem Un.write (mu:mR (H x)) (he:e=x\/H e=some (.own x)) (k:∀ b u,b≠e->h.get? b=some u->h'.get? b=some u) (heo:∃ u,h'.get? e=some u):Un fs ex H (upd H x o) h h':=by
 have hx:∀ b,H b=none->b≠x:=λb n z=>by subst z; rw [n] at mu; exact mu
 have hb:∀ b,H b=none->b≠e:=λb n z=>by
  subst z;rcases he with r | r
  ·exact hx b n r
  ·rw [n] at r; cases r
 have hm:∀ b u,H b=some u->¬ mR (some u)->b≠x:=λb u q nm z=>by subst z; rw [q] at mu; exact nm mu
 refine ⟨λb u q n _ _=>k b u (hb b n) q,λb u q n _ _=>⟨u.slots,k b u (hb b n) q⟩,λb u q n _=>by rw [ap (hx b n)]; exact n,λb u q _=>?_,
  λb xs q=>by rw [ap (hm b _ q λz=>z)]; exact q,λb u xs q=>by rw [ap (hm b _ q λz=>z)]; exact q,λb ps q=>⟨#[],by rw [ap (hm b _ q λz=>z),q]; simp⟩⟩
 by_cases hbe:b=e
 ·subst hbe; exact heo
 ·exact ⟨u,k b u hbe q⟩
end
noncomputable def trk (h:Heap) (H:Hp):List Addr:=(List.range h.objs.size).filter λa=>(H a).isSome
noncomputable def gg (h:Heap) (H:Hp):Heap:=PySem.W.hideAll h (trk h H)
theorem ZkQ (h:Heap) (H:Hp):(gg h H).objs.size=h.objs.size:=PySem.W.hideAll_size _ _
theorem ZkR {h:Heap} {H:Hp} {b:Addr} {o:Obj} (e:h.get? b=some o) (n:H b=none):(gg h H).get? b=some o :=
 PySem.W.hideAll_get _ e λhm=>by
  have q:(H b).isSome=true:=(List.mem_filter.mp hm).2;rw [n] at q; simp at q
theorem Zjr {h:Heap} {H:Hp} {b:Addr} {o:Obj} (e:(gg h H).get? b=some o):h.get? b=some o/\H b=none:=by
 have e':h.get? b=some o:=PySem.W.of_hideAll (trk h H) e;refine ⟨e',?_⟩;cases q:H b with
 | none=>rfl
 | some x =>
  have hm:b∈trk h H:=List.mem_filter.mpr ⟨vQ.mpr (uY e'),by simp [q]⟩
  have z:(gg h H).get? b=none:=PySem.W.hideAll_none (trk h H) hm;rw [z] at e; cases e
abbrev yF:=List (Addr×Obj)
noncomputable def Zp4 (g h:Heap) (L:Addr):yF:=(List.range h.objs.size).filterMap λa=>if a=L\/(g.get? a).isSome=true then none else (h.get? a).map λo=>(a,o)
noncomputable def rest (g h:Heap) (L d:Addr):yF:=(Zp4 g h L).filter λp=>decide (p.1≠d)
structure Mod (K:ym) (mg:yC) (base:Heap):Prop where
 kin:K.In base
 glob:base.Ns mainGlobals mg
 blt:∃ mb,base.Ns builtinsNs mb/\∀ x:Str,x≠"__name__"->mb x=bootBuiltins x
 nolimit:base.NoLimit
 nodig:base.NoDigits
structure Cx where
 prog:Program
 w:World
 K:ym
 mg:yC
 base:Heap
 A:Around
 N:yA
 s₀:Shared
 H₀:Hp
 env:Env
 outer:List Env
 stack:List Env
 ex:List Addr
 fn:Str->Bool
 calm:Bool
 pn:yF
 xe:yw
noncomputable def frs (l:List Env):List Addr:=l.filterMap (·.frame)
noncomputable abbrev Cx.fs (X:Cx):List Addr:=frs X.outer
def kQ (sc:Scope) (x:Str):Prop:=sc.names.lookup x=some .local\/sc.names.lookup x=some .cell\/sc.names.lookup x=some .free
def iO (sc:Scope) (x:Str):Prop:=sc.names.lookup x=some .local\/sc.names.lookup x=some .cell
noncomputable def Zq2 (env:Env) (h:Heap) (m:yC) (x:Str) (u:Value):Prop :=
 (env.kindOf x=some .local/\m x=some u)\/((env.kindOf x=some .cell\/env.kindOf x=some .free)/\∃ c,env.cells.lookup x=some c/\h.IsCell c (some u))
structure Cx.Ok (X:Cx):Prop where
 mod:Mod X.K X.mg X.base
 kind:X.env.scope.kind=.function
 glob:X.env.globals=mainGlobals
 blt:X.env.builtins=builtinsNs
 above:X.s₀.heap.objs.size<=X.env.locals
 inj:∀ x y c,X.env.cells.lookup x=some c->X.env.cells.lookup y=some c->x=y
 has:∀ x,(X.env.kindOf x=some .cell\/X.env.kindOf x=some .free)->∃ c,X.env.cells.lookup x=some c
 cab:∀ x c,X.fn x=true->X.env.cells.lookup x=some c->X.s₀.heap.objs.size<=c
 hd:X.calm=true->X.A.handled=none
 frames:X.A.frames=some X.stack
 stk:X.stack=X.outer\/(X.stack=X.env::X.outer/\X.env.frame=some X.env.locals)
 exf:∀ b∈X.ex,b≠X.env.locals/\∀ x c,X.env.cells.lookup x=some c->c≠b
 bs:∀ b o,X.base.get? b=some o->X.s₀.heap.get? b=some o/\X.H₀ b=none
 bsz:X.base.objs.size<=X.s₀.heap.objs.size
 noex:∀ b o,X.base.get? b=some o->b ∉ X.ex
 exfs:∀ b∈X.ex,b ∉ X.fs
 funs:X.s₀.heap.FunFrames X.base X.outer
 frf:∀ b∈X.fs,X.H₀ b=none
structure Inv (X:Cx) (pins:yF) (σ:List (Option V)) (H:Hp) (s:Shared):Prop where
 ok:X.Ok
 os:s.os=X.s₀.os
 bare:AllBare s.gens
 base:Un X.fs X.ex X.H₀ H X.s₀.heap s.heap
 loc:∃ m,s.heap.Ns X.env.locals m/\∀ (i:Nat) (x:Str) (v:V),X.N[i]?=some x->σ[i]?=some (some v)->kQ X.env.scope x->∃ u,RelV v u/\Zq2 X.env s.heap m x u
 cell:∀ x c,X.env.cells.lookup x=some c->∃ v,s.heap.IsCell c v
 free:H X.env.locals=none
 freeC:∀ x c,X.env.cells.lookup x=some c->H c=none
 pin:∀ p∈X.pn++pins,s.heap.get? p.1=some p.2/\H p.1=none/\p.1≠X.env.locals/\p.1 ∉ X.fs/\∀ v,p.2.data≠.cell v
 hok:HOk X.prog X.w H s.heap
 len:σ.length=X.N.length
section
variable {X:Cx} {pins:yF} {σ:List (Option V)} {H H':Hp} {s:Shared} {h':Heap}
theorem Cx.Ok.nofr (ok:X.Ok) {b:Addr} {o:Obj} (e:X.base.get? b=some o):b ∉ X.fs:=λhb=>by
 have:=(ok.funs.mem hb).1;rw [e] at this; cases this
theorem Inv.bs (I:Inv X pins σ H s):∀ b o,X.base.get? b=some o->s.heap.get? b=some o/\H b=none:=λb o e =>
 ⟨I.base.keep b o (I.ok.bs b o e).1 (I.ok.bs b o e).2 (I.ok.nofr e) (I.ok.noex b o e),I.base.free b o (I.ok.bs b o e).1 (I.ok.bs b o e).2 (I.ok.noex b o e)⟩
theorem Inv.bk (I:Inv X pins σ H s):∀ b o,X.base.get? b=some o->s.heap.get? b=some o:=λb o e=>(I.bs b o e).1
theorem Inv.mod (I:Inv X pins σ H s):Mod X.K X.mg X.base:=I.ok.mod
theorem Inv.kIn (I:Inv X pins σ H s):X.K.In s.heap:=I.ok.mod.kin.keeps I.bk
theorem Inv.lt (I:Inv X pins σ H s):X.env.locals < s.heap.objs.size:=let ⟨_,hn,_⟩:=I.loc; hn.lt
theorem Inv.sz (I:Inv X pins σ H s):X.s₀.heap.objs.size<=s.heap.objs.size:=u8 I.ok.above (wJ I.lt)
theorem Inv.nofs (I:Inv X pins σ H s) {a:Addr} (h:s.heap.objs.size<=a):a ∉ X.fs:=λhb=>by
 obtain ⟨_,o,ho,_⟩:=I.ok.funs.mem hb;exact absurd (uU (uY ho) (u8 I.sz h)) (ve _)
theorem Inv.cne (I:Inv X pins σ H s):∀ x c,X.env.cells.lookup x=some c->c≠X.env.locals:=λx c e z=>by
 obtain ⟨v,o,ho,hd⟩:=I.cell x c e;obtain ⟨m,⟨o',es,ep,ho',hd',_⟩,_⟩:=I.loc;rw [z,ho'] at ho; cases ho; rw [hd'] at hd; cases hd
theorem Inv.funs (I:Inv X pins σ H s):s.heap.FunFrames X.base X.outer:=by
 have all:∀ (l:List Env),(∀ b∈frs l,b∈X.fs)->X.s₀.heap.FunFrames X.base l->s.heap.FunFrames X.base l:=by
  intro l
  induction l with
  | nil=>intro _ _; trivial
  | cons env r ih =>
   intro hs hl;obtain ⟨hk,⟨L,o,hf,hn,ho,hd⟩,hr⟩:=hl;have hL:L∈X.fs:=hs L (by unfold frs; rw [vT,hf]; exact vM)
   obtain ⟨sl,e⟩:=I.base.slot L o ho (I.ok.frf L hL) hL λz=>I.ok.exfs L z hL;exact ⟨hk,⟨L,_,hf,hn,e,hd⟩,ih (λb hb=>hs b (by unfold frs; rw [vT,hf]; exact uP _ hb)) hr⟩
 exact all X.outer (λ_ hb=>hb) I.ok.funs
theorem Inv.stack (I:Inv X pins σ H s):s.heap.FunFrames X.base X.stack:=by
 rcases I.ok.stk with e | ⟨e,hf⟩
 ·rw [e]; exact I.funs
 ·rw [e];obtain ⟨m,hn,_⟩:=I.loc;refine .cons (by rw [I.ok.kind]; decide) hf hn ?_ I.funs
  exact Heap.get?_none_of_le (u8 I.ok.bsz I.ok.above)
theorem Inv.stkSub (I:Inv X pins σ H s):∀ b∈frs X.stack,b∈X.env.locals::X.fs:=λb hb=>by
 rcases I.ok.stk with e | ⟨e,hf⟩
 ·rw [e] at hb; exact uP _ hb
 ·rw [e] at hb;unfold frs at hb;rw [vT,hf] at hb;exact hb
theorem Inv.stkFree (I:Inv X pins σ H s):∀ b∈frs X.stack,H b=none:=λb hb=>by
 rcases uV.mp (I.stkSub b hb) with e | hb
 ·rw [e]; exact I.free
 ·obtain ⟨_,o,ho,_⟩:=I.ok.funs.mem hb;exact I.base.free b o ho (I.ok.frf b hb) λz=>I.ok.exfs b z hb
theorem Inv.step {g':Array GenState} {t':Nat} {d':Drawn} {ch:List Addr} (I:Inv X pins σ H s)
  (hch:∀ b∈ch,(b∈X.ex\/X.s₀.heap.objs.size<=b)/\b≠X.env.locals/\(∀ x c,X.env.cells.lookup x=some c->c≠b)/\∀ p∈X.pn++pins,p.1≠b)
  (keep:∀ b o,b≠X.env.locals->b ∉ X.fs->b ∉ ch->s.heap.get? b=some o->H b=none->h'.get? b=some o)
  (slot:∀ b o,b≠X.env.locals->b∈X.fs->b ∉ ch->s.heap.get? b=some o->H b=none->∃ sl,h'.get? b=some { o with slots:=sl }) (free:∀ b o,b ∉ ch->s.heap.get? b=some o->H b=none->H' b=none)
  (there:∀ b o,b ∉ ch->s.heap.get? b=some o->∃ o',h'.get? b=some o')
  (tups:∀ b xs,H b=some (.tup xs)->H' b=some (.tup xs)) (frzs:∀ b o u,H b=some (.frz o u)->H' b=some (.frz o u)) (tbls:∀ b ps,H b=some (.tbl ps)->∃ more,H' b=some (.tbl (ps++more)))
  (ns:∀ m,s.heap.Ns X.env.locals m->h'.Ns X.env.locals m) (hok:HOk X.prog X.w H' h') (hg:AllBare g') :
  Inv X pins σ H' { s with heap:=h',gens:=g',drawn:=d',toks:=t' }:=by
 have neL:∀ b o,X.s₀.heap.get? b=some o->b≠X.env.locals:=λb o e=>u9 (uU (uY e) I.ok.above);have neC:∀ b o,X.s₀.heap.get? b=some o->b ∉ X.ex->b ∉ ch:=λb o e hx hb=>by
  rcases (hch b hb).1 with z | z
  ·exact hx z
  ·exact absurd (uU (uY e) z) (ve _)
 have cellK:∀ x c,X.env.cells.lookup x=some c->∀ v,s.heap.IsCell c v->h'.IsCell c v:=λx c e v hz0=>by
  obtain ⟨o,ho,hd⟩:=hz0;have nch:c ∉ ch:=λz=>(hch c z).2.2.1 x c e rfl;by_cases hc:c∈X.fs
  ·obtain ⟨sl,q⟩:=slot c o (I.cne x c e) hc nch ho (I.freeC x c e);exact ⟨_,q,hd⟩
  ·exact ⟨o,keep c o (I.cne x c e) hc nch ho (I.freeC x c e),hd⟩
 refine ⟨I.ok,I.os,hg,⟨λb o e n hb hx=>?_,λb o e n hb hx=>?_,λb o e n hx=>?_,λb o e hx=>?_,λb xs e=>tups b xs (I.base.tups b xs e),λb o xs e=>frzs b o xs (I.base.frzs b o xs e),λb ps e=>?_⟩,?_,λx c e=>?_,?_,λx c e=>?_,λp hp=>?_,hok,I.len⟩
 ·exact keep b o (neL b o e) hb (neC b o e hx) (I.base.keep b o e n hb hx) (I.base.free b o e n hx)
 ·obtain ⟨sl,e1⟩:=I.base.slot b o e n hb hx;obtain ⟨sl',e2⟩:=slot b _ (neL b o e) hb (neC b o e hx) e1 (I.base.free b o e n hx);exact ⟨sl',e2⟩
 ·obtain ⟨o',e1⟩:=I.base.there b o e hx;exact free b o' (neC b o e hx) e1 (I.base.free b o e n hx)
 ·obtain ⟨o',e1⟩:=I.base.there b o e hx;exact there b o' (neC b o e hx) e1
 ·obtain ⟨m1,e1⟩:=I.base.tbls b ps e;obtain ⟨m2,e2⟩:=tbls b _ e1;exact ⟨m1++m2,by rw [e2,xh]⟩
 ·obtain ⟨m,hn,hl⟩:=I.loc;refine ⟨m,ns m hn,λi x v e1 e2 e3=>?_⟩;obtain ⟨u,r,l⟩:=hl i x v e1 e2 e3;refine ⟨u,r,?_⟩;rcases l with l | ⟨k,c,e,z⟩
  ·exact .inl l
  ·exact .inr ⟨k,c,e,cellK x c e _ z⟩
 ·obtain ⟨v,z⟩:=I.cell x c e;exact ⟨v,cellK x c e v z⟩
 ·obtain ⟨m,⟨o,_,_,ho,_⟩,_⟩:=I.loc;exact free _ o (λz=>(hch _ z).2.1 rfl) ho I.free
 ·obtain ⟨v,o,ho,hd⟩:=I.cell x c e;exact free c o (λz=>(hch c z).2.2.1 x c e rfl) ho (I.freeC x c e)
 ·obtain ⟨e,n,ne,nf,d⟩:=I.pin p hp;have nch:p.1 ∉ ch:=λz=>(hch p.1 z).2.2.2 p hp rfl;exact ⟨keep p.1 p.2 ne nf nch e n,free p.1 p.2 nch e n,ne,nf,d⟩
theorem Inv.un {t':Nat} (I:Inv X pins σ H s) (u:Un X.fs [] H H' s.heap h') (hok:HOk X.prog X.w H' h'):Inv X pins σ H' { s with heap:=h',toks:=t' }:=by
 obtain ⟨m,⟨o,es,ep,ho,r⟩,_⟩:=id I.loc;obtain ⟨sl,hL⟩:=u.any ho I.free (by simp)
 exact I.step (g':=s.gens) (d':=s.drawn) (ch:=[]) (λ_ z=>nomatch z) (λb o _ hb _ e n=>u.keep b o e n hb (by simp)) (λb o _ hb _ e n=>u.slot b o e n hb (by simp)) (λb o _ e n=>u.free b o e n (by simp)) (λb o _ e=>u.there b o e (by simp)) u.tups u.frzs u.tbls (λm' hm=>by
  obtain ⟨o',es',ep',ho',r'⟩:=hm;rw [ho] at ho'; cases ho';exact ⟨_,es',ep',hL,r'⟩) hok I.bare
theorem Inv.call {g':Array GenState} {t':Nat} {d':Drawn} {ch:List Addr} (I:Inv X pins σ H s) (u:Un (frs X.stack) ch H H' s.heap h') (hok:HOk X.prog X.w H' h') (hg:AllBare g')
  (hch:∀ b∈ch,(b∈X.ex\/X.s₀.heap.objs.size<=b)/\b≠X.env.locals/\(∀ x c,X.env.cells.lookup x=some c->c≠b)/\∀ p∈X.pn++pins,p.1≠b) :
  Inv X pins σ H' { s with heap:=h',gens:=g',drawn:=d',toks:=t' }:=by
 obtain ⟨m,⟨o,es,ep,ho,r⟩,_⟩:=id I.loc;obtain ⟨sl,hL⟩:=u.any ho I.free λz=>(hch _ z).2.1 rfl;exact I.step (ch:=ch) hch (λb o hL hb hc e n=>u.keep b o e n (λz=>(uV.mp (I.stkSub b z)).elim hL hb) hc) (λb o _ _ hc e n=>u.any e n hc) (λb o hc e n=>u.free b o e n hc) (λb o hc e=>u.there b o e hc) u.tups u.frzs u.tbls (λm' hm=>by
  obtain ⟨o',es',ep',ho',r'⟩:=hm;rw [ho] at ho'; cases ho';exact ⟨_,es',ep',hL,r'⟩) hok hg
theorem Inv.turned {t':Nat} {it:Addr} (I:Inv X pins σ H s) (k:∀ b o,b≠it->s.heap.get? b=some o->h'.get? b=some o) (hn:H it=none) (hL:it≠X.env.locals)
  (h1:it∈X.ex\/X.s₀.heap.objs.size<=it) (h2:∀ x c,X.env.cells.lookup x=some c->c≠it) (h3:∀ p∈X.pn++pins,p.1≠it):Inv X pins σ H { s with heap:=h',toks:=t' }:=by
 have nit:∀ b u,H b=some u->b≠it:=λb u e z=>by rw [z,hn] at e; cases e
 refine I.step (g':=s.gens) (d':=s.drawn) (ch:=[it]) (λb hb=>?_) (λb o _ _ hc e _=>k b o (λz=>hc (by simp [z])) e) (λb o _ _ hc e _=>⟨o.slots,k b o (λz=>hc (by simp [z])) e⟩) (λ_ _ _ _ n=>n)
  (λb o hc e=>⟨o,k b o (λz=>hc (by simp [z])) e⟩) (λ_ _ e=>e) (λ_ _ _ e=>e) (λb ps e=>⟨#[],by rw [e]; simp⟩) (λm hm=>?_) (λb u e=>?_) I.bare
 ·have e:b=it:=by simpa using hb
  subst e;exact ⟨h1,hL,h2,h3⟩
 ·obtain ⟨o,es,ep,ho,r⟩:=hm;exact ⟨o,es,ep,k _ o (Ne.symm hL) ho,r⟩
 ·refine (I.hok b u e).stay (λc v hc q=>k c v ?_ q) (λ_ q=>q) (λ_ _ q=>q) λ_ _ _ _ q _=>q;rcases hc with z | z
  ·rw [z]; exact nit b u e
  ·exact nit c _ z
theorem Inv.tok (I:Inv X pins σ H s) (t:Nat):Inv X pins σ H { s with toks:=t }:=I.un (h':=s.heap) (t':=t) Un.refl I.hok
theorem Inv.kept {t':Nat} (I:Inv X pins σ H s) (k:∀ b u,s.heap.get? b=some u->h'.get? b=some u):Inv X pins σ H { s with heap:=h',toks:=t' }:=I.un (Un.kept k) (I.hok.kept k)
theorem Inv.laid {a:Addr} {o:HO} {t':Nat} (I:Inv X pins σ H s) (k:∀ b u,s.heap.get? b=some u->h'.get? b=some u) (hp:s.heap.objs.size<=a) (new:ObjOk X.prog X.w (upd H a o) h' a o) :
  Inv X pins σ (upd H a o) { s with heap:=h',toks:=t' }:=I.un (Un.laid k hp (I.hok.fresh hp)) (I.hok.laid k hp new)
theorem Inv.write {x e:Addr} {o:HO} {t':Nat} (I:Inv X pins σ H s) (mu:mR (H x)) (he:e=x\/H e=some (.own x)) (k:∀ b u,b≠e->s.heap.get? b=some u->h'.get? b=some u) (heo:∃ u,h'.get? e=some u)
  (new:ObjOk X.prog X.w (upd H x o) h' x o):Inv X pins σ (upd H x o) { s with heap:=h',toks:=t' }:=I.un (Un.write mu he k heo) (I.hok.write mu he k heo new)
theorem Inv.pins_of {pins':yF} (I:Inv X pins σ H s) (h:∀ p∈pins',s.heap.get? p.1=some p.2/\H p.1=none/\p.1≠X.env.locals/\p.1 ∉ X.fs/\∀ v,p.2.data≠.cell v):Inv X pins' σ H s :=
 ⟨I.ok,I.os,I.bare,I.base,I.loc,I.cell,I.free,I.freeC,λp hp=>(vV.mp hp).elim (λz=>I.pin p (wD _ z)) (h p),I.hok,I.len⟩
theorem rX {N:yA} (hN:N.Nodup) {i j:Nat} {x:Str} (a:N[i]?=some x) (b:N[j]?=some x):i=j:=by
 obtain ⟨h1,e1⟩:=uR.mp a;obtain ⟨h2,e2⟩:=uR.mp b;exact (List.getElem_inj hN).mp (e1.trans e2.symm)
theorem ZaU {M:Model} {A:Around} {E:yw} {i:Nat} {x:Str} {v:V} {u:Value} {Q:Unit->Shared->Prop} (I:Inv X pins σ H s) (hN:X.N.Nodup) (hi:X.N[i]?=some x) (hx:iO X.env.scope x) (r:RelV v u)
  (h:∀ s',Inv X pins (σ.set i (some v)) H s'->(∃ a,Heap.SameBut a s.heap s'.heap/\(a=X.env.locals\/X.env.cells.lookup x=some a))->Q () s') (hf:X.fn x=true\/X.env.scope.names.lookup x=some .local:=by first | exact .inl rfl | exact .inr rfl | assumption):wpAny M A (storeName X.env x u) Q E s:=by
 obtain ⟨m,hn,hl⟩:=id I.loc;have hcls:(X.env.scope.kind == .class || (X.env.scope.kind == .module && X.env.locals != X.env.globals))=false:=by rw [I.ok.kind]; rfl
 have hiσ:i < σ.length:=by rw [I.len]; exact (uR.mp hi).1
 have cne:=I.cne;have tracked:∀ {a:Addr} {h':Heap},(∃ o,s.heap.get? a=some o/\H a=none)->Heap.SameBut a s.heap h'->HOk X.prog X.w H h':=λ{a h'} ha hs b ob e=>by
  obtain ⟨_,_,hfree⟩:=ha;refine (I.hok b ob e).stay (λc w' hc q=>(hs.2 c ?_).trans q) (λ_ q=>q) (λ_ _ q=>q) λ_ _ _ _ q _=>q;rintro rfl;rcases hc with rfl | hc
  ·rw [hfree] at e; cases e
  ·rw [hfree] at hc; cases hc
 rcases hx with hk | hk
 ·refine wpAny_storeName_local hk hn (λh' hn' hs=>?_) hcls;obtain ⟨oL,_,_,hoL,_⟩:=id hn;refine h _ ⟨I.ok,I.os,I.bare,⟨λb o e n hb hx=>?_,λb o e n hb hx=>?_,I.base.free,λb o e hx=>?_,I.base.tups,I.base.frzs,I.base.tbls⟩,⟨_,hn',λj y v' e1 e2 e3=>?_⟩,λy c e=>?_,I.free,I.freeC,λp hp=>?_,tracked ⟨oL,hoL,I.free⟩ hs,by simpa using I.len⟩ ⟨_,hs,.inl rfl⟩
  ·exact (hs.2 b (u9 (uU (uY e) I.ok.above))).trans (I.base.keep b o e n hb hx)
  ·obtain ⟨sl,e1⟩:=I.base.slot b o e n hb hx;exact ⟨sl,(hs.2 b (u9 (uU (uY e) I.ok.above))).trans e1⟩
  ·obtain ⟨o',e1⟩:=I.base.there b o e hx;exact ⟨o',(hs.2 b (u9 (uU (uY e) I.ok.above))).trans e1⟩
  ·by_cases hj:j=i
   ·subst hj;rw [hi] at e1; cases e1;rw [vf hiσ] at e2;cases e2;exact ⟨u,r,.inl ⟨hk,by simp⟩⟩
   ·rw [u5 (Ne.symm hj)] at e2;obtain ⟨u',r',q⟩:=hl j y v' e1 e2 e3;refine ⟨u',r',?_⟩;rcases q with ⟨k,e⟩ | ⟨k,c,e,z⟩
    ·refine .inl ⟨k,?_⟩;have:y≠x:=λe=>hj (rX hN e1 (e ▸ hi));simp [this,e]
    ·exact .inr ⟨k,c,e,z.sameBut hs (cne y c e)⟩
  ·obtain ⟨w',z⟩:=I.cell y c e;exact ⟨w',z.sameBut hs (cne y c e)⟩
  ·obtain ⟨e,n,ne,nf,d⟩:=I.pin p hp;exact ⟨(hs.2 p.1 ne).trans e,n,ne,nf,d⟩
 ·have hfn:X.fn x=true:=by
   rcases hf with z | z
   ·exact z
   ·rw [z] at hk; cases hk
  obtain ⟨c,hc⟩:=I.ok.has x (.inl hk);obtain ⟨w',z⟩:=I.cell x c hc;refine wpAny_storeName_cell I.ok.kind hk hc z (λh' hc' hs=>?_);obtain ⟨oc,hoc,hocd⟩:=id z;refine h { s with heap:=h' } ⟨I.ok,I.os,I.bare,⟨λb o e n hb hx=>?_,λb o e n hb hx=>?_,I.base.free,λb o e hx=>?_,I.base.tups,I.base.frzs,I.base.tbls⟩,⟨m,hn.sameBut hs (Ne.symm (cne x c hc)),λj y v' e1 e2 e3=>?_⟩,λy c' e=>?_,I.free,I.freeC,λp hp=>?_,tracked ⟨oc,hoc,I.freeC x c hc⟩ hs,by simpa using I.len⟩ ⟨c,hs,.inr hc⟩
  ·exact (hs.2 b (u9 (uU (uY e) (I.ok.cab x c hfn hc)))).trans (I.base.keep b o e n hb hx)
  ·obtain ⟨sl,e1⟩:=I.base.slot b o e n hb hx;exact ⟨sl,(hs.2 b (u9 (uU (uY e) (I.ok.cab x c hfn hc)))).trans e1⟩
  ·obtain ⟨o',e1⟩:=I.base.there b o e hx;exact ⟨o',(hs.2 b (u9 (uU (uY e) (I.ok.cab x c hfn hc)))).trans e1⟩
  ·by_cases hj:j=i
   ·subst hj;rw [hi] at e1; cases e1;rw [vf hiσ] at e2;cases e2;exact ⟨u,r,.inr ⟨.inl hk,c,hc,hc'⟩⟩
   ·rw [u5 (Ne.symm hj)] at e2;obtain ⟨u',r',q⟩:=hl j y v' e1 e2 e3;refine ⟨u',r',?_⟩;rcases q with q | ⟨k,c',e,z'⟩
    ·exact .inl q
    ·refine .inr ⟨k,c',e,z'.sameBut hs ?_⟩;rintro rfl;exact hj (rX hN e1 (I.ok.inj _ _ _ e hc ▸ hi))
  ·by_cases hcc:c'=c
   ·subst hcc; exact ⟨_,hc'⟩
   ·obtain ⟨w2,z2⟩:=I.cell y c' e;exact ⟨w2,z2.sameBut hs hcc⟩
  ·obtain ⟨e,n,ne,nf,d⟩:=I.pin p hp;refine ⟨(hs.2 p.1 ?_).trans e,n,ne,nf,d⟩;intro q;rw [q,hoc] at e;have q':oc=p.2:=vc e;exact d w' (by rw [<- q']; exact hocd)
theorem jS {M:Model} {A:Around} {E:yw} {i:Nat} {x:Str} {v:V} {u:Value} {Q:Unit->Shared->Prop} (I:Inv X pins σ H s) (hN:X.N.Nodup) (hi:X.N[i]?=some x) (hx:iO X.env.scope x) (r:RelV v u)
  (h:∀ s',Inv X pins (σ.set i (some v)) H s'->Q () s') (hf:X.fn x=true\/X.env.scope.names.lookup x=some .local:=by first | exact .inl rfl | exact .inr rfl | assumption):wpAny M A (storeName X.env x u) Q E s :=
 ZaU I hN hi hx r (λs' I' _=>h s' I') hf
theorem Inv.call' {s':Shared} {ch:List Addr} (I:Inv X pins σ H s) (ho:s'.os=s.os) (u:Un (frs X.stack) ch H H' s.heap s'.heap) (hok:HOk X.prog X.w H' s'.heap) (hg:AllBare s'.gens)
  (hch:∀ b∈ch,(b∈X.ex\/X.s₀.heap.objs.size<=b)/\b≠X.env.locals/\(∀ x c,X.env.cells.lookup x=some c->c≠b)/\∀ p∈X.pn++pins,p.1≠b):Inv X pins σ H' s':=by
 obtain ⟨h',g',d',t',o'⟩:=s';have e:o'=s.os:=ho;subst e;exact I.call (g':=g') (t':=t') (d':=d') u hok hg hch
end
abbrev XK:=Value->Option Addr->Hp->Prop
abbrev St:=List (Option V)
abbrev VK:=V->Hp->Prop
abbrev TE:=St->Hp->VK->Prop
abbrev TT:=St->Hp->(Bool->Hp->Prop)->Prop
abbrev TA:=St->Hp->(List V->Hp->Prop)->Prop
structure Ends where
 nx:St->Hp->Prop
 rt:VK
 bk:St->Hp->Prop:=λ_ _=>False
 ct:St->Hp->Prop:=λ_ _=>False
abbrev TS:=Ends->St->Hp->Prop
def EP (X:Cx) (pins:yF) (σ:St) (Q:VK) (u:Value) (s':Shared):Prop:=∃ v H',Inv X pins σ H' s'/\RelV v u/\Q v H'
def TP (X:Cx) (pins:yF) (σ:St) (Q:Bool->Hp->Prop) (b:Bool) (s':Shared):Prop:=∃ H',Inv X pins σ H' s'/\Q b H'
def AP (X:Cx) (pins:yF) (σ:St) (Q:List V->Hp->Prop) (us:yz) (s':Shared):Prop:=∃ vs H',Inv X pins σ H' s'/\Vals vs us/\Q vs H'
noncomputable def SP (X:Cx) (pins:yF) (D:Ends) (f:Flow) (s':Shared):Prop :=
 match f with
 | .next=>∃ σ' H',Inv X pins σ' H' s'/\D.nx σ' H'
 | .brk=>∃ σ' H',Inv X pins σ' H' s'/\D.bk σ' H'
 | .cont=>∃ σ' H',Inv X pins σ' H' s'/\D.ct σ' H'
 | .ret u=>∃ v σ' H',Inv X pins σ' H' s'/\RelV v u/\D.rt v H'
noncomputable def PE (X:Cx) (e:Expr) (t:TE):Prop :=
 ∀ (pins:yF) (s:Shared) (σ:St) (H:Hp) (Q:VK),Inv X pins σ H s->t σ H Q->wpAny (model X.prog X.w) X.A (eval e X.env) (EP X pins σ Q) X.xe s
noncomputable def PT (X:Cx) (e:Expr) (t:TT):Prop :=
 ∀ (pins:yF) (s:Shared) (σ:St) (H:Hp) (Q:Bool->Hp->Prop),Inv X pins σ H s->t σ H Q->wpAny (model X.prog X.w) X.A (isTrue e X.env (eval e X.env)) (TP X pins σ Q) X.xe s
noncomputable def PW (X:Cx) (e:Expr) (t:TT):Prop :=
 ∀ (whole:Sem Value) (pins:yF) (s:Shared) (σ:St) (H:Hp) (Q:Bool->Hp->Prop),Inv X pins σ H s->t σ H Q->wpAny (model X.prog X.w) X.A (isTrue e X.env whole) (TP X pins σ Q) X.xe s
theorem PW.pt {X:Cx} {e:Expr} {t:TT} (h:PW X e t):PT X e t:=h _
noncomputable def PA (X:Cx) (es:List Expr) (t:TA):Prop :=
 ∀ (pos:Pos) (pins:yF) (s:Shared) (σ:St) (H:Hp) (Q:List V->Hp->Prop),Inv X pins σ H s->t σ H Q->wpAny (model X.prog X.w) X.A (spliced (backTo pos (starEach es X.env))) (AP X pins σ Q) X.xe s
noncomputable def PS (X:Cx) (st:Stmt) (t:TS):Prop :=
 ∀ (pins:yF) (s:Shared) (σ:St) (H:Hp) (D:Ends),Inv X pins σ H s->t D σ H->wpAny (model X.prog X.w) X.A (exec st X.env) (SP X pins D) X.xe s
noncomputable def PSs (X:Cx) (st:List Stmt) (t:TS):Prop :=
 ∀ (pins:yF) (s:Shared) (σ:St) (H:Hp) (D:Ends),Inv X pins σ H s->t D σ H->wpAny (model X.prog X.w) X.A (execs st X.env) (SP X pins D) X.xe s
theorem thn {α:Type} {t:Sem α} {Q Q':α->Shared->Prop} {M:Model} {A:Around} {E:yw} {s:Shared} (h:wpAny M A t Q E s) (hQ:∀ a s,Q a s->Q' a s):wpAny M A t Q' E s:=wpAny_mono h hQ λ_ _ x=>x
section
variable {X:Cx}
def eS (i:Nat):TE:=λσ H Q=>∃ v,σ[i]?=some (some v)/\Q v H
def tC (v:V):TE:=λ_ H Q=>Q v H
theorem ZiK {i:Nat} {x:Str} {pos:Pos} (hN:X.N[i]?=some x) (hv:kQ X.env.scope x) (hd:(x == ("__debug__":Str))=false:=by decide) (hcd:(x == ("__classdict__":Str))=false:=by decide):PE X (.Name x pos) (eS i):=by
 intro pins s σ H Q I h;obtain ⟨v,e,h⟩:=h;obtain ⟨m,hn,hl⟩:=I.loc;obtain ⟨u,r,l⟩:=hl i x v hN e hv;have fin:EP X pins σ Q u s:=⟨v,H,I,r,h⟩;rcases l with ⟨hk,hm⟩ | ⟨hk,c,hc,hcell⟩
 ·exact wpAny_Name (wpAny_loadName_local I.ok.kind hk hn hm fin) hd
 ·rcases hk with hk | hk
  ·exact wpAny_Name (wpAny_loadName_cell I.ok.kind hk hc hcell fin) hd
  ·exact wpAny_Name (wpAny_loadName_free I.ok.kind hk hc hcell fin hcd) hd
theorem cq {i j pos}:PE X (.Constant (.int i) j pos) (tC (.int i)):=λ_ _ _ H _ I h=>wpAny_Constant_int ⟨.int i,H,I.tok _,⟨_,rfl⟩,h⟩
theorem ZiX {b j pos}:PE X (.Constant (.bool b) j pos) (tC (.bl b)):=λ_ _ _ H _ I h=>Constant_bool ⟨.bl b,H,I,rfl,h⟩
theorem ZcF {j pos}:PE X (.Constant .none j pos) (tC .non):=λ_ _ _ H _ I h=>Constant_none ⟨.non,H,I,rfl,h⟩
theorem cX {x j pos}:PE X (.Constant (.str x) j pos) (tC (.str x)):=λ_ _ _ H _ I h=>Calls.Constant_str ⟨.str x,H,I.tok _,⟨_,rfl⟩,h⟩
def Gl (X:Cx) (x:Str):Prop:=X.env.kindOf x=some .globalImplicit
theorem oG {E:yw} {pins:yF} {s:Shared} {σ:St} {H:Hp} {x:Str} {u:Value} {pos:Pos} {Q:yw} (I:Inv X pins σ H s) (hg:Gl X x) (hm:X.mg x=some u) (h:Q u s)
  (hd:(x == ("__debug__":Str))=false:=by decide):wpAny (model X.prog X.w) X.A (eval (.Name x pos) X.env) Q E s :=
 xt I.ok.kind hg (Calls.loadGlobal_global (by rw [I.ok.glob]; exact I.mod.glob.keeps I.bk) hm h) hd
theorem iC {E:yw} {pins:yF} {s:Shared} {σ:St} {H:Hp} {x:Str} {u:Value} {pos:Pos} {Q:yw} (I:Inv X pins σ H s) (hg:Gl X x) (hm:X.mg x=none) (hv:bootBuiltins x=some u) (h:Q u s)
  (hn:x≠"__name__":=by decide) (hd:(x == ("__debug__":Str))=false:=by decide):wpAny (model X.prog X.w) X.A (eval (.Name x pos) X.env) Q E s:=by
 obtain ⟨mb,h1,h2⟩:=I.mod.blt;exact xt I.ok.kind hg (Calls.loadGlobal_builtin (by rw [I.ok.glob]; exact I.mod.glob.keeps I.bk) hm (by rw [I.ok.blt]; exact h1.keeps I.bk) ((h2 x hn).trans hv) h) hd
theorem gI {x:Str} {v:V} {u:Value} {pos:Pos} (hg:Gl X x) (hm:X.mg x=some u) (r:RelV v u) (hd:(x == ("__debug__":Str))=false:=by decide):PE X (.Name x pos) (tC v) :=
 λ_ _ _ H _ I h=>oG I hg hm ⟨v,H,I,r,h⟩ hd
theorem ik {x:Str} {v:V} {u:Value} {pos:Pos} (hg:Gl X x) (hm:X.mg x=none) (hv:bootBuiltins x=some u) (r:RelV v u) (hn:x≠"__name__":=by decide) (hd:(x == ("__debug__":Str))=false:=by decide):PE X (.Name x pos) (tC v) :=
 λ_ _ _ H _ I h=>iC I hg hm hv ⟨v,H,I,r,h⟩ hn hd
variable {a b:Expr} {ta tb:TE} {pos:Pos}
noncomputable def PC (X:Cx) (op:CmpOp) (a b:Expr) (t:TE):Prop :=
 ∀ (pins:yF) (s:Shared) (σ:St) (H:Hp) (Q:VK),Inv X pins σ H s->t σ H Q ->
  wpAny (model X.prog X.w) X.A (eval a X.env) (λv s₁=>wpAny (model X.prog X.w) X.A (eval b X.env) (λu s₂=>wpAny (model X.prog X.w) X.A (compareOp op v u) (EP X pins σ Q) X.xe s₂) X.xe s₁) X.xe s
def ZgN (ta:TE):TE:=λσ H Q=>ta σ H λx H1=>Q (.bl (decide (x=.non))) H1
theorem RelV.none_iff {x:V} {v:Value} (r:RelV x v):(v == Value.none)=decide (x=.non):=by
 cases x with
 | non=>cases r; rfl
 | bl _=>cases r; rfl
 | int _=>obtain ⟨t,rfl⟩:=r; rfl
 | str _=>obtain ⟨t,rfl⟩:=r; rfl
 | byt _=>obtain ⟨t,rfl⟩:=r; rfl
 | flt _=>obtain ⟨t,rfl⟩:=r; rfl
 | ref _=>cases r; rfl
 | ty _=>cases r; rfl
theorem Zi0 {j pos'} (ha:PE X a ta):PC X .Is a (.Constant .none j pos') (ZgN ta):=by
 intro pins s σ H Q I h;refine thn (ha pins s σ H _ I h) λv s1 hz0=>?_;obtain ⟨x,H1,I1,r1,q1⟩:=hz0;exact Constant_none (is_none_gen ⟨.bl _,H1,I1,by rw [r1.none_iff]; rfl,q1⟩)
def tB (t:TE):TT:=λσ H Q=>t σ H λx H1=>∃ c,x=.bl c/\Q c H1
theorem Zip {op:CmpOp} {t:TE} (h:PC X op a b t) (h1:behindInMarks op b=false:=by first | exact nobehind _ (by decide) (by decide) | rfl):PT X (.Compare a [op] [b] pos) (tB t):=by
 intro pins s σ H Q I hw;refine wpAny_isTrue_Compare1 (thn (h pins s σ H _ I hw) λv s1 h1=>thn h1 λu s2 h2=>thn h2 λc s3 hz0=>?_) h1;obtain ⟨x,H1,I1,r1,q1⟩:=hz0;obtain ⟨d,rfl,q⟩:=q1;cases r1;exact wpAny_truthy_bool ⟨H1,I1,q⟩
theorem Zcr {e:Expr} {t:TE} (h:PE X e t) (he:∀ whole,isTrue e X.env whole=(do let v <- whole; standAt e.pos; holding [v] (truthy v)):=by intro _; rfl):PT X e (tB t):=by
 intro pins s σ H Q I hw;refine isTrue_plain (thn (h pins s σ H _ I hw) λv s1 hz0=>?_) (he _);obtain ⟨x,H1,I1,r1,q1⟩:=hz0;obtain ⟨d,rfl,q⟩:=q1;cases r1;exact wpAny_truthy_bool ⟨H1,I1,q⟩
variable {tA tB':TT} {rest:List Expr}
def ZgV (t u:TT):TT:=λσ H Q=>t σ H λc H1=>if c=true then u σ H1 Q else Q false H1
def tOr (t u:TT):TT:=λσ H Q=>t σ H λc H1=>if c=true then Q true H1 else u σ H1 Q
def ZgG (t:TT):TT:=λσ H Q=>t σ H λc H1=>Q (!c) H1
theorem Zcp (ha:PT X a tA):PW X (.BoolOp .And [a] pos) tA:=by
 intro wh pins s σ H Q I h;refine isTrue_and (thn (ha pins s σ H Q I h) λc s1 e=>?_);cases c with
 | true=>exact isTrue_and_nil e
 | false=>exact e
theorem Zil (ha:PT X a tA):PW X (.BoolOp .Or [a] pos) tA:=by
 intro wh pins s σ H Q I h;refine isTrue_or (thn (ha pins s σ H Q I h) λc s1 e=>?_);cases c with
 | false=>exact isTrue_or_nil e
 | true=>exact e
theorem Zcq (ha:PT X a tA) (hb:PW X (.BoolOp .And (b::rest) pos) tB'):PW X (.BoolOp .And (a::b::rest) pos) (ZgV tA tB'):=by
 intro wh pins s σ H Q I h;refine isTrue_and (thn (ha pins s σ H _ I h) λc s1 hz0=>?_);obtain ⟨H1,I1,q1⟩:=hz0;cases c with
 | true=>exact hb wh pins s1 σ H1 Q I1 q1
 | false=>exact ⟨H1,I1,q1⟩
theorem Zim (ha:PT X a tA) (hb:PW X (.BoolOp .Or (b::rest) pos) tB'):PW X (.BoolOp .Or (a::b::rest) pos) (tOr tA tB'):=by
 intro wh pins s σ H Q I h;refine isTrue_or (thn (ha pins s σ H _ I h) λc s1 hz0=>?_);obtain ⟨H1,I1,q1⟩:=hz0;cases c with
 | true=>exact ⟨H1,I1,q1⟩
 | false=>exact hb wh pins s1 σ H1 Q I1 q1
theorem Zio (ha:PT X a tA):PT X (.UnaryOp .Not a pos) (ZgG tA):=by
 intro pins s σ H Q I h;exact isTrue_not (ha pins s σ H (λc H1=>Q (!c) H1) I h)
def ZgU (ta tb:TE):TE:=λσ H Q=>ta σ H λx H1=>∃ c,x=.bl c/\if c=true then tb σ H1 Q else Q (.bl false) H1
def ZgF (ta:TE):TE:=λσ H Q=>ta σ H λx H1=>∃ c,x=.bl c/\Q (.bl (!c)) H1
theorem ZcE {op} {t:TE} (h:PE X a t):PE X (.BoolOp op [a] pos) t:=λpins s σ H Q I hw=>BoolOp_one (h pins s σ H Q I hw)
theorem ZcH (ha:PE X a ta) (hb:PE X (.BoolOp .And (b::rest) pos) tb):PE X (.BoolOp .And (a::b::rest) pos) (ZgU ta tb):=by
 intro pins s σ H Q I h;refine BoolOp_and (thn (ha pins s σ H _ I h) λv s1 hz0=>?_);obtain ⟨x,H1,I1,r1,q1⟩:=hz0;obtain ⟨c,rfl,q1⟩:=q1;cases r1;refine wpAny_truthy_bool ?_;cases c with
 | true=>exact hb pins s1 σ H1 Q I1 q1
 | false=>exact ⟨.bl false,H1,I1,rfl,q1⟩
theorem ZiM (ha:PE X a ta):PE X (.UnaryOp .Not a pos) (ZgF ta):=by
 intro pins s σ H Q I h;refine UnaryOp_ (thn (ha pins s σ H _ I h) λv s1 hz0=>?_);obtain ⟨x,H1,I1,r1,q1⟩:=hz0;obtain ⟨c,rfl,q1⟩:=q1;cases r1;exact not_of (wpAny_truthy_bool ⟨.bl (!c),H1,I1,rfl,q1⟩)
def tIf (t:TT) (ta tb:TE):TE:=λσ H Q=>t σ H λc H1=>if c=true then ta σ H1 Q else tb σ H1 Q
theorem ZiP {c:Expr} (hc:PT X c tA) (ha:PE X a ta) (hb:PE X b tb):PE X (.IfExp c a b pos) (tIf tA ta tb):=by
 intro pins s σ H Q I h;refine wpAny_IfExp (thn (hc pins s σ H _ I h) λd s1 hz0=>?_);obtain ⟨H1,I1,q1⟩:=hz0;cases d with
 | true=>exact ha pins s1 σ H1 Q I1 q1
 | false=>exact hb pins s1 σ H1 Q I1 q1
end
noncomputable def SqL (K:ym) (H:Hp) (a:Addr) (xs:yB):Prop :=
 Rd H a (.lst xs) \/
  ∃ (o:Obj) (its:Array Value) (n:Nat),K.lookup a=some o/\o.cls=.type "list"/\o.dict=none/\o.data=.seq its n/\its.size<=sizeLine/\Vals xs its.toList
noncomputable def SqT (K:ym) (H:Hp) (a:Addr) (xs:yB):Prop :=
 Rd H a (.tup xs) \/
  ∃ (o:Obj) (its:Array Value) (n:Nat),K.lookup a=some o/\o.cls=.type "tuple"/\o.data=.seq its n/\its.size<=sizeLine/\Vals xs its.toList
noncomputable def Zql:Value->Option V
 | .none=>some .non
 | .bool b=>some (.bl b)
 | .int i _=>some (.int i)
 | .str x _=>some (.str x)
 | .bytes b _=>some (.byt b)
 | .float b _=>some (.flt b)
 | .ref a=>some (.ref a)
 | .type n=>some (.ty n)
 | _=>none
theorem RelV.abs {x:V} {u:Value} (r:RelV x u):Zql u=some x:=by
 cases x with
 | non=>cases r; rfl
 | bl _=>cases r; rfl
 | int _=>obtain ⟨t,rfl⟩:=r; rfl
 | str _=>obtain ⟨t,rfl⟩:=r; rfl
 | byt _=>obtain ⟨t,rfl⟩:=r; rfl
 | flt _=>obtain ⟨t,rfl⟩:=r; rfl
 | ref _=>cases r; rfl
 | ty _=>cases r; rfl
theorem RelV.inj {x y:V} {u:Value} (r:RelV x u) (q:RelV y u):x=y:=vc (r.abs.symm.trans q.abs)
theorem Vals.inj {xs ys:yB} {us:yz} (h:Vals xs us) (h':Vals ys us):xs=ys:=by
 induction h generalizing ys with
 | nil=>cases h'; rfl
 | cons r t ih=>cases h' with | cons r' t'=>rw [r.inj r',ih t']
section
variable {X:Cx} {pins:yF} {σ:St} {H:Hp} {s:Shared} {a:Addr} {xs ys:yB}
theorem SqL.of {K:ym} (h:H a=some (.lst xs)):SqL K H a xs:=.inl (.inl h)
theorem SqT.of {K:ym} (h:H a=some (.tup xs)):SqT K H a xs:=.inl (.inl h)
theorem Inv.list (I:Inv X pins σ H s) (h:SqL X.K H a xs):∃ its:yz,Vals xs its/\PlainL s.heap a its.toArray/\xs.length<=sizeLine:=by
 rcases h with h | ⟨o,its,n,hk,hc,hd,hs,hz,r⟩
 ·obtain ⟨z,its,n,r,e⟩:=h.ok I.hok;exact ⟨its,r,⟨_,n,e,rfl,rfl,rfl⟩,z⟩
 ·refine ⟨its.toList,r,⟨o,n,I.kIn a o hk,hc,hd,by simpa using hs⟩,?_⟩
  have e:=r.length;simp only [xL] at e;omega
theorem Inv.tuple (I:Inv X pins σ H s) (h:SqT X.K H a xs):∃ its:yz,Vals xs its/\IsTup s.heap a its.toArray/\xs.length<=sizeLine:=by
 rcases h with h | ⟨o,its,n,hk,hc,hs,hz,r⟩
 ·obtain ⟨z,its,r,p⟩:=h.ok I.hok;exact ⟨its,r,p,z⟩
 ·refine ⟨its.toList,r,⟨o,I.kIn a o hk,hc,n,by simpa using hs⟩,?_⟩
  have e:=r.length;simp only [xL] at e;omega
theorem Inv.list_inj (I:Inv X pins σ H s) (h:SqL X.K H a xs) (h':SqL X.K H a ys):xs=ys:=by
 obtain ⟨its,r,⟨o,n,e,_,_,d⟩,_⟩:=I.list h;obtain ⟨its',r',⟨o',n',e',_,_,d'⟩,_⟩:=I.list h';rw [e] at e'; cases e';rw [d] at d';injection d' with d1 _;have:its=its':=by simpa using congrArg Array.toList d1
 subst this;exact r.inj r'
theorem Inv.tuple_inj (I:Inv X pins σ H s) (h:SqT X.K H a xs) (h':SqT X.K H a ys):xs=ys:=by
 obtain ⟨its,r,⟨o,e,_,n,d⟩,_⟩:=I.tuple h;obtain ⟨its',r',⟨o',e',_,n',d'⟩,_⟩:=I.tuple h';rw [e] at e'; cases e';rw [d] at d';injection d' with d1 _;have:its=its':=by simpa using congrArg Array.toList d1
 subst this;exact r.inj r'
end
abbrev Cx.wish (X:Cx) (E:yw):Cx:={ X with xe:=E }
abbrev Cx.nox (X:Cx):Cx:=X.wish λ_ _=>False
theorem Cx.Ok.wish {X:Cx} (ok:X.Ok) (E:yw):(X.wish E).Ok :=
 ⟨ok.mod,ok.kind,ok.glob,ok.blt,ok.above,ok.inj,ok.has,ok.cab,ok.hd,ok.frames,ok.stk,ok.exf,ok.bs,ok.bsz,ok.noex,ok.exfs,ok.funs,ok.frf⟩
theorem Cx.Ok.unwish {X:Cx} {E:yw} (ok:(X.wish E).Ok):X.Ok :=
 ⟨ok.mod,ok.kind,ok.glob,ok.blt,ok.above,ok.inj,ok.has,ok.cab,ok.hd,ok.frames,ok.stk,ok.exf,ok.bs,ok.bsz,ok.noex,ok.exfs,ok.funs,ok.frf⟩
section
variable {X:Cx} {pins:yF} {σ:St} {H:Hp} {s:Shared} {E:yw}
theorem Inv.wish (I:Inv X pins σ H s) (E:yw):Inv (X.wish E) pins σ H s:=⟨I.ok.wish E,I.os,I.bare,I.base,I.loc,I.cell,I.free,I.freeC,I.pin,I.hok,I.len⟩
theorem Inv.unwish (I:Inv (X.wish E) pins σ H s):Inv X pins σ H s:=⟨I.ok.unwish,I.os,I.bare,I.base,I.loc,I.cell,I.free,I.freeC,I.pin,I.hok,I.len⟩
theorem SP.unwish {D:Ends} {f:Flow} {s':Shared} (h:SP (X.wish E) pins D f s'):SP X pins D f s':=by
 cases f with
 | next=>obtain ⟨σ',H',I,q⟩:=h; exact ⟨σ',H',I.unwish,q⟩
 | brk=>obtain ⟨σ',H',I,q⟩:=h; exact ⟨σ',H',I.unwish,q⟩
 | cont=>obtain ⟨σ',H',I,q⟩:=h; exact ⟨σ',H',I.unwish,q⟩
 | ret u=>obtain ⟨v,σ',H',I,r,q⟩:=h; exact ⟨v,σ',H',I.unwish,r,q⟩
theorem PE.nox {e:Expr} {t:TE} (h:PE X.nox e t):PE X e t:=λpins s σ H Q I hw =>
 wpAny_mono (h pins s σ H Q (I.wish _) hw) (λ_ _ ⟨v,H',I',r,q⟩=>⟨v,H',I'.unwish,r,q⟩) λ_ _ z=>False.elim z
theorem PSs.nox {st:List Stmt} {t:TS} (h:PSs X.nox st t):PSs X st t:=λpins s σ H D I hw =>
 wpAny_mono (h pins s σ H D (I.wish _) hw) (λ_ _ q=>q.unwish) λ_ _ z=>False.elim z
end
section
variable {X:Cx} {st:Stmt} {rest:List Stmt} {t u:TS} {e:Expr} {te:TE} {pos:Pos}
def ZgI:TS:=λD σ H=>D.nx σ H
def Zax (t u:TS):TS:=λD σ H=>t { D with nx:=u D } σ H
theorem i0:PSs X [] ZgI:=λ_ _ σ H _ I h=>wpAny_execs_nil ⟨σ,H,I,h⟩
theorem cG (h1:PS X st t) (h2:PSs X rest u):PSs X (st::rest) (Zax t u):=by
 intro pins s σ H D I h;refine wpAny_execs_cons (thn (h1 pins s σ H { D with nx:=u D } I h) λf s1 q=>?_);cases f with
 | next =>
  obtain ⟨σ',H',I',q⟩:=q;exact h2 pins s1 σ' H' D I' q
 | ret v=>exact q
 | brk=>exact q
 | cont=>exact q
theorem eI (h1:PS X st t):PSs X [st] t:=by
 intro pins s σ H D I h;refine wpAny_execs_cons (thn (h1 pins s σ H D I h) λf s1 q=>?_);cases f with
 | next=>exact wpAny_execs_nil q
 | ret v=>exact q
 | brk=>exact q
 | cont=>exact q
theorem Inv.quiet {pins:yF} {σ:St} {H:Hp} {s:Shared} (I:Inv X pins σ H s):interactive X.env=false:=by simp [interactive,I.ok.kind]
def qp (te:TE):TS:=λD σ H=>te σ H λ_ H1=>D.nx σ H1
theorem i6 (he:PE X e te) (hs:swapsWith e none pos.line X.env=pure false:=by rfl):PS X (.Expr e pos) (qp te):=by
 intro pins s σ H D I h;exact wpAny_Expr_any (thn (he pins s σ H _ I h) λv s1 ⟨x,H1,I1,r1,q1⟩=>⟨σ,H1,I1,q1⟩) I.quiet hs
def ZgC (te:TE):TS:=λD σ H=>te σ H D.rt
theorem eV (he:PE X e te):PS X (.Return (some e) pos) (ZgC te):=by
 intro pins s σ H D I h;exact wpAny_Return_some (thn (he pins s σ H _ I h) λv s1 ⟨x,H1,I1,r1,q1⟩=>⟨x,σ,H1,I1,r1,q1⟩)
def ZaB (c:TT) (t u:TS):TS:=λD σ H=>c σ H λb H1=>if b=true then t D σ H1 else u D σ H1
theorem i5 {c:Expr} {a b:List Stmt} {tc:TT} (hc:PT X c tc) (ha:PSs X a t) (hb:PSs X b u):PS X (.If c a b pos) (ZaB tc t u):=by
 intro pins s σ H D I h;refine wpAny_If (thn (hc pins s σ H _ I h) λd s1 hz0=>?_);obtain ⟨H1,I1,q1⟩:=hz0;cases d with
 | true=>exact ha pins s1 σ H1 D I1 q1
 | false=>exact hb pins s1 σ H1 D I1 q1
def ZgJ:TS:=λ_ _ _=>False
theorem nE {sts:List Stmt}:PSs X sts ZgJ:=λ_ _ _ _ _ _ h=>h.elim
end
abbrev TG:=V->St->Hp->(St->Hp->Prop)->Prop
abbrev hI:=List V->St->Hp->(St->Hp->Prop)->Prop
noncomputable def PG (X:Cx) (target:Expr) (t:TG):Prop :=
 ∀ (pins:yF) (s:Shared) (σ:St) (H:Hp) (v:V) (u:Value) (Q:St->Hp->Prop),Inv X pins σ H s->RelV v u->t v σ H Q ->
  wpAny (model X.prog X.w) X.A (assign target X.env u) (λ_ s'=>∃ σ' H',Inv X pins σ' H' s'/\Q σ' H') X.xe s
noncomputable def PGs (X:Cx) (ts:List Expr) (t:hI):Prop :=
 ∀ (pins:yF) (s:Shared) (σ:St) (H:Hp) (vs:yB) (us:yz) (Q:St->Hp->Prop),Inv X pins σ H s->Vals vs us->t vs σ H Q ->
  wpAny (model X.prog X.w) X.A (assignInOrder ((assignEach ts X.env).map (·.2)) us) (λ_ s'=>∃ σ' H',Inv X pins σ' H' s'/\Q σ' H') X.xe s
abbrev mI:=V->V->V->Hp->(Hp->Prop)->Prop
noncomputable def uG (X:Cx) (t:mI):Prop :=
 ∀ (pins:yF) (s:Shared) (σ:St) (H:Hp) (o i v:V) (ov iv u:Value) (Q:Hp->Prop),Inv X pins σ H s->RelV o ov->RelV i iv->RelV v u->t o i v H Q ->
  wpAny (model X.prog X.w) X.A (setItem ov iv u) (λ_ s'=>∃ H',Inv X pins σ H' s'/\Q H') X.xe s
abbrev kR:=V->V->Hp->VK->Prop
noncomputable def mK (X:Cx) (op:Operator) (t:kR):Prop :=
 ∀ (pins:yF) (s:Shared) (σ:St) (H:Hp) (x y:V) (v u:Value) (Q:VK),Inv X pins σ H s->RelV x v->RelV y u->t x y H Q ->
  wpAny (model X.prog X.w) X.A (inplaceOp op v u) (EP X pins σ Q) X.xe s
section
variable {X:Cx} {pos:Pos}
def gj (i:Nat):TG:=λv σ H Q=>Q (σ.set i (some v)) H
theorem ZiF {i:Nat} {x:Str} (hN:X.N.Nodup) (hi:X.N[i]?=some x) (hx:iO X.env.scope x) (hf:X.fn x=true\/X.env.scope.names.lookup x=some .local:=by first | exact .inl rfl | exact .inr rfl | assumption):PG X (.Name x pos) (gj i):=by
 intro pins s σ H v u Q I r h;exact wpAny_assign_Name (jS I hN hi hx r (λs' I'=>⟨_,H,I',h⟩) hf)
theorem aN {i:Nat} {x:Str} (hN:X.N.Nodup) (hi:X.N[i]?=some x:=by rfl) (hx:iO X.env.scope x:=by first | exact Or.inl rfl | exact Or.inr rfl) (hf:X.fn x=true\/X.env.scope.names.lookup x=some .local:=by first | exact .inl rfl | exact .inr rfl | assumption):PG X (.Name x pos) (gj i):=ZiF hN hi hx hf
noncomputable def Zk5:hI:=λvs σ H Q=>vs=[]/\Q σ H
noncomputable def Zk6 (t:TG) (u:hI):hI:=λvs σ H Q=>∃ v r,vs=v::r/\t v σ H λσ' H'=>u r σ' H' Q
theorem ZiC:PGs X [] Zk5:=by
 intro pins s σ H vs us Q I r h;obtain ⟨e,h⟩:=h;subst e;cases r;exact assignInOrder_nil ⟨σ,H,I,h⟩
theorem ZiD {e:Expr} {es:List Expr} {t:TG} {u:hI} (h1:PG X e t) (h2:PGs X es u)
  (hs:(assignEach (e::es) X.env).map (·.2)=assign e X.env::(assignEach es X.env).map (·.2):=by rfl):PGs X (e::es) (Zk6 t u):=by
 intro pins s σ H vs us Q I r h;obtain ⟨v,vr,e1,h⟩:=h;subst e1;cases r with
 | cons r rr =>
  rw [hs];refine assignInOrder_cons (thn (h1 pins s σ H _ _ _ I r h) λ_ s1 hz0=>?_);obtain ⟨σ1,H1,I1,q1⟩:=hz0;exact h2 pins s1 σ1 H1 _ _ Q I1 rr q1
def Zk4 (K:ym) (n:Nat) (t:hI):TG:=λv σ H Q=>∃ a xs,v=.ref a/\SqT K H a xs/\xs.length=n/\t xs σ H Q
theorem ZiE {es:List Expr} {k:Nat} {t:hI} {n:Nat} (hc:X.calm=true) (h:PGs X es t)
  (hn:(assignEach es X.env).length=n:=by rfl) (hst:(assignEach es X.env).findIdx? (·.1)=none:=by rfl):PG X (.Tuple es k pos) (Zk4 X.K n t):=by
 intro pins s σ H v u Q I r hw;obtain ⟨a,xs,e1,hq,hl,hw⟩:=hw;subst e1;cases r;obtain ⟨its,rv,ht,hz⟩:=I.tuple hq;refine assign_Tuple_tuple (I.ok.hd hc) ht (by simp [hn,<- hl,rv.length]) hst λh' hx=>?_
 have I1:Inv X pins σ H { s with heap:=h' }:=I.kept (t':=s.toks) λb o e=>hx b o (u9 (uY e)) e;exact h pins _ σ H xs _ Q I1 (by simpa using rv) hw
def ZdT (to ti:TE) (t:mI):TG:=λv σ H Q=>to σ H λo H1=>ti σ H1 λi H2=>t o i v H2 λH3=>Q σ H3
theorem rN {o i:Expr} {to ti:TE} {t:mI} (ho:PE X o to) (hi:PE X i ti) (hs:uG X t)
  (ha:∀ v,assign (.Subscript o i pos) X.env v=(do
   let ov <- holding [v] (eval o X.env)
   let iv <- holding [v,ov] (eval i X.env)
   standAt pos
   holding [v,ov,iv] (setItem ov iv v)
   release [v,ov,iv] []):=by intro _; rfl):PG X (.Subscript o i pos) (ZdT to ti t):=by
 intro pins s σ H v u Q I r h;rw [ha];refine wpAny_bind (wpAny_holding (thn (ho pins s σ H _ I h) λov s1 hz0=>?_));obtain ⟨x,H1,I1,r1,q1⟩:=hz0;refine wpAny_bind (wpAny_holding (thn (hi pins s1 σ H1 _ I1 q1) λiv s2 hz0=>?_));obtain ⟨y,H2,I2,r2,q2⟩:=hz0;refine wpAny_bind (wpAny_standAt (wpAny_bind (wpAny_holding (thn (hs pins s2 σ H2 x y v ov iv u _ I2 r1 r2 r q2) λ_ s3 hz0=>?_))));obtain ⟨H3,I3,q3⟩:=hz0;exact wpAny_release ⟨σ,H3,I3,q3⟩
def ft (te:TE) (g:TG):TS:=λD σ H=>te σ H λx H1=>g x σ H1 D.nx
theorem dX {tg e:Expr} {te:TE} {g:TG} (he:PE X e te) (hg:PG X tg g) (hs:swapsWithSole [tg] e pos.line X.env=pure false:=by rfl) (hw:swappedStores [tg] e X.env=pure none:=by rfl)
  (h1:(assignEach [tg] X.env).map (·.2)=[assign tg X.env]:=by rfl):PS X (.Assign [tg] e pos) (ft te g):=by
 intro pins s σ H D I h;refine wpAny_Assign_stores (thn (he pins s σ H _ I h) λv s1 hz0=>?_) hs hw;obtain ⟨x,H1,I1,r1,q1⟩:=hz0;rw [h1];exact thn (hg pins s1 σ H1 x v _ I1 r1 q1) λ_ s2 q=>q
theorem Zct {i:Nat} {x:Str} {e:Expr} {te:TE} {pos':Pos} (hN:X.N.Nodup) (hi:X.N[i]?=some x) (hx:iO X.env.scope x) (he:PE X e te) (hs:swapsWith e (some (.Name x pos')) pos.line X.env=pure false:=by rfl) (hf:X.fn x=true\/X.env.scope.names.lookup x=some .local:=by first | exact .inl rfl | exact .inr rfl | assumption) :
  PS X (.Assign [.Name x pos'] e pos) (ft te (gj i)):=by
 intro pins s σ H D I h;refine wpAny_Assign_Name (thn (he pins s σ H _ I h) λv s1 hz0=>?_) hs;obtain ⟨y,H1,I1,r1,q1⟩:=hz0;exact jS I1 hN hi hx r1 (λs2 I2=>⟨_,H1,I2,q1⟩) hf
theorem aU {i:Nat} {x:Str} {e:Expr} {te:TE} {pos':Pos} (hN:X.N.Nodup) (he:PE X e te) (hi:X.N[i]?=some x:=by rfl) (hx:iO X.env.scope x:=by first | exact Or.inl rfl | exact Or.inr rfl) (hs:swapsWith e (some (.Name x pos')) pos.line X.env=pure false:=by rfl) (hf:X.fn x=true\/X.env.scope.names.lookup x=some .local:=by first | exact .inl rfl | exact .inr rfl | assumption):PS X (.Assign [.Name x pos'] e pos) (ft te (gj i)):=Zct hN hi hx he hs hf
def Zaz (i j:Nat) (ta:TA):TS:=λD σ H=>ta σ H λvs H1=>∃ v w,vs=[v,w]/\D.nx ((σ.set i (some v)).set j (some w)) H1
theorem Zcu {i j:Nat} {x y:Str} {a b:Expr} {ta:TA} {px py pt:Pos} {kt k2 pt2} (hc:X.calm=true) (hN:X.N.Nodup) (hi:X.N[i]?=some x) (hj:X.N[j]?=some y) (hij:i≠j)
  (hx:X.env.scope.names.lookup x=some .local) (hy:X.env.scope.names.lookup y=some .local) (ha:PA X [a,b] ta)
  (hw:swappedStores [.Tuple [.Name x px,.Name y py] kt pt] (.Tuple [a,b] k2 pt2) X.env=pure (some [x,y]))
  (hs:swapsWithSole [.Tuple [.Name x px,.Name y py] kt pt] (.Tuple [a,b] k2 pt2) pos.line X.env=pure false:=by rfl) :
  PS X (.Assign [.Tuple [.Name x px,.Name y py] kt pt] (.Tuple [a,b] k2 pt2) pos) (Zaz i j ta):=by
 intro pins s σ H D I h;rw [exec_Assign_arm];refine wpAny_bind (wpAny_standAt ?_);rw [hs];refine wpAny_bind (wpAny_pure ?_);rw [if_neg (by decide)]
 refine wpAny_bind (Tuple_ (thn (ha _ pins s σ H _ I h) λus s1 hz0=>?_));obtain ⟨vs,H1,I1,r1,q1⟩:=hz0;obtain ⟨v,w,e1,q1⟩:=q1;subst e1;obtain ⟨u1,u2,rfl,rv,rw'⟩:∃ u1 u2,us=[u1,u2]/\RelV v u1/\RelV w u2:=by
  cases r1 with
  | cons p q =>
   cases q with
   | cons p' q' =>
    cases q';exact ⟨_,_,rfl,p,p'⟩
 refine wpAny_newObj_type ?_ (by show 2<=sizeLine; decide)
 have I2:Inv X pins σ H1 { s1 with heap:=s1.heap.push { cls:=.type "tuple",data:=.seq [u1,u2].toArray } }:=I1.kept (t':=s1.toks) λb o e=>uN _ e;rw [hw];refine wpAny_bind (wpAny_pure ?_);show wpAny (model X.prog X.w) X.A (do rule "assign.swapped-stores"; let items <- unpackItems (.ref s1.heap.objs.size) 2 none; assignInOrder [λv=>bindName X.env y v,λv=>bindName X.env x v] items.reverse; pure Flow.next) _ _ _
 refine wpAny_bind (wpAny_rule (wpAny_bind (unpackItems_tuple (items:=#[u1,u2]) (I.ok.hd hc) (IsTup.new s1.heap _) λh' hx'=>?_)));have I3:=I2.kept (h':=h') (t':=s1.toks) λb o e=>hx' b o (u9 (uY e)) e;show wpAny _ _ (assignInOrder [λv=>bindName X.env y v,λv=>bindName X.env x v] [u2,u1] >>= λ_=>pure Flow.next) _ _ _;refine wpAny_bind (assignInOrder_cons (wpAny_bindName (jS I3 hN hj (.inl hy) rw' (λs2 I4=>?_) (.inr hy))));refine assignInOrder_cons (wpAny_bindName (jS I4 hN hi (.inl hx) rv (λs3 I5=>assignInOrder_nil (wpAny_pure ?_)) (.inr hx)));rw [List.set_comm _ _ (Ne.symm hij)] at I5;exact ⟨_,H1,I5,q1⟩
def ZaH (i:Nat) (te:TE) (ti:kR):TS:=λD σ H=>∃ x,σ[i]?=some (some x)/\te σ H λy H1=>ti x y H1 λz H2=>D.nx (σ.set i (some z)) H2
theorem rF {i:Nat} {x:Str} {e:Expr} {te:TE} {op:Operator} {ti:kR} {pos':Pos} (hN:X.N.Nodup) (hi:X.N[i]?=some x) (hx:iO X.env.scope x) (he:PE X e te) (ho:mK X op ti) (hf:X.fn x=true\/X.env.scope.names.lookup x=some .local:=by first | exact .inl rfl | exact .inr rfl | assumption) :
  PS X (.AugAssign (.Name x pos') op e pos) (ZaH i te ti):=by
 intro pins s σ H D I h;obtain ⟨v,e1,h⟩:=h;obtain ⟨m,hn,hl⟩:=I.loc;have vis:kQ X.env.scope x:=by rcases hx with k | k; exact .inl k; exact .inr (.inl k)
 obtain ⟨u,r,l⟩:=hl i x v hi e1 vis;refine wpAny_AugAssign_Name ?_;have go:wpAny (model X.prog X.w) X.A (eval e X.env) (λw s₂=>wpAny (model X.prog X.w) X.A (inplaceOp op u w) (λr s₃=>wpAny (model X.prog X.w) X.A (storeName X.env x r) (λ_=>SP X pins D .next) X.xe s₃) X.xe s₂) X.xe s:=by
  refine thn (he pins s σ H _ I h) λw s1 hz0=>?_;obtain ⟨y,H1,I1,r1,q1⟩:=hz0;refine thn (ho pins s1 σ H1 v y u w _ I1 r r1 q1) λz s2 hz0=>?_;obtain ⟨zv,H2,I2,r2,q2⟩:=hz0;exact jS I2 hN hi hx r2 (λs3 I3=>⟨_,H2,I3,q2⟩) hf
 rcases l with ⟨hk,hm⟩ | ⟨hk,c,hc,hcell⟩
 ·exact wpAny_loadName_local I.ok.kind hk hn hm go
 ·rcases hk with hk | hk
  ·exact wpAny_loadName_cell I.ok.kind hk hc hcell go
  ·rcases hx with k | k
   ·have:X.env.scope.names.lookup x=some .free:=hk;rw [k] at this; cases this
   ·have:X.env.scope.names.lookup x=some .free:=hk;rw [k] at this; cases this
def ZaG (to ti te:TE) (tget:V->V->Hp->VK->Prop) (tip:kR) (tset:mI):TS:=λD σ H=>to σ H λo H1=>ti σ H1 λi H2=>tget o i H2 λx H3=>te σ H3 λy H4=>tip x y H4 λz H5=>tset o i z H5 λH6=>D.nx σ H6
noncomputable def ZfI (X:Cx) (t:V->V->Hp->VK->Prop):Prop :=
 ∀ (pins:yF) (s:Shared) (σ:St) (H:Hp) (o i:V) (ov iv:Value) (Q:VK),Inv X pins σ H s->RelV o ov->RelV i iv->t o i H Q ->
  wpAny (model X.prog X.w) X.A (getItem ov iv) (EP X pins σ Q) X.xe s
theorem Zcv {o i e:Expr} {to ti te:TE} {tget:V->V->Hp->VK->Prop} {tip:kR} {tset:mI} {op:Operator} {tpos:Pos} (ho:PE X o to) (hi:PE X i ti) (hg:ZfI X tget) (he:PE X e te) (hp:mK X op tip) (hs:uG X tset)
  (ha:∀ ov iv new,augStore i ov iv new=(do holding [new,ov,iv] (setItem ov iv new); release [new,ov,iv] []; pure .next):=by intros; rfl):PS X (.AugAssign (.Subscript o i tpos) op e pos) (ZaG to ti te tget tip tset):=by
 intro pins s σ H D I h;refine wpAny_AugAssign_SubscriptAny (thn (ho pins s σ H _ I h) λov s1 hz0=>?_) ha;obtain ⟨x1,H1,I1,r1,q1⟩:=hz0;refine thn (hi pins s1 σ H1 _ I1 q1) λiv s2 hz0=>?_;obtain ⟨x2,H2,I2,r2,q2⟩:=hz0;refine thn (hg pins s2 σ H2 x1 x2 ov iv _ I2 r1 r2 q2) λold s3 hz0=>?_;obtain ⟨x3,H3,I3,r3,q3⟩:=hz0;refine thn (he pins s3 σ H3 _ I3 q3) λv s4 hz0=>?_;obtain ⟨x4,H4,I4,r4,q4⟩:=hz0;refine thn (hp pins s4 σ H4 x3 x4 old v _ I4 r3 r4 q4) λnew s5 hz0=>?_;obtain ⟨x5,H5,I5,r5,q5⟩:=hz0;exact thn (hs pins s5 σ H5 x1 x2 x5 ov iv new _ I5 r1 r2 r5 q5) λ_ s6 hz0=>by
  obtain ⟨H6,I6,q6⟩:=hz0;exact ⟨σ,H6,I6,q6⟩
noncomputable def sL (f:Int->Int->Int):kR:=λx y H Q=>∃ i j,x=.int i/\y=.int j/\Q (.int (f i j)) H
theorem ZkJ:mK X .Add (sL λi j=>i+j):=by
 intro pins s σ H x y v u Q I r1 r2 h;obtain ⟨i,j,e1,e2,q⟩:=h;subst e1; subst e2;obtain ⟨t,rfl⟩:=r1;obtain ⟨t',rfl⟩:=r2;exact iadd_int ⟨.int _,H,I.tok _,⟨_,rfl⟩,q⟩
theorem ZkI:mK X .Sub (sL λi j=>i - j):=by
 intro pins s σ H x y v u Q I r1 r2 h;obtain ⟨i,j,e1,e2,q⟩:=h;subst e1; subst e2;obtain ⟨t,rfl⟩:=r1;obtain ⟨t',rfl⟩:=r2;exact isub_int ⟨.int _,H,I.tok _,⟨_,rfl⟩,q⟩
end
section
variable {X:Cx} {pos:Pos}
def Zgu (c:TT) (tb:TS):TS:=λD σ H=>∃ W:Nat->St->Hp->Prop,(∃ m,W m σ H)/\∀ m σ H,W m σ H ->
 c σ H λb H1=>if b=true then ∃ N:St->Hp->Prop,(∀ σ' H',N σ' H'->∃ m',m' < m/\W m' σ' H')/\tb { D with nx:=N,ct:=N,bk:=D.nx } σ H1 else D.nx σ H1
theorem Zir {c:Expr} {body:List Stmt} {tc:TT} {tb:TS} (hp:PassesOwn (model X.prog X.w) X.A X.env X.xe) (hc:PT X c tc) (hb:PSs X body tb):PS X (.While c body [] pos) (Zgu tc tb):=by
 intro pins s σ H D I h;obtain ⟨W,⟨m0,w0⟩,turn⟩:=h;refine wpAny_While (codeAny_whileLoop (λn s'=>∃ σ' H',Inv X pins σ' H' s'/\W n σ' H') ?_ m0 ⟨σ,H,I,w0⟩);rintro n s1 ⟨σ1,H1,I1,w1⟩;refine wpAny_passesOwn hp (thn (hc pins s1 σ1 H1 _ I1 (turn n σ1 H1 w1)) λb s2 hz0=>?_);obtain ⟨H2,I2,q2⟩:=hz0;cases b with
 | true =>
  obtain ⟨N,hN,q2⟩:=q2;rw [if_pos rfl];refine wpAny_passesOwn hp (thn (hb pins s2 σ1 H2 _ I2 q2) λf s3 q3=>?_);cases f with
  | next =>
   obtain ⟨σ3,H3,I3,n3⟩:=q3;obtain ⟨m',hm,w3⟩:=hN σ3 H3 n3;exact ⟨m',hm,σ3,H3,I3,w3⟩
  | cont =>
   obtain ⟨σ3,H3,I3,n3⟩:=q3;obtain ⟨m',hm,w3⟩:=hN σ3 H3 n3;exact ⟨m',hm,σ3,H3,I3,w3⟩
  | brk=>exact q3
  | ret v=>exact q3
 | false =>
  rw [if_neg u3];exact wpAny_execs_nil ⟨σ1,H2,I2,q2⟩
end
structure It where
 go:Nat->Hp->Prop
 yld:Nat->Hp->V->Hp->Prop
 stop:Nat->Hp->Prop
noncomputable def fO (X:Cx) (pins:yF) (H:Hp) (b:Addr):Prop :=
 H b=none/\b≠X.env.locals/\b ∉ X.fs/\(b∈X.ex\/X.s₀.heap.objs.size<=b)/\(∀ x c,X.env.cells.lookup x=some c->c≠b)/\∀ p∈X.pn++pins,p.1≠b
theorem Inv.fpOk {X:Cx} {pins:yF} {σ:St} {H H':Hp} {s:Shared} {b:Addr} (I:Inv X pins σ H s) (hb:s.heap.objs.size<=b) (hn:H' b=none):fO X pins H' b:=by
 refine ⟨hn,vO (uU I.lt hb),I.nofs hb,.inr (u8 I.sz hb),λx c e z=>?_,λp hp z=>?_⟩
 ·obtain ⟨v,q⟩:=I.cell x c e;exact absurd (uU q.lt (by rw [z]; exact hb)) (ve _)
 ·exact absurd (uU (uY (I.pin p hp).1) (by rw [z]; exact hb)) (ve _)
structure Turn (P:Program) (w:World) (K:ym) (tg:Expr) (J:It) (fp:List Addr) (it:Addr) (tn:Nat->Heap->Prop):Prop where
 mem:it∈fp
 obj:∀ i h,tn i h->∀ b∈fp,∃ o,h.get? b=some o/\∀ v,o.data≠.cell v
 keep:∀ i h h',tn i h->(∀ b∈fp,∀ o,h.get? b=some o->h'.get? b=some o)->tn i h'
 item:∀ (X:Cx),X.prog=P->X.w=w->X.K=K->X.calm=true->∀ (i:Nat) (pins:yF) (s:Shared) (σ:St) (H:Hp) (E:yw),Inv X pins σ H s->(∀ b∈fp,fO X pins H b)->tn i s.heap->J.go i H ->
  wpAny (model P w) X.A (pyNext (.ref it)) (λr s1=>∃ u,r=some u /\
   wpAny (model P w) X.A (letOwnedTupleGo tg (.ref it) u) (λ_ s2=>∃ x H',Inv X pins σ H' s2/\RelV x u/\J.yld i H x H'/\tn (i+1) s2.heap/\∀ b∈fp,H' b=none) E s1) E s
 done:∀ (X:Cx),X.prog=P->X.w=w->X.K=K->X.calm=true->∀ (i:Nat) (pins:yF) (s:Shared) (σ:St) (H:Hp) (E:yw),Inv X pins σ H s->(∀ b∈fp,fO X pins H b)->tn i s.heap->J.stop i H ->
  wpAny (model P w) X.A (pyNext (.ref it)) (λr s1=>r=none/\Inv X pins σ H s1) E s
 self:∀ (A:Around) (i:Nat) (s:Shared) (Q:yw) (E:yw),tn i s.heap->Q (.ref it) s->wpAny (model P w) A (pyIter (.ref it)) Q E s
abbrev TI:=St->Hp->(It->Hp->Prop)->Prop
noncomputable def pU (X:Cx) (pins:yF) (σ:St) (tg:Expr) (R:It->Hp->Prop) (itv:Value) (s2:Shared):Prop :=
 ∃ (it:Addr) (fp:List Addr) (tn:Nat->Heap->Prop) (J:It) (H':Hp),itv=.ref it/\Inv X pins σ H' s2/\Turn X.prog X.w X.K tg J fp it tn/\tn 0 s2.heap/\(∀ b∈fp,fO X pins H' b)/\R J H'
noncomputable def PI (X:Cx) (tg iter:Expr) (wi:TI):Prop :=
 ∀ (pins:yF) (s:Shared) (σ:St) (H:Hp) (R:It->Hp->Prop),Inv X pins σ H s->wi σ H R ->
  wpAny (model X.prog X.w) X.A (eval iter X.env) (λv s1=>wpAny (model X.prog X.w) X.A (pyIter v) (pU X pins σ tg R) X.xe s1) X.xe s
theorem md {M:Model} {A:Around} {E:yw} {s:Shared} {tg:Expr} {it:Addr} {u:Value} {o:Obj} {n:String} {vs:Array Value} {Q:Unit->Shared->Prop} (ho:s.heap.get? it=some o) (hc:o.cls=.type n) (hd:o.data=.fields vs)
  (hn:["enumerate","zip","dict_itemiterator","dict_reverseitemiterator","odict_iterator","itertools.zip_longest","itertools.pairwise"].contains n=false) (hQ:Q () s):wpAny M A (letOwnedTupleGo tg (.ref it) u) Q E s:=by
 unfold letOwnedTupleGo;cases tg <;> first
  | exact wpAny_pure hQ
  | (cases u <;> first
    | exact wpAny_pure hQ
    | (refine wpAny_bind (wpAny_load ho ?_)
       rw [hc,hd];show wpAny M A (if (["enumerate","zip","dict_itemiterator","dict_reverseitemiterator","odict_iterator","itertools.zip_longest","itertools.pairwise"].contains n && vs[0]? == some (rawInt _))=true then _ else _) Q E s
       rw [if_neg (by intro h; rw [hn,Bool.false_and] at h; cases h)]
       exact wpAny_pure hQ))
noncomputable def uK (K:ym) (a:Addr):It :=
 ⟨λi H=>∃ xs x,SqL K H a xs/\xs[i]?=some x,λi H x H'=>H'=H/\∀ xs,SqL K H a xs->xs[i]?=some x,λi H=>∃ xs,SqL K H a xs/\xs.length<=i⟩
noncomputable def uJ (K:ym) (a:Addr):It :=
 ⟨λi H=>∃ xs x,SqT K H a xs/\xs[i]?=some x,λi H x H'=>H'=H/\∀ xs,SqT K H a xs->xs[i]?=some x,λi H=>∃ xs,SqT K H a xs/\xs.length<=i⟩
noncomputable def jN (lo:Int) (n:Nat):It:=⟨λi _=>i < n,λi H x H'=>H'=H/\x=.int (lo+i),λi _=>n<=i⟩
theorem Zgk {P:Program} {w:World} {K:ym} {tg:Expr} (a it:Addr):Turn P w K tg (uK K a) [it] it (λi h=>h.IsListIter it a i) where
 mem:=by simp
 obj:=λi h st b hb=>by
  have e:b=it:=by simpa using hb
  subst e;obtain ⟨o,e,c,d⟩:=st;exact ⟨o,e,λv z=>by rw [d] at z; cases z⟩
 keep:=λi h h' st k=>st.at λo e=>k it (by simp) o e
 item:=by
  intro X hP hw hK hc i pins s σ H E I hf st hg;subst hP hw hK;obtain ⟨xs,x,hq,hx⟩:=hg;obtain ⟨its,rv,p,hz⟩:=I.list hq;obtain ⟨u,hu,ru⟩:=rv.get hx;obtain ⟨f0,f1,f2,f3,f4,f5⟩:=hf it (by simp)
  refine wpAny_pyNext_list_item st p.isList (x:=u) (by simpa using hu) λh' st' sb=>?_
  have I1:Inv X pins σ H { s with heap:=h' }:=I.turned (t':=s.toks) (λb o hb e=>(sb.2 b hb).trans e) f0 f1 f3 f4 f5;obtain ⟨o,e,c,d⟩:=id st';exact ⟨u,rfl,md (s:={ s with heap:=h' }) e c d (by decide) ⟨x,H,I1,ru,⟨rfl,λys hy=>by rw [I.list_inj hy hq]; exact hx⟩,st',λb hb=>(hf b hb).1⟩⟩
 done:=by
  intro X hP hw hK hc i pins s σ H E I hf st hg;subst hP hw hK;obtain ⟨xs,hq,hx⟩:=hg;obtain ⟨its,rv,p,hz⟩:=I.list hq;obtain ⟨f0,f1,f2,f3,f4,f5⟩:=hf it (by simp)
  have hl:=rv.length;exact wpAny_pyNext_list_end (I.ok.hd hc) st p.isList (by simp; omega) λh' eb=>⟨rfl,I.turned (t':=s.toks) (λb o hb e=>eb b o hb e) f0 f1 f3 f4 f5⟩
 self:=λ_ _ _ _ _ st h=>wpAny_pyIter_listiter st h
theorem Zgh {P:Program} {w:World} {K:ym} {tg:Expr} (a it:Addr):Turn P w K tg (uJ K a) [it] it (λi h=>h.IsTupleIter it a i) where
 mem:=by simp
 obj:=λi h st b hb=>by
  have e:b=it:=by simpa using hb
  subst e;obtain ⟨o,e,c,d⟩:=st;exact ⟨o,e,λv z=>by rw [d] at z; cases z⟩
 keep:=λi h h' st k=>st.at λo e=>k it (by simp) o e
 item:=by
  intro X hP hw hK hc i pins s σ H E I hf st hg;subst hP hw hK;obtain ⟨xs,x,hq,hx⟩:=hg;obtain ⟨its,rv,p,hz⟩:=I.tuple hq;obtain ⟨u,hu,ru⟩:=rv.get hx;obtain ⟨f0,f1,f2,f3,f4,f5⟩:=hf it (by simp)
  refine wpAny_pyNext_tuple_item st (show s.heap.IsTuple a its.toArray from p) (x:=u) (by simpa using hu) λh' st' sb=>?_
  have I1:Inv X pins σ H { s with heap:=h' }:=I.turned (t':=s.toks) (λb o hb e=>(sb.2 b hb).trans e) f0 f1 f3 f4 f5;obtain ⟨o,e,c,d⟩:=id st';exact ⟨u,rfl,md (s:={ s with heap:=h' }) e c d (by decide) ⟨x,H,I1,ru,⟨rfl,λys hy=>by rw [I.tuple_inj hy hq]; exact hx⟩,st',λb hb=>(hf b hb).1⟩⟩
 done:=by
  intro X hP hw hK hc i pins s σ H E I hf st hg;subst hP hw hK;obtain ⟨xs,hq,hx⟩:=hg;obtain ⟨its,rv,p,hz⟩:=I.tuple hq;obtain ⟨f0,f1,f2,f3,f4,f5⟩:=hf it (by simp)
  have hl:=rv.length;exact wpAny_pyNext_tuple_end (I.ok.hd hc) st (show s.heap.IsTuple a its.toArray from p) (by simp; omega) λh' eb=>⟨rfl,I.turned (t':=s.toks) (λb o hb e=>eb b o hb e) f0 f1 f3 f4 f5⟩
 self:=λ_ _ _ _ _ st h=>wpAny_pyIter_tupleiter st h
theorem Zgj {P:Program} {w:World} {K:ym} {tg:Expr} (it:Addr) (lo:Int) (n:Nat):Turn P w K tg (jN lo n) [it] it (λi h=>IsRangeIter h it (lo+(i:Nat) * 1) ((n:Int) - (i:Nat)) 1) where
 mem:=by simp
 obj:=λi h st b hb=>by
  have e:b=it:=by simpa using hb
  subst e;exact ⟨_,st,λv z=>by
   have z':Data.fields _=Data.cell v:=z;cases z'⟩
 keep:=λi h h' st k=>k it (by simp) _ st
 item:=by
  intro X hP hw hK hc i pins s σ H E I hf st hg;subst hP hw hK;obtain ⟨f0,f1,f2,f3,f4,f5⟩:=hf it (by simp)
  have W:=Walks.range (prog:=X.prog) (w:=X.w) (I.ok.hd hc) it lo 1 n;refine W.item i s _ _ hg st λv h' tk hv st' kk=>?_;obtain ⟨t,rfl⟩:=hv;have I1:Inv X pins σ H { s with heap:=h',toks:=tk }:=I.turned (λb o hb e=>kk b o (by simpa using hb) e) f0 f1 f3 f4 f5
  refine ⟨_,rfl,md (s:={ s with heap:=h',toks:=tk }) (n:="range_iterator") st' rfl rfl (by decide) ⟨.int (lo+i),H,I1,⟨t,?_⟩,⟨rfl,rfl⟩,st',λb hb=>(hf b hb).1⟩⟩
  rw [xZ]
 done:=by
  intro X hP hw hK hc i pins s σ H E I hf st hg;subst hP hw hK;obtain ⟨f0,f1,f2,f3,f4,f5⟩:=hf it (by simp)
  exact wpAny_pyNext_range_end (I.ok.hd hc) st (by have:n<=i:=hg; omega) λh' eb=>⟨rfl,I.turned (t':=s.toks) (λb o hb e=>eb b o hb e) f0 f1 f3 f4 f5⟩
 self:=λ_ _ _ _ _ st h=>wpAny_pyIter_rangeiter st h
section
variable {X:Cx} {tg:Expr}
theorem ZbW {pins:yF} {σ:St} {H:Hp} {s:Shared} {R:It->Hp->Prop} {E:yw} {lo hi:Int} {t u v:Tok} {tk:Nat} (I:Inv X pins σ H s) (h1:-(2 ^ 62)<=lo) (h2:lo < 2 ^ 62) (h3:-(2 ^ 62)<=hi) (h4:hi < 2 ^ 62)
  (q:R (jN lo (hi - lo).toNat) H):wpAny (model X.prog X.w) X.A (pyIter (.ref s.heap.objs.size)) (pU X pins σ tg R) E { s with heap:=s.heap.push { cls:=.type "range",data:=.fields #[.int lo t,.int hi u,.int 1 v] },toks:=tk }:=by
 refine wpAny_pyIter_range (IsRange.new ..) (small_one h1 h2 h3 h4) ?_;have I1:Inv X pins σ H { s with heap:=s.heap.push { cls:=.type "range",data:=.fields #[.int lo t,.int hi u,.int 1 v] },toks:=tk }:=I.kept λb o e=>uN _ e;refine ⟨(s.heap.push { cls:=.type "range",data:=.fields #[.int lo t,.int hi u,.int 1 v] }).objs.size,[(s.heap.push { cls:=.type "range",data:=.fields #[.int lo t,.int hi u,.int 1 v] }).objs.size],_,_,H,rfl,
  I1.kept (t':=tk) λb o e=>uN _ e,Zgj _ lo (hi - lo).toNat,?_,λb hb=>?_,q⟩
 ·have e1:lo+((0:Nat):Int) * 1=lo:=by simp
  have e2:(((hi - lo).toNat:Nat):Int) - ((0:Nat):Int)=Builtin.Range.rangeSize lo hi 1:=by rw [rangeSize_one]; split <;> omega
  show IsRangeIter _ _ (lo+((0:Nat):Int) * 1) ((((hi - lo).toNat:Nat):Int) - ((0:Nat):Int)) 1;rw [e1,e2];exact uS _ rfl
 ·have e:b=(s.heap.push { cls:=.type "range",data:=.fields #[.int lo t,.int hi u,.int 1 v] }).objs.size:=by simpa using hb
  subst e;exact I1.fpOk (uQ _) (I1.hok.fresh (uQ _))
def ZdM (ta:TA):TI:=λσ H R=>ta σ H λvs H1=>∃ j:Int,vs=[.int j]/\-(2 ^ 62)<=j/\j < 2 ^ 62/\R (jN 0 j.toNat) H1
def ZdL (ta:TA):TI:=λσ H R=>ta σ H λvs H1=>∃ i j:Int,vs=[.int i,.int j]/\(-(2 ^ 62)<=i/\i < 2 ^ 62/\-(2 ^ 62)<=j/\j < 2 ^ 62)/\R (jN i (j - i).toNat) H1
theorem j8 {a:Expr} {ta:TA} {p pos:Pos} (hg:Gl X "range") (hm:X.mg "range"=none) (ha:PA X [a] ta) (hs:starEach [a] X.env=[(false,eval a X.env)]:=by rfl):PI X tg (.Call (.Name "range" p) [a] [] pos) (ZdM ta):=by
 intro pins s σ H R I h;refine Call_ (iC I hg hm boot_range (vS (thn (ha pos pins s σ H _ I h) λus s1 hz0=>?_) hs rfl));obtain ⟨vs,H1,I1,r1,q1⟩:=hz0;obtain ⟨j,e,q1,q2,q⟩:=q1;subst e;cases r1 with
 | cons r rr =>
  cases rr;obtain ⟨t,rfl⟩:=r;exact call_range_1 (ZbW I1 (by omega) (by omega) q1 q2 (by simpa using q))
theorem ZiB {a b:Expr} {ta:TA} {p pos:Pos} (hg:Gl X "range") (hm:X.mg "range"=none) (ha:PA X [a,b] ta) (hs:starEach [a,b] X.env=[(false,eval a X.env),(false,eval b X.env)]:=by rfl) (hs2:starEach [b] X.env=[(false,eval b X.env)]:=by rfl) :
  PI X tg (.Call (.Name "range" p) [a,b] [] pos) (ZdL ta):=by
 intro pins s σ H R I h;refine Call_ (iC I hg hm boot_range (vS (thn (ha pos pins s σ H _ I h) λus s1 hz0=>?_) (by rw [hs,hs2]) (by rw [hs2]; rfl)))
 obtain ⟨vs,H1,I1,r1,q1⟩:=hz0;obtain ⟨i,j,e,⟨q1,q2,q3,q4⟩,q⟩:=q1;subst e;cases r1 with
 | cons r rr =>
  cases rr with
  | cons r' rr =>
   cases rr;obtain ⟨t,rfl⟩:=r;obtain ⟨t',rfl⟩:=r';exact call_range_2 (ZbW I1 q1 q2 q3 q4 q)
def ZgP (wi:TI) (g:TG) (tb:TS):TS:=λD σ H=>wi σ H λJ H1=>∃ W:Nat->Nat->St->Hp->Prop,(∃ m,W 0 m σ H1)/\∀ i m σ H,W i m σ H ->
 (J.stop i H/\D.nx σ H)\/(J.go i H/\∃ N:St->Hp->Prop,(∀ σ' H',N σ' H'->∃ m',m' < m/\W (i+1) m' σ' H')/\∀ x H',J.yld i H x H'->g x σ H' λσ2 H2=>tb { D with nx:=N,ct:=N,bk:=D.nx } σ2 H2)
noncomputable def nI (fp:List Addr) (h:Heap):yF:=fp.filterMap λb=>(h.get? b).map λo=>(b,o)
theorem iz {fp:List Addr} {h:Heap} {b:Addr} {o:Obj} (hb:b∈fp) (e:h.get? b=some o):(b,o)∈nI fp h:=xb.mpr ⟨b,hb,by rw [e]; rfl⟩
theorem Zjo {fp:List Addr} {h:Heap} {p:Addr×Obj} (hp:p∈nI fp h):p.1∈fp/\h.get? p.1=some p.2:=by
 obtain ⟨b,hb,e⟩:=xb.mp hp;cases q:h.get? b with
 | none=>rw [q] at e; cases e
 | some o =>
  rw [q] at e;have e':(b,o)=p:=vc e;subst e';exact ⟨hb,q⟩
theorem Inv.pinned {pins:yF} {σ:St} {H:Hp} {s:Shared} {fp:List Addr} (I:Inv X pins σ H s) (hf:∀ b∈fp,fO X pins H b) (ho:∀ b∈fp,∃ o,s.heap.get? b=some o/\∀ v,o.data≠.cell v):Inv X (pins++nI fp s.heap) σ H s :=
 I.pins_of λp hp=>(vV.mp hp).elim (λz=>I.pin p (u4 _ z)) λz=>by
  obtain ⟨hb,e⟩:=Zjo z;obtain ⟨f0,f1,f2,_⟩:=hf p.1 hb;obtain ⟨o,e',d⟩:=ho p.1 hb;rw [e] at e'; cases e';exact ⟨e,f0,f1,f2,d⟩
theorem Inv.unpinned {pins pl:yF} {σ:St} {H:Hp} {s:Shared} (I:Inv X (pins++pl) σ H s):Inv X pins σ H s:=I.pins_of λp hp=>I.pin p (u4 _ (wD _ hp))
theorem Ziu {iter:Expr} {body:List Stmt} {wi:TI} {g:TG} {tb:TS} {pos:Pos} (hp:PassesOwn (model X.prog X.w) X.A X.env X.xe) (hc:X.calm=true) (hi:PI X tg iter wi) (hg:PG X tg g) (hb:PSs X body tb)
  (hs:∀ x,foldedSetIterable iter X.env x=pure x:=by intro _; rfl):PS X (.For tg iter body [] pos) (ZgP wi g tb):=by
 intro pins s σ H D I h;refine wpAny_For (thn (hi pins s σ H _ I h) λv s1 h1=>thn h1 λitv s2 h2=>?_) hs;obtain ⟨it,fp,tn,J,H2,e,I2,T,st2,f2,W,⟨m0,w0⟩,turn⟩:=h2;subst e
 -- what stays true of the iterator's objects through the loop
 have stat:∀ {H':Hp},(∀ b∈fp,H' b=none)->∀ b∈fp,fO X pins H' b:=λhn b hb=>⟨hn b hb,(f2 b hb).2⟩;refine codeAny_forLoop_any (λn s'=>∃ i σ' H',Inv X pins σ' H' s'/\tn i s'.heap/\(∀ b∈fp,H' b=none)/\W i n σ' H') ?_ m0 ⟨0,σ,H2,I2,st2,λb hb=>(f2 b hb).1,w0⟩;rintro n s3 ⟨i,σ3,H3,I3,st3,fr3,w3⟩;rcases turn i n σ3 H3 w3 with ⟨stop,qn⟩ | ⟨go,N,hN,step⟩
 ·refine wpAny_passesOwn hp (thn (T.done X rfl rfl rfl hc i pins s3 σ3 H3 X.xe I3 (stat fr3) st3 stop) λr s4 hz0=>?_);obtain ⟨hr,I4⟩:=hz0;subst hr;exact wpAny_execs_nil ⟨σ3,H3,I4,qn⟩
 ·refine wpAny_passesOwn hp (thn (T.item X rfl rfl rfl hc i pins s3 σ3 H3 X.xe I3 (stat fr3) st3 go) λr s4 hz0=>?_);obtain ⟨u,hr,h4⟩:=hz0;subst hr;refine wpAny_passesOwn hp (thn h4 λ_ s5 hz0=>?_);obtain ⟨x,H5,I5,r5,y5,st5,fr5⟩:=hz0;have I5':=I5.pinned (stat fr5) (T.obj _ _ st5);refine wpAny_passesOwn hp (thn (hg _ s5 σ3 H5 x u _ I5' r5 (step x H5 y5)) λ_ s6 hz0=>?_);obtain ⟨σ6,H6,I6,q6⟩:=hz0;refine wpAny_passesOwn hp (thn (hb _ s6 σ6 H6 _ I6 q6) λf s7 q7=>?_);have again:∀ {σ7:St} {H7:Hp},Inv X (pins++nI fp s5.heap) σ7 H7 s7->N σ7 H7->∃ m,m < n/\∃ i σ' H',Inv X pins σ' H' s7/\tn i s7.heap/\(∀ b∈fp,H' b=none)/\W i m σ' H':=λ{σ7 H7} I7 n7=>by
   obtain ⟨m',hm,w7⟩:=hN σ7 H7 n7;refine ⟨m',hm,i+1,σ7,H7,I7.unpinned,T.keep _ _ _ st5 λb hb o e=>(I7.pin (b,o) (u4 _ (u4 _ (iz hb e)))).1,λb hb=>?_,w7⟩;obtain ⟨o,e,d⟩:=T.obj _ _ st5 b hb;exact (I7.pin (b,o) (u4 _ (u4 _ (iz hb e)))).2.1
  cases f with
  | next=>obtain ⟨σ7,H7,I7,n7⟩:=q7; exact again I7 n7
  | cont=>obtain ⟨σ7,H7,I7,n7⟩:=q7; exact again I7 n7
  | brk=>obtain ⟨σ7,H7,I7,q7⟩:=q7; exact ⟨σ7,H7,I7.unpinned,q7⟩
  | ret v=>obtain ⟨x7,σ7,H7,I7,r7,q7⟩:=q7; exact ⟨x7,σ7,H7,I7.unpinned,r7,q7⟩
end
abbrev R2:=V->V->Hp->VK->Prop
noncomputable def OpR (X:Cx) (f:Value->Value->Sem Value) (r:R2):Prop :=
 ∀ (pins:yF) (s:Shared) (σ:St) (H:Hp) (x y:V) (v u:Value) (Q:VK),Inv X pins σ H s->RelV x v->RelV y u->r x y H Q ->
  wpAny (model X.prog X.w) X.A (f v u) (EP X pins σ Q) X.xe s
noncomputable def uC (X:Cx) (f:Value->Sem Value) (r:V->Hp->VK->Prop):Prop :=
 ∀ (pins:yF) (s:Shared) (σ:St) (H:Hp) (x:V) (v:Value) (Q:VK),Inv X pins σ H s->RelV x v->r x H Q ->
  wpAny (model X.prog X.w) X.A (f v) (EP X pins σ Q) X.xe s
noncomputable def cW (X:Cx) (f:Value) (r:List V->Hp->VK->Prop):Prop :=
 ∀ (pins:yF) (s:Shared) (σ:St) (H:Hp) (xs:yB) (us:yz) (Q:VK),Inv X pins σ H s->Vals xs us->r xs H Q ->
  wpAny (model X.prog X.w) X.A (call f us) (EP X pins σ Q) X.xe s
noncomputable def Zqt (X:Cx) (r:V->Hp->(Bool->Hp->Prop)->Prop):Prop :=
 ∀ (pins:yF) (s:Shared) (σ:St) (H:Hp) (x:V) (v:Value) (Q:Bool->Hp->Prop),Inv X pins σ H s->RelV x v->r x H Q ->
  wpAny (model X.prog X.w) X.A (truthy v) (TP X pins σ Q) X.xe s
def iS (r:R2) (ta tb:TE):TE:=λσ H Q=>ta σ H λx H1=>tb σ H1 λy H2=>r x y H2 Q
def tUn (r:V->Hp->VK->Prop) (ta:TE):TE:=λσ H Q=>ta σ H λx H1=>r x H1 Q
noncomputable def rI (C:Int->Int->Prop) (g:Int->Int->V):R2:=λx y H Q=>∃ i j,x=.int i/\y=.int j/\C i j/\Q (g i j) H
noncomputable def dW (g:Int->Int->V):R2:=λx y H Q=>∃ i j,x=.int i/\y=.int j/\Q (g i j) H
noncomputable def rU (g:Int->V):V->Hp->VK->Prop:=λx H Q=>∃ i,x=.int i/\Q (g i) H
section
variable {X:Cx} {a b c:Expr} {ta tb tc:TE} {pos:Pos}
theorem t5 (ha:PE X a ta) (hb:PE X b tb) {pins:yF} {s:Shared} {σ:St} {H:Hp} {R:V->V->Hp->Prop} (I:Inv X pins σ H s)
  (h:ta σ H λx H1=>tb σ H1 λy H2=>R x y H2) {Q:yw} {f:Value->Value->Sem Value}
  (hf:∀ v u s2 x y H2,Inv X pins σ H2 s2->RelV x v->RelV y u->R x y H2->wpAny (model X.prog X.w) X.A (f v u) Q X.xe s2) :
  wpAny (model X.prog X.w) X.A (eval a X.env) (λv s₁=>wpAny (model X.prog X.w) X.A (eval b X.env) (λu s₂=>wpAny (model X.prog X.w) X.A (f v u) Q X.xe s₂) X.xe s₁) X.xe s:=by
 refine thn (ha pins s σ H _ I h) λv s1 hz0=>?_;obtain ⟨x,H1,I1,r1,q1⟩:=hz0;refine thn (hb pins s1 σ H1 _ I1 q1) λu s2 hz0=>?_;obtain ⟨y,H2,I2,r2,q2⟩:=hz0;exact hf v u s2 x y H2 I2 r1 r2 q2
theorem b9 {op:Operator} {r:R2} (ho:OpR X (binaryOp op) r) (ha:PE X a ta) (hb:PE X b tb):PE X (.BinOp a op b pos) (iS r ta tb):=by
 intro pins s σ H Q I h;exact wpAny_BinOp (t5 ha hb I h λv u s2 x y H2 I2 rx ry q=>ho pins s2 σ H2 x y v u Q I2 rx ry q)
theorem ZiL {op:UnaryOp} {r:V->Hp->VK->Prop} (ho:uC X (unaryOp op) r) (ha:PE X a ta):PE X (.UnaryOp op a pos) (tUn r ta):=by
 intro pins s σ H Q I h;exact UnaryOp_ (thn (ha pins s σ H _ I h) λv s1 ⟨x,H1,I1,r1,q1⟩=>ho pins s1 σ H1 x v Q I1 r1 q1)
theorem ip {f:Value->Value->Sem Value} {C:Int->Int->Prop} {g:Int->Int->Int}
  (rule:∀ (i j:Int) (t u:Tok) (s:Shared) (Q:yw) (E:yw),C i j->Q (.int (g i j) s.toks) { s with toks:=s.toks+1 }->wpAny (model X.prog X.w) X.A (f (.int i t) (.int j u)) Q E s) :
  OpR X f (rI C λi j=>.int (g i j)):=by
 intro pins s σ H x y v u Q I rx ry h;obtain ⟨i,j,rfl,rfl,hc,q⟩:=h;obtain ⟨t,rfl⟩:=rx;obtain ⟨t',rfl⟩:=ry;exact rule i j t t' s _ _ hc ⟨.int (g i j),H,I.tok _,⟨_,rfl⟩,q⟩
theorem nR {f:Value->Value->Sem Value} {g:Int->Int->Int}
  (rule:∀ (i j:Int) (t u:Tok) (s:Shared) (Q:yw) (E:yw),Q (.int (g i j) s.toks) { s with toks:=s.toks+1 }->wpAny (model X.prog X.w) X.A (f (.int i t) (.int j u)) Q E s) :
  OpR X f (dW λi j=>.int (g i j)):=by
 intro pins s σ H x y v u Q I rx ry h;obtain ⟨i,j,rfl,rfl,q⟩:=h;obtain ⟨t,rfl⟩:=rx;obtain ⟨t',rfl⟩:=ry;exact rule i j t t' s _ _ ⟨.int (g i j),H,I.tok _,⟨_,rfl⟩,q⟩
theorem nS {f:Value->Value->Sem Value} {g:Int->Int->Bool}
  (rule:∀ (i j:Int) (t u:Tok) (s:Shared) (Q:yw) (E:yw),Q (.bool (g i j)) s->wpAny (model X.prog X.w) X.A (f (.int i t) (.int j u)) Q E s) :
  OpR X f (dW λi j=>.bl (g i j)):=by
 intro pins s σ H x y v u Q I rx ry h;obtain ⟨i,j,rfl,rfl,q⟩:=h;obtain ⟨t,rfl⟩:=rx;obtain ⟨t',rfl⟩:=ry;exact rule i j t t' s _ _ ⟨.bl (g i j),H,I,rfl,q⟩
def Zq4 (i j:Int):Prop:=0 < j/\j < 1073741824
def ZfQ (i j:Int):Prop:=0<=j/\j<=1000000/\i.natAbs < 2 ^ 64
def CMul (i j:Int):Prop:=(-(2 ^ 64) < i/\i < 2 ^ 64)\/(-(2 ^ 64) < j/\j < 2 ^ 64)
theorem CMul.ok {i j:Int} (h:CMul i j):IntMulOk i j:=by
 rcases h with ⟨h1,h2⟩ | ⟨h1,h2⟩
 ·exact .of_left (intBits_le_64 h1 h2)
 ·exact .of_right (intBits_le_64 h1 h2)
theorem io:OpR X (binaryOp .Add) (dW λi j=>.int (i+j)):=nR λ_ _ _ _ _ _ _ q=>add_int q
theorem cY:OpR X (binaryOp .Sub) (dW λi j=>.int (i - j)):=nR λ_ _ _ _ _ _ _ q=>sub_int q
theorem nO:OpR X (binaryOp .Mult) (rI CMul λi j=>.int (i * j)):=ip λ_ _ _ _ _ _ _ hc q=>mul_int q hc.ok
theorem rT:OpR X (binaryOp .FloorDiv) (rI Zq4 λi j=>.int (i / j)):=ip λi j _ _ _ _ _ hc q=>by
 have h1:(0:Int) < j:=hc.1;have h2:j < 1073741824:=hc.2;exact floordiv_int (by omega) (by rw [x9 i (by omega)]; exact q) (.inl (PyProof.noPylong_small (by omega)))
theorem fV:OpR X (binaryOp .Mod) (rI (λ_ j=>0 < j) λi j=>.int (i % j)):=ip λi j _ _ _ _ _ hc q=>by
 have h1:(0:Int) < j:=hc;exact mod_int' (by omega) (by rw [x8 i (by omega)]; exact q)
theorem Zjb:OpR X (binaryOp .Mod) (rI (λ_ j=>j≠0) λi j=>.int (i.fmod j)):=ip λ_ _ _ _ _ _ _ hc q=>mod_int' hc q
theorem rS:OpR X (binaryOp .Pow) (rI ZfQ λi j=>.int (i ^ j.toNat)):=ip λ_ _ _ _ _ _ _ hc q=>pow_int_small hc.1 hc.2.1 hc.2.2 q
theorem ZkM:OpR X (inplaceOp .Add) (dW λi j=>.int (i+j)):=nR λ_ _ _ _ _ _ _ q=>iadd_int q
theorem ZkK:OpR X (inplaceOp .Sub) (dW λi j=>.int (i - j)):=nR λ_ _ _ _ _ _ _ q=>isub_int q
theorem unI {f:Value->Sem Value} {g:Int->Int}
  (rule:∀ (i:Int) (t:Tok) (s:Shared) (Q:yw) (E:yw),Q (.int (g i) s.toks) { s with toks:=s.toks+1 }->wpAny (model X.prog X.w) X.A (f (.int i t)) Q E s) :
  uC X f (rU λi=>.int (g i)):=by
 intro pins s σ H x v Q I rx h;obtain ⟨i,rfl,q⟩:=h;obtain ⟨t,rfl⟩:=rx;exact rule i t s _ _ ⟨.int (g i),H,I.tok _,⟨_,rfl⟩,q⟩
theorem Zge:uC X (unaryOp .USub) (rU λi=>.int (-i)):=unI λ_ _ _ _ _ q=>neg_int q
end
noncomputable def scal:V->V->Bool
 | .non,.non=>true | .non,.int _=>true | .int _,.non=>true | .non,.bl _=>true | .bl _,.non=>true | .non,.str _=>true | .str _,.non=>true
 | .int _,.int _=>true | .bl _,.bl _=>true | .str _,.str _=>true | .byt _,.byt _=>true
 | .int _,.str _=>true | .str _,.int _=>true | .bl _,.str _=>true | .str _,.bl _=>true
 | _,_=>false
noncomputable def rEq:R2:=λx y H Q=>scal x y=true/\Q (.bl (decide (x=y))) H
noncomputable def rNe:R2:=λx y H Q=>scal x y=true/\Q (.bl (!decide (x=y))) H
theorem Zey {i j:Int}:decide (V.int i=V.int j)=(i == j):=by
 rw [w6];simp
theorem ZeA {i j:Bool}:decide (V.bl i=V.bl j)=(i == j):=by
 rw [w6];simp
theorem oZ {i j:Str}:decide (V.str i=V.str j)=(i == j):=by
 rw [w6];simp
theorem Zez {i j:Array UInt8}:decide (V.byt i=V.byt j)=(i.toList == j.toList):=by
 rw [w6];cases i;cases j;simp
section
variable {X:Cx} {a b c:Expr} {ta tb tc:TE} {pos:Pos}
theorem bY {pins:yF} {σ:St} {H:Hp} {s:Shared} {Q:VK} {k k':Bool} (I:Inv X pins σ H s) (q:Q (.bl k) H) (e:k=k'):EP X pins σ Q (.bool k') s:=by
 subst e;exact ⟨.bl k,H,I,rfl,q⟩
theorem Zje:OpR X (compareOp .Eq) rEq:=by
 intro pins s σ H x y v u Q I rx ry h;obtain ⟨hs,q⟩:=h;cases x with
 | non =>
  cases rx;cases y with
  | non=>cases ry; exact PySem.EqNone.eq_none_none (bY I q (by simp))
  | bl j=>cases ry; exact PySem.EqNone.eq_none_bool (bY I q (by simp))
  | int j=>obtain ⟨t',rfl⟩:=ry; exact PySem.EqNone.eq_none_int (bY I q (by simp))
  | str j=>obtain ⟨t',rfl⟩:=ry; exact PySem.EqNone.eq_none_str (bY I q (by simp))
  | _=>exact absurd (show false=true from hs) u3
 | bl i =>
  cases rx;cases y with
  | non=>cases ry; exact PySem.EqNone.eq_bool_none (bY I q (by simp))
  | bl j=>cases ry; exact eq_bool (bY I q ZeA)
  | str j=>obtain ⟨t',rfl⟩:=ry; exact PySem.EqMixed.eq_bool_str (bY I q (by simp))
  | _=>exact absurd (show false=true from hs) u3
 | int i =>
  obtain ⟨t,rfl⟩:=rx;cases y with
  | non=>cases ry; exact PySem.EqNone.eq_int_none (bY I q (by simp))
  | int j=>obtain ⟨t',rfl⟩:=ry; exact eq_int (bY I q Zey)
  | str j=>obtain ⟨t',rfl⟩:=ry; exact PySem.EqMixed.eq_int_str (bY I q (by simp))
  | _=>exact absurd (show false=true from hs) u3
 | str i =>
  obtain ⟨t,rfl⟩:=rx;cases y with
  | non=>cases ry; exact PySem.EqNone.eq_str_none (bY I q (by simp))
  | bl j=>cases ry; exact PySem.EqMixed.eq_str_bool (bY I q (by simp))
  | int j=>obtain ⟨t',rfl⟩:=ry; exact PySem.EqMixed.eq_str_int (bY I q (by simp))
  | str j=>obtain ⟨t',rfl⟩:=ry; exact eq_str (bY I q oZ)
  | _=>exact absurd (show false=true from hs) u3
 | byt i =>
  obtain ⟨t,rfl⟩:=rx;cases y with
  | byt j=>obtain ⟨t',rfl⟩:=ry; exact PySem.W.eq_bytes (bY I q Zez)
  | _=>exact absurd (show false=true from hs) u3
 | _=>cases y <;> exact absurd (show false=true from hs) u3
theorem Zi9:OpR X (compareOp .NotEq) rNe:=by
 intro pins s σ H x y v u Q I rx ry h;obtain ⟨hs,q⟩:=h;cases x with
 | non =>
  cases rx;cases y with
  | non=>cases ry; exact PySem.EqNone.ne_none_none (bY I q (by simp))
  | bl j=>cases ry; exact PySem.EqNone.ne_none_bool (bY I q (by simp))
  | int j=>obtain ⟨t',rfl⟩:=ry; exact PySem.EqNone.ne_none_int (bY I q (by simp))
  | str j=>obtain ⟨t',rfl⟩:=ry; exact PySem.EqNone.ne_none_str (bY I q (by simp))
  | _=>exact absurd (show false=true from hs) u3
 | bl i =>
  cases rx;cases y with
  | non=>cases ry; exact PySem.EqNone.ne_bool_none (bY I q (by simp))
  | bl j=>cases ry; exact ne_bool (bY I q (congrArg not ZeA))
  | str j=>obtain ⟨t',rfl⟩:=ry; exact PySem.EqMixed.ne_bool_str (bY I q (by simp))
  | _=>exact absurd (show false=true from hs) u3
 | int i =>
  obtain ⟨t,rfl⟩:=rx;cases y with
  | non=>cases ry; exact PySem.EqNone.ne_int_none (bY I q (by simp))
  | int j=>obtain ⟨t',rfl⟩:=ry; exact ne_int (bY I q (congrArg not Zey))
  | str j=>obtain ⟨t',rfl⟩:=ry; exact PySem.EqMixed.ne_int_str (bY I q (by simp))
  | _=>exact absurd (show false=true from hs) u3
 | str i =>
  obtain ⟨t,rfl⟩:=rx;cases y with
  | non=>cases ry; exact PySem.EqNone.ne_str_none (bY I q (by simp))
  | bl j=>cases ry; exact PySem.EqMixed.ne_str_bool (bY I q (by simp))
  | int j=>obtain ⟨t',rfl⟩:=ry; exact PySem.EqMixed.ne_str_int (bY I q (by simp))
  | str j=>obtain ⟨t',rfl⟩:=ry; exact ne_str (bY I q (congrArg not oZ))
  | _=>exact absurd (show false=true from hs) u3
 | byt i =>
  obtain ⟨t,rfl⟩:=rx;cases y with
  | byt j=>obtain ⟨t',rfl⟩:=ry; exact PySem.W.ne_bytes (bY I q (congrArg not Zez))
  | _=>exact absurd (show false=true from hs) u3
 | _=>cases y <;> exact absurd (show false=true from hs) u3
theorem il:OpR X (compareOp .Lt) (dW λi j=>.bl (decide (i < j))):=nS λ_ _ _ _ _ _ _ q=>lt_int q
theorem nQ:OpR X (compareOp .LtE) (dW λi j=>.bl (decide (i<=j))):=nS λ_ _ _ _ _ _ _ q=>le_int q
theorem ka:OpR X (compareOp .Gt) (dW λi j=>.bl (decide (j < i))):=nS λ_ _ _ _ _ _ _ q=>gt_int q
theorem Zjc:OpR X (compareOp .GtE) (dW λi j=>.bl (decide (j<=i))):=nS λ_ _ _ _ _ _ _ q=>ge_int q
theorem OpR.or {f:Value->Value->Sem Value} {r r':R2} (h:OpR X f r) (h':OpR X f r'):OpR X f (λx y H Q=>r x y H Q\/r' x y H Q):=by
 intro pins s σ H x y v u Q I rx ry q;rcases q with q | q
 ·exact h pins s σ H x y v u Q I rx ry q
 ·exact h' pins s σ H x y v u Q I rx ry q
theorem nomark (b:Expr) {op:CmpOp} (h:op≠.In:=by decide) (h2:op≠.NotIn:=by decide):behindInMarks op b=false:=by
 have e1:(op == CmpOp.In)=false:=by cases op <;> first | rfl | exact absurd rfl h
 have e2:(op == CmpOp.NotIn)=false:=by cases op <;> first | rfl | exact absurd rfl h2
 cases b <;> first | rfl | (show (_ && (op == CmpOp.In || op == CmpOp.NotIn) && _)=false; rw [e1,e2,Bool.or_false,Bool.and_false,Bool.false_and])
theorem ZiT {op:CmpOp} {r:R2} (ho:OpR X (compareOp op) r) (ha:PE X a ta) (hb:PE X b tb) (hm:behindInMarks op b=false):PE X (.Compare a [op] [b] pos) (iS r ta tb):=by
 intro pins s σ H Q I h;exact wpAny_Compare1 (t5 ha hb I h λv u s2 x y H2 I2 rx ry q=>ho pins s2 σ H2 x y v u Q I2 rx ry q) hm
def ni (t:TE):TT:=λσ H Q=>t σ H λx H'=>∃ k,x=.bl k/\Q k H'
theorem lz {op:CmpOp} {r:R2} (ho:OpR X (compareOp op) r) (ha:PE X a ta) (hb:PE X b tb) (hm:behindInMarks op b=false):PT X (.Compare a [op] [b] pos) (ni (iS r ta tb)):=by
 intro pins s σ H Q I h;refine wpAny_isTrue_Compare1 (thn (ha pins s σ H _ I h) λv s1 ⟨x,H1,I1,r1,q1⟩=>thn (hb pins s1 σ H1 _ I1 q1) λu s2 ⟨y,H2,I2,r2,q2⟩ =>
  thn (ho pins s2 σ H2 x y v u _ I2 r1 r2 q2) λc s3 ⟨z,H3,I3,r3,k,e,q3⟩=>?_) hm
 subst e;cases r3;exact wpAny_truthy_bool ⟨H3,I3,q3⟩
def ZaC (r r':R2) (ta tb tc:TE):TE:=λσ H Q=>ta σ H λx H1=>tb σ H1 λy H2=>r x y H2 λz H3=>∃ k,z=.bl k /\
 (if k=true then tc σ H3 λw' H4=>r' y w' H4 Q else Q (.bl false) H3)
theorem ZiU {op op':CmpOp} {r r':R2} (ho:OpR X (compareOp op) r) (ho':OpR X (compareOp op') r') (ha:PE X a ta) (hb:PE X b tb) (hc:PE X c tc)
  (hm:lastMarks [op,op'] [b,c]=false:=by with_unfolding_all rfl):PE X (.Compare a [op,op'] [b,c] pos) (ZaC r r' ta tb tc):=by
 intro pins s σ H Q I h;refine Compare_chain (thn (ha pins s σ H _ I h) λv s1 ⟨x,H1,I1,r1,q1⟩=>chain_link (thn (hb pins s1 σ H1 _ I1 q1) λu s2 ⟨y,H2,I2,r2,q2⟩ =>
  thn (ho pins s2 σ H2 x y v u _ I2 r1 r2 q2) λd s3 ⟨z,H3,I3,r3,k,e,q3⟩=>?_)) hm
 subst e;cases r3;refine wpAny_truthy_bool ?_;cases k with
 | false=>exact ite_ff ⟨.bl false,H3,I3,rfl,q3⟩
 | true=>exact ite_tt (chain_last (thn (hc pins s3 σ H3 _ I3 q3) λw' s4 ⟨z',H4,I4,r4,q4⟩=>ho' pins s4 σ H4 y z' u w' Q I4 r2 r4 q4))
noncomputable def ZfH (K:ym) (x:V) (H:Hp) (k:Bool):Prop :=
 match x with
 | .non=>k=false
 | .bl b=>k=b
 | .int i=>k=(i != 0)
 | .str y=>y.length<=sizeLine/\k=((y.length:Int) != 0)
 | .byt y=>y.size<=sizeLine/\k=((y.size:Int) != 0)
 | .ref p=>(∃ xs,SqL K H p xs/\k=!xs.isEmpty)\/(∃ xs,SqT K H p xs/\k=!xs.isEmpty)\/∃ kvs,H p=some (.dK kvs)/\k=!kvs.isEmpty
 | _=>False
theorem ZkG {κ:Type} {kvs:List (κ×V)} {vs:List (κ×Value)} (r:KV kvs vs):(!vs.isEmpty)=!kvs.isEmpty:=by
 cases r <;> rfl
theorem ZdE {xs:yB} {its:yz} (r:Vals xs its):(!its.toArray.isEmpty)=!xs.isEmpty:=by
 cases r <;> simp
theorem iB:(sizeLine:Nat) < 2 ^ 63:=by rw [sizeLine_eq]; decide
theorem Zgo:Zqt X (λx H Q=>∃ k,ZfH X.K x H k/\Q k H):=by
 intro pins s σ H x v Q I rx h;obtain ⟨k,e,q⟩:=h;have hl:=iB;have hs:sizeLine=16777216:=sizeLine_eq;cases x with
 | non =>
  cases rx;have e':k=false:=e;subst e';exact truthy_none ⟨H,I,q⟩
 | bl b =>
  cases rx;have e':k=b:=e;subst e';exact wpAny_truthy_bool ⟨H,I,q⟩
 | int i =>
  obtain ⟨t,rfl⟩:=rx;have e':k=(i != 0):=e;subst e';exact PySem.P.truthy_int ⟨H,I,q⟩
 | str y =>
  obtain ⟨t,rfl⟩:=rx;obtain ⟨hy,e'⟩:y.length<=sizeLine/\k=((y.length:Int) != 0):=e;subst e';exact PySem.P.truthy_str (by omega) ⟨H,I.tok _,q⟩
 | byt y =>
  obtain ⟨t,rfl⟩:=rx;obtain ⟨hy,e'⟩:y.size<=sizeLine/\k=((y.size:Int) != 0):=e;subst e';exact PySem.W.truthy_bytes (by omega) ⟨H,I.tok _,q⟩
 | ref p =>
  cases rx;have e':(∃ xs,SqL X.K H p xs/\k=!xs.isEmpty)\/(∃ xs,SqT X.K H p xs/\k=!xs.isEmpty)\/∃ kvs,H p=some (.dK kvs)/\k=!kvs.isEmpty:=e;rcases e' with ⟨xs,hx,e'⟩ | ⟨xs,hx,e'⟩ | ⟨kvs,hx,e'⟩
  ·subst e';obtain ⟨its,r,pl,hz⟩:=I.list hx;have hlen:=r.length;exact wpAny_truthy_list pl.isList (by simp only [uW]; omega) ⟨H,I.tok _,by rw [ZdE r]; exact q⟩
  ·subst e';obtain ⟨its,r,pl,hz⟩:=I.tuple hx;have hlen:=r.length;exact truthy_tuple pl (by simp only [uW]; omega) ⟨H,I.tok _,by rw [ZdE r]; exact q⟩
  ·subst e';obtain ⟨hz,hS,vs,r,m⟩:kvs.length<=sizeLine/\(p == sysModules)=false/\∃ vs,KV kvs vs/\s.heap.DictOf (de X.prog X.w) p vs:=I.hok p _ hx;have hlen:kvs.length=vs.length:=xU r;exact wpAny_truthy_dict hS m (by omega) ⟨H,I.tok _,by rw [ZkG r]; exact q⟩
 | _=>exact (show False from e).elim
theorem Zin (ha:PE X a ta) (he:∀ whole,isTrue a X.env whole=(do let v <- whole; standAt a.pos; holding [v] (truthy v))) :
  PT X a (λσ H Q=>ta σ H λx H'=>∃ k,ZfH X.K x H' k/\Q k H'):=by
 intro pins s σ H Q I h;exact isTrue_plain (thn (ha pins s σ H _ I h) λv s1 ⟨x,H1,I1,r1,q1⟩=>Zgo pins s1 σ H1 x v Q I1 r1 q1) (he _)
theorem dS {x:V} {us:yz} (r:Vals [x] us):∃ u,us=[u]/\RelV x u:=by
 cases r with
 | cons r1 r2=>cases r2; exact ⟨_,rfl,r1⟩
theorem hZ {x y:V} {us:yz} (r:Vals [x,y] us):∃ u w',us=[u,w']/\RelV x u/\RelV y w':=by
 cases r with
 | cons r1 r2 =>
  cases r2 with
  | cons r3 r4=>cases r4; exact ⟨_,_,rfl,r1,r3⟩
theorem ZeZ:cW X (.builtin "abs") (λxs H Q=>∃ i,xs=[.int i]/\Q (.int (if i < 0 then -i else i)) H):=by
 intro pins s σ H xs us Q I r h;obtain ⟨i,rfl,q⟩:=h;obtain ⟨u,rfl,t,rfl⟩:=dS r;exact call_abs_int λu tk=>⟨.int (if i < 0 then -i else i),H,I.tok _,⟨_,rfl⟩,q⟩
theorem tT (hc:X.calm=true):cW X (.builtin "max") (λxs H Q=>∃ i j,xs=[.int i,.int j]/\Q (.int (if j > i then j else i)) H):=by
 intro pins s σ H xs us Q I r h;obtain ⟨i,j,rfl,q⟩:=h;obtain ⟨u,w',rfl,⟨t,rfl⟩,⟨t',rfl⟩⟩:=hZ r;refine max_two_ints (I.ok.hd hc) λh' tk k=>⟨_,H,I.kept k,?_,q⟩;by_cases hj:j > i
 ·rw [if_pos hj,if_pos hj]; exact ⟨_,rfl⟩
 ·rw [if_neg hj,if_neg hj]; exact ⟨_,rfl⟩
theorem Zpf (hc:X.calm=true):cW X (.builtin "min") (λxs H Q=>∃ i j,xs=[.int i,.int j]/\Q (.int (if j < i then j else i)) H):=by
 intro pins s σ H xs us Q I r h;obtain ⟨i,j,rfl,q⟩:=h;obtain ⟨u,w',rfl,⟨t,rfl⟩,⟨t',rfl⟩⟩:=hZ r;refine min_two_ints (I.ok.hd hc) λh' tk k=>⟨_,H,I.kept k,?_,q⟩;by_cases hj:j < i
 ·rw [if_pos hj,if_pos hj]; exact ⟨_,rfl⟩
 ·rw [if_neg hj,if_neg hj]; exact ⟨_,rfl⟩
theorem tU:cW X (.type "int") (λxs H Q=>(∃ i,xs=[.int i]/\Q (.int i) H)\/∃ k,xs=[.bl k]/\Q (.int (if k then 1 else 0)) H):=by
 intro pins s σ H xs us Q I r h;rcases h with ⟨i,rfl,q⟩ | ⟨k,rfl,q⟩
 ·obtain ⟨u,rfl,t,rfl⟩:=dS r;exact call_int_int ⟨.int i,H,I,⟨_,rfl⟩,q⟩
 ·obtain ⟨u,rfl,r1⟩:=dS r;cases r1;exact call_int_bool ⟨.int (if k then 1 else 0),H,I.tok _,⟨_,rfl⟩,q⟩
end
structure ObjM (h:Heap) (x dx C:Addr) (mA:yC):Prop where
 obj:h.get? x=some (PySem.W.instObj C dx)
 ns:h.Ns1 dx mA
 ne:dx≠x
theorem Zj2 {h:Heap} {dx:Addr} {mA:yC} (n:h.Ns1 dx mA):∃ od,h.get? dx=some od/\∀ name,PySem.W.lookIn name od=some (mA name):=by
 obtain ⟨o,es,ep,ho,hd,hk,_,hm⟩:=n;refine ⟨o,ho,λname=>?_⟩;have e:=hm name;unfold nsFind findBy at e;rw [<- Array.find?_toList] at e;unfold PySem.W.lookIn;rw [hd];dsimp only
 split
 ·rename_i y q;rw [q] at e;exact congrArg some e
 ·rename_i q;rw [q] at e;have a:es.toList.any (·.refKey)=false:=by
   rw [List.any_eq_false];intro y hy;obtain ⟨z,t,hkey⟩:=hk y (Array.mem_toList_iff.mp hy);simp [DictEntry.refKey,hkey]
  have a':¬ es.toList.any (·.refKey)=true:=by rw [a]; exact u3
  rw [if_neg a'];exact congrArg some e
theorem ObjM.look {h:Heap} {x dx C:Addr} {mA:yC} (I:ObjM h x dx C mA):∃ od,PySem.W.InstAt h x (PySem.W.instObj C dx) C (some od)/\∀ name,PySem.W.lookIn name od=some (mA name) :=
 let ⟨od,ho,hl⟩:=Zj2 I.ns
 ⟨od,⟨I.obj,rfl,rfl,ho⟩,hl⟩
section
variable {prog:Program} {w:World} {A:Around} {E:yw} {s:Shared} {K:ym} {x dx C f:Addr} {mA:yC} {name:Str} {v:Value}
end
theorem RelO.some_of {v:V} {o:Option Value} (r:RelO (some v) o):∃ u,o=some u/\RelV v u:=by
 cases o with
 | none=>exact (show False from r).elim
 | some u=>exact ⟨u,rfl,r⟩
section
variable {P:Program} {w:World} {H H':Hp} {h h':Heap} {a C dx:Addr} {fs fs':List (Str×V)}
theorem ZkP (hok:HOk P w H h) (e:H a=some (.ins C dx fs)):∃ mA,ObjM h a dx C mA/\(∀ f,RelO (fs.lookup f) (mA f))/\PySem.Within mA (fs.map (·.1))/\fs.length<=1000/\H dx=some (.own a):=by
 obtain ⟨d,z,ne,ob,mA,n,r,q⟩:=(show ObjOk P w H h a (.ins C dx fs) from hok a _ e)
 exact ⟨mA,⟨ob,n,ne⟩,r,q,z,d⟩
end
structure Cls (K:ym) (C:Addr):Prop where
 pg:PySem.W.plainGet K C Str.empty=true
 hd:PySem.W.hasDictIn K C=true
 po:PySem.W.plainOver K C=true
 sa:PySem.W.findIn K (.ref C) "__setattr__"=some (some (.builtin "object.__setattr__"))
theorem Cls.get {K:ym} {C:Addr} (c:Cls K C) (f:Str):PySem.W.plainGet K C f=true:=c.pg
section
variable {X:Cx} {pins:yF} {σ:St} {H:Hp} {s:Shared} {a C dx:Addr} {fs:List (Str×V)} {f:Str} {v:V} {A:Around} {E:yw}
end
section
variable {X:Cx} {o e value:Expr} {f:Str} {pos pos' tpos:Pos} {ta tv:TE}
end
section
variable {X:Cx} {pins:yF} {σ:St} {H:Hp} {s:Shared} {A:Around} {E:yw} {Q:yw} {c:Value} {b:Bool}
inductive TyOf (K:ym) (H:Hp):V->Value->Prop where
 | non:TyOf K H .non (.type "NoneType")
 | bl (x:Bool):TyOf K H (.bl x) (.type "bool")
 | int (i:Int):TyOf K H (.int i) (.type "int")
 | str (x:Str):TyOf K H (.str x) (.type "str")
 | flt (x:UInt64):TyOf K H (.flt x) (.type "float")
 | lst {a:Addr} {xs:yB} (e:H a=some (.lst xs)):TyOf K H (.ref a) (.type "list")
 | frz {a:Addr} {o:Obj} {xs:yB} (e:H a=some (.frz o (.lst xs))):TyOf K H (.ref a) (.type "list")
 | tup {a:Addr} {xs:yB} (e:H a=some (.tup xs)):TyOf K H (.ref a) (.type "tuple")
 | dK {a:Addr} {kvs:List (aD×V)} (e:H a=some (.dK kvs)):TyOf K H (.ref a) (.type "dict")
 | dT {a:Addr} {kvs:List (List aD×V)} (e:H a=some (.dT kvs)):TyOf K H (.ref a) (.type "dict")
 | frzD {a:Addr} {o:Obj} {kvs:List (aD×V)} (e:H a=some (.frz o (.dK kvs))):TyOf K H (.ref a) (.type "dict")
 | ins {a C dx:Addr} {fs:List (Str×V)} (e:H a=some (.ins C dx fs)) (cl:Cls K C) (ha:PySem.W.findIn K (.ref C) "__class__"=some (some (.builtin "object.__class__")))
   (hn:PySem.W.specialIn K (.builtin "object.__class__") "__get__"=some (some (.builtin "getset_descriptor.__get__"))) (htk:PySem.W.takesIn K (.builtin "object.__class__")=some true)
   (hm:PySem.W.mroIn K C (.type "object")=some true):TyOf K H (.ref a) (.ref C)
theorem ZkF {x:V} {u t:Value} (I:Inv X pins σ H s) (rx:RelV x u) (ty:TyOf X.K H x t) (e:PySem.W.kitOne X.K t c=some b) (h:∀ tk,Q (.bool b) { s with toks:=tk }) :
  wpAny (model X.prog X.w) A (call (.builtin "isinstance") [u,c]) Q E s:=by
 cases ty with
 | non=>cases (show u=Value.none from rx); exact vJ PySem.W.kitx_none I.kIn True.intro e (λz=>nomatch z) h
 | bl y=>cases (show u=Value.bool y from rx); exact vJ PySem.W.kitx_bool I.kIn True.intro e (λz=>nomatch z) h
 | int i=>obtain ⟨t,q⟩:=(show ∃ t,u=Value.int i t from rx); cases q; exact vJ PySem.W.kitx_int I.kIn True.intro e (λz=>nomatch z) h
 | str y=>obtain ⟨t,q⟩:=(show ∃ t,u=Value.str y t from rx); cases q; exact vJ PySem.W.kitx_str I.kIn True.intro e (λz=>nomatch z) h
 | flt y=>obtain ⟨t,q⟩:=(show ∃ t,u=Value.float y t from rx); cases q; exact vJ PySem.W.kitx_float I.kIn True.intro e (λz=>nomatch z) h
 | @lst a xs ea =>
  cases (show u=Value.ref a from rx)
  obtain ⟨_,_,n,_,h1⟩:=(show ObjOk X.prog X.w H s.heap a (.lst xs) from I.hok a _ ea)
  exact vJ PySem.W.kitx_list I.kIn ⟨_,h1,rfl⟩ e (λz=>nomatch z) h
 | @frz a ob xs ea =>
  cases (show u=Value.ref a from rx)
  obtain ⟨_,_,_,n,_,h1⟩:=(show ObjOk X.prog X.w H s.heap a (.frz ob (.lst xs)) from I.hok a _ ea)
  exact vJ PySem.W.kitx_list I.kIn ⟨_,h1,rfl⟩ e (λz=>nomatch z) h
 | @tup a xs ea =>
  cases (show u=Value.ref a from rx)
  obtain ⟨_,_,_,p⟩:=(show ObjOk X.prog X.w H s.heap a (.tup xs) from I.hok a _ ea)
  obtain ⟨o,h1,h2,_⟩:=p;exact vJ PySem.W.kitx_tuple I.kIn ⟨o,h1,h2⟩ e (λz=>nomatch z) h
 | @dK a kvs ea =>
  cases (show u=Value.ref a from rx)
  obtain ⟨_,_,vs,_,p⟩:=(show ObjOk X.prog X.w H s.heap a (.dK kvs) from I.hok a _ ea)
  obtain ⟨o,es,ep,h1,h2,_⟩:=p;exact vJ xQ I.kIn ⟨o,h1,h2.1⟩ e (λz=>nomatch z) h
 | @frzD a ob kvs ea =>
  cases (show u=Value.ref a from rx)
  obtain ⟨_,_,_,vs,_,p⟩:=(show ObjOk X.prog X.w H s.heap a (.frz ob (.dK kvs)) from I.hok a _ ea)
  obtain ⟨o,es,ep,h1,h2,_⟩:=p;exact vJ xQ I.kIn ⟨o,h1,h2.1⟩ e (λz=>nomatch z) h
 | @dT a kvs ea =>
  cases (show u=Value.ref a from rx)
  obtain ⟨_,_,xs,_,o,es,ep,h1,h2,_⟩:=(show ObjOk X.prog X.w H s.heap a (.dT kvs) from I.hok a _ ea)
  exact vJ xQ I.kIn ⟨o,h1,h2.1⟩ e (λz=>nomatch z) h
 | @ins a C dx fs ea cl ha hn htk hm =>
  cases (show u=Value.ref a from rx)
  obtain ⟨mA,O,_⟩:=ZkP I.hok ea;obtain ⟨od,J,_⟩:=O.look;exact vJ (PySem.W.kitx_own (cl.get _) cl.hd ha hn htk hm) I.kIn J e (λz=>nomatch z) h
end
structure Room (k:Nat) (A:Around):Prop where
 hd:A.handled=none
 dp:A.depth+3 * k+5 < recursionLimit
 un:A.units+16 * k+200 < cLine
 gd:A.guards=some []
theorem Room.mono {j k:Nat} {A:Around} (r:Room k A) (h:j<=k):Room j A:=⟨r.hd,by have:=r.dp; omega,by have:=r.un; omega,r.gd⟩
theorem Room.deeper {k:Nat} {A:Around} (r:Room (k+1) A) (env:Env):Room k (A.deeper env) :=
 ⟨r.hd,by have:=r.dp; show A.depth+1+3 * k+5 < _; omega,by have:=r.un; show A.units+3+16 * k+200 < _; omega,r.gd⟩
theorem Room.depth {k:Nat} {A:Around} (r:Room k A):A.depth < recursionLimit:=by have:=r.dp; omega
theorem Room.units {k:Nat} {A:Around} (r:Room k A):A.units+64 < cLine:=by have:=r.un; omega
def bb:TA:=λ_ H Q=>Q [] H
def eE (ta:TE) (tr:TA):TA:=λσ H Q=>ta σ H λx H1=>tr σ H1 λxs H2=>Q (x::xs) H2
section
variable {X:Cx} {e:Expr} {es:List Expr} {te:TE} {t:TA} {pos:Pos}
theorem bM:PA X [] bb:=λ_ _ _ _ H Q I h=>Calls.spliced_nil ⟨[],H,I,.nil,h⟩
theorem aV (ha:PE X e te) (hr:PA X es t) (hs:starEach (e::es) X.env=(false,eval e X.env)::starEach es X.env:=by rfl):PA X (e::es) (eE te t):=by
 intro pos pins s σ H Q I h;rw [hs];show wpAny _ _ (spliced ((false,eval e X.env)::backTo pos (starEach es X.env))) _ _ s;refine Calls.spliced_cons (thn (ha pins s σ H _ I h) λu s1 hz0=>?_);obtain ⟨x,H1,I1,r1,q1⟩:=hz0;exact thn (hr pos pins s1 σ H1 _ I1 q1) λus s2 hz0=>by
  obtain ⟨xs,H2,I2,r2,q2⟩:=hz0;exact ⟨x::xs,H2,I2,.cons r1 r2,q2⟩
def Zgw (t:TA):TE:=λσ H Q=>t σ H λxs H1=>xs.length<=sizeLine/\∀ p,H1 p=none->Q (.ref p) (upd H1 p (.tup xs))
def ZgK (t:TA):TE:=λσ H Q=>t σ H λxs H1=>xs.length<=sizeLine/\∀ p,H1 p=none->Q (.ref p) (upd H1 p (.lst xs))
theorem rO {x1} (h:PA X es t):PE X (.Tuple es x1 pos) (Zgw t):=by
 intro pins s σ H Q I hq;refine wpAny_Tuple_spliced (thn (h pos pins s σ H _ I hq) λus s1 ⟨xs,H1,I1,r,z,q⟩=>⟨by rw [<- r.length]; exact z,?_⟩)
 have hf:H1 s1.heap.objs.size=none:=I1.hok.fresh (uQ _);refine ⟨.ref s1.heap.objs.size,upd H1 s1.heap.objs.size (.tup xs),I1.laid (t':=s1.toks) (λb u e=>uN _ e) (uQ _) ?_,rfl,q _ hf⟩;exact ⟨z,us,r,⟨_,uS _ rfl,rfl,_,rfl⟩⟩
theorem ZcG (h:PA X es t):PE X (.List es pos) (ZgK t):=by
 intro pins s σ H Q I hq;refine wpAny_List_spliced (thn (h pos pins s σ H _ I hq) λus s1 ⟨xs,H1,I1,r,z,q⟩=>⟨by rw [<- r.length]; exact z,?_⟩)
 have hf:H1 s1.heap.objs.size=none:=I1.hok.fresh (uQ _);refine ⟨.ref s1.heap.objs.size,upd H1 s1.heap.objs.size (.lst xs),I1.laid (t':=s1.toks) (λb u e=>uN _ e) (uQ _) ?_,rfl,q _ hf⟩;exact ⟨z,us,0,r,uS _ rfl⟩
end
abbrev Sp:=List V->Hp->VK->XK->Prop
abbrev eQ:=List Env->Hp->Shared->XK->Value->Shared->Prop
structure Env0 (P:Program) (w:World) (K:ym) (mg:yC) (base:Heap) (A:Around) (outer:List Env) (s:Shared) (H:Hp):Prop where
 frames:A.frames=some outer
 mod:Mod K mg base
 bs:∀ b o,base.get? b=some o->s.heap.get? b=some o/\H b=none
 bsz:base.objs.size<=s.heap.objs.size
 funs:s.heap.FunFrames base outer
 frf:∀ b∈frs outer,H b=none
 hok:HOk P w H s.heap
 bare:AllBare s.gens
noncomputable def CE (outer:List Env) (P:Program) (w:World) (H:Hp) (s:Shared) (Q:VK) (u:Value) (s':Shared):Prop :=
 ∃ v H',s'.os=s.os/\AllBare s'.gens/\Un (frs outer) [] H H' s.heap s'.heap/\HOk P w H' s'.heap/\RelV v u/\Q v H'
noncomputable def CR (CX:eQ) (outer:List Env) (P:Program) (w:World) (H:Hp) (s:Shared) (Q:VK) (E:XK) (r:Result) (s':Shared):Prop :=
 match r with
 | .ok (.ret u)=>CE outer P w H s Q u s'
 | .ok _=>False
 | .error e=>CX outer H s E e s'
structure FnOk (P:Program) (w:World) (K:ym) (mg:yC) (base:Heap) (CX:eQ) (k:Nat) (f:Addr) (fd:FuncData) (ps:yA) (sp:Sp):Prop where
 len:∀ vs H Q E,sp vs H Q E->vs.length=ps.length
 run:∀ (A:Around) (outer:List Env) (s:Shared) (H:Hp) (args:Args) (us:yz) (vs:yB) (Q:VK) (E:XK),Room k A->Env0 P w K mg base A outer s H->BindsTo s fd args (ps.zip us)->Vals vs us->sp vs H Q E ->
  codeAny (model P w) A (.call (.ref f) args) (CR CX outer P w H s Q E) s
theorem FnOk.imp {P:Program} {w:World} {K:ym} {mg:yC} {base:Heap} {CX:eQ} {k:Nat} {f:Addr} {fd:FuncData} {ps:yA} {sp sp':Sp} (F:FnOk P w K mg base CX k f fd ps sp)
  (h:∀ vs H Q E,sp' vs H Q E->sp vs H Q E):FnOk P w K mg base CX k f fd ps sp' :=
 ⟨λvs H Q E q=>F.len vs H Q E (h _ _ _ _ q),λA outer s H args us vs Q E hr he hb hv hs=>F.run A outer s H args us vs Q E hr he hb hv (h _ _ _ _ hs)⟩
section
variable {X:Cx} {pins:yF} {σ:St} {H:Hp} {s s':Shared}
theorem Inv.env0 (I:Inv X pins σ H s):Env0 X.prog X.w X.K X.mg X.base X.A X.stack s H :=
 ⟨I.ok.frames,I.ok.mod,I.bs,u8 I.ok.bsz I.sz,I.stack,I.stkFree,I.hok,I.bare⟩
theorem Inv.after {Q:VK} {u:Value} (I:Inv X pins σ H s) (h:CE X.stack X.prog X.w H s Q u s'):EP X pins σ Q u s':=by
 obtain ⟨v,H',os,bare,un,hok,r,q⟩:=h;obtain ⟨hh,g,d,t,os'⟩:=s';obtain rfl:os'=s.os:=os;exact ⟨v,H',I.call (h':=hh) (g':=g) (d':=d) (t':=t) (ch:=[]) un hok bare (λb z=>absurd z (by simp)),r,q⟩
end
def ZaD (sp:Sp) (dvs:yB) (E:XK) (t:TA):TE:=λσ H Q=>t σ H λvs H1=>sp (vs++dvs) H1 Q E
noncomputable def Binds (K:ym) (fd:FuncData) (ps:yA) (ds:yz):Prop :=
 ∀ (s:Shared) (us:yz),K.In s.heap->(us++ds).length=ps.length->BindsTo s fd ⟨us,[]⟩ (ps.zip (us++ds))
theorem Binds.all {K:ym} {fd:FuncData} {ps:yA} (h:∀ us:yz,us.length=ps.length->bindArgs fd ⟨us,[]⟩=pure (ps.zip us)):Binds K fd ps []:=λs us _ hl=>by
 rw [vo] at hl ⊢;exact .of_eq (h us hl)
def uF (CX:eQ) (X:Cx) (E:XK):Prop:=∀ (pins:yF) (σ:St) (H:Hp) (s:Shared) (e:Value) (s':Shared),Inv X pins σ H s->CX X.stack H s E e s'->X.xe e s'
section
variable {X:Cx} {CX:eQ} {k:Nat} {f C:Addr} {fd:FuncData} {ps:yA} {sp:Sp} {dvs:yB} {ds:yz} {E:XK} {x m:Str} {p pos apos:Pos} {e o:Expr} {es:List Expr} {ta:TE} {t:TA}
theorem ZhN {pins:yF} {σ:St} {H:Hp} {s:Shared} {Q:VK} {us:yz} {vs:yB} (F:FnOk X.prog X.w X.K X.mg X.base CX k f fd ps sp) (hr:Room k X.A) (hb:Binds X.K fd ps ds) (hd:Vals dvs ds) (hx:uF CX X E)
  (I:Inv X pins σ H s) (r:Vals vs us) (h:sp (vs++dvs) H Q E):wpAny (model X.prog X.w) X.A (call (.ref f) us) (EP X pins σ Q) X.xe s:=by
 have r2:Vals (vs++dvs) (us++ds):=r.append hd;have hl:(us++ds).length=ps.length:=by rw [<- r2.length]; exact F.len _ _ _ _ h
 refine wpAny_call (codeAny_mono (F.run X.A X.stack s H ⟨us,[]⟩ (us++ds) (vs++dvs) Q E hr I.env0 (hb s us I.kIn hl) r2 h) λr s' hq=>?_);cases r with
 | error e=>exact hx pins σ H s e s' I hq
 | ok fl =>
  cases fl with
  | ret u=>exact I.after hq
  | next=>exact False.elim hq
  | brk=>exact False.elim hq
  | cont=>exact False.elim hq
theorem ZiV (F:FnOk X.prog X.w X.K X.mg X.base CX k f fd ps sp) (hr:Room k X.A) (hg:Gl X x) (hm:X.mg x=some (.ref f)) (hk:PySem.W.keepIn X.K (.ref f)=true) (hb:Binds X.K fd ps ds) (hd:Vals dvs ds) (hx:uF CX X E)
  (ha:PA X (e::es) t) (hdb:(x == ("__debug__":Str))=false:=by decide) (he:starEach (e::es) X.env=(false,eval e X.env)::starEach es X.env:=by rfl) (hpl:(backTo pos (starEach es X.env)).any (·.1)=false:=by rfl) :
  PE X (.Call (.Name x p) (e::es) [] pos) (ZaD sp dvs E t):=by
 intro pins s σ H Q I h;refine wpAny_Call_Name_kw (oG I hg hm ?_ hdb);refine w8 (h₀:=X.base) I.ok.mod.kin hk (thn (ha pos pins s σ H _ I h) λus s1 ⟨vs,H1,I1,r,q⟩=>⟨I1.kIn,?_⟩) he hpl;exact ZhN F hr hb hd hx I1 r q
end
noncomputable def PK (X:Cx) (kws:List Keyword) (t:TA):Prop :=
 ∀ (pos:Pos) (pins:yF) (s:Shared) (σ:St) (H:Hp) (Q:List V->Hp->Prop),Inv X pins σ H s->t σ H Q->wpAny (model X.prog X.w) X.A (evalAll ((backToKw pos (keywordEach kws X.env)).map (·.2))) (AP X pins σ Q) X.xe s
section
variable {X:Cx} {CX:eQ} {k:Nat} {f C:Addr} {fd:FuncData} {ps ks:yA} {sp:Sp} {E:XK} {x m:Str} {p pos apos kpos:Pos} {e o:Expr} {es:List Expr} {kws:List Keyword} {te ta:TE} {t tk:TA} {nm:Option Str}
variable {g:List Value->List Value->List Value} {gV:List V->List V->List V}
end
structure FnScope (N P:yA) (sc:Scope):Prop where
 kind:sc.kind=.function
 co:sc.isCoroutine=false
 gen:sc.isGenerator=false
 nd:N.Nodup
 pre:N.take P.length=P
 par:∀ x∈P,sc.names.lookup x=some .local\/sc.names.lookup x=some .cell
 nofree:∀ y∈sc.names,y.2≠.free
theorem Zfb {kindOf:Str->Option NameKind} {x:Str}:∀ {binds:List (Str×Value)} {m:yC},(∀ v,(x,v) ∉ binds)->bindL kindOf binds m x=m x
 | [],_,_=>rfl
 | (n,v)::r,m,h=>by
  unfold bindL;rw [Zfb λw hw=>h w (uP _ hw)]
  split
  ·have:x≠n:=by rintro rfl; exact h v vM
   simp [this]
  ·rfl
theorem Zfd {kindOf:Str->Option NameKind} {x:Str}:∀ {binds:List (Str×Value)} {m:yC},(∀ v,(x,v) ∉ binds)->bindC kindOf binds m x=m x
 | [],_,_=>rfl
 | (n,v)::r,m,h=>by
  unfold bindC;rw [Zfd λw hw=>h w (uP _ hw)]
  split
  ·rfl
  ·have:x≠n:=by rintro rfl; exact h v vM
   simp [this]
theorem Zfc {kindOf:Str->Option NameKind} {x:Str} {v:Value}:∀ {P:yA} {vs:yz} {i:Nat} {m:yC},P.Nodup->P[i]?=some x->vs[i]?=some v->kindOf x=some .local ->
  bindL kindOf (P.zip vs) m x=some v
 | [],_,_,_,_,h,_,_=>by simp at h
 | _::_,[],_,_,_,_,h,_=>by simp at h
 | p::P,w::vs,0,m,nd,h1,h2,hk=>by
  simp at h1 h2; subst h1; subst h2;show bindL kindOf ((p,w)::P.zip vs) m p=_;unfold bindL;rw [Zfb λv hv=>(xE.mp nd).1 (xW hv).1,if_pos hk];simp
 | p::P,w::vs,i+1,m,nd,h1,h2,hk=>by
  show bindL kindOf ((p,w)::P.zip vs) m x=_;unfold bindL;exact Zfc (i:=i) (xE.mp nd).2 (by simpa using h1) (by simpa using h2) hk
theorem Zfe {kindOf:Str->Option NameKind} {x:Str} {v:Value}:∀ {P:yA} {vs:yz} {i:Nat} {m:yC},P.Nodup->P[i]?=some x->vs[i]?=some v->kindOf x≠some .local ->
  bindC kindOf (P.zip vs) m x=some v
 | [],_,_,_,_,h,_,_=>by simp at h
 | _::_,[],_,_,_,_,h,_=>by simp at h
 | p::P,w::vs,0,m,nd,h1,h2,hk=>by
  simp at h1 h2; subst h1; subst h2;show bindC kindOf ((p,w)::P.zip vs) m p=_;unfold bindC;rw [Zfd λv hv=>(xE.mp nd).1 (xW hv).1,if_neg hk];simp
 | p::P,w::vs,i+1,m,nd,h1,h2,hk=>by
  show bindC kindOf ((p,w)::P.zip vs) m x=_;unfold bindC;exact Zfe (i:=i) (xE.mp nd).2 (by simpa using h1) (by simpa using h2) hk
noncomputable def start (N:yA) (vs:yB):St:=vs.map some++List.replicate (N.length - vs.length) none
noncomputable def cK (CX:eQ) (P:Program) (w:World) (K:ym) (mg:yC) (base:Heap) (N:yA) (qual:Str) (scope:Scope) (f:Addr) (cd:Value) (A:Around) (outer:List Env) (s:Shared) (H:Hp) (E:XK):Cx where
 prog:=P
 w:=w
 K:=K
 mg:=mg
 base:=base
 A:=A.deeper (envOfC qual scope s.heap.objs.size f cd)
 N:=N
 s₀:=s
 H₀:=H
 env:=envOfC qual scope s.heap.objs.size f cd
 outer:=outer
 stack:=envOfC qual scope s.heap.objs.size f cd::outer
 ex:=[]
 calm:=true
 fn:=λ_=>true
 pn:=[]
 xe:=λe s'=>wpAny (model P w) (A.deeper (envOfC qual scope s.heap.objs.size f cd)) (leaving (envOfC qual scope s.heap.objs.size f cd) e) (λ_ s''=>CX outer H s E e s'') (λe' s''=>CX outer H s E e' s'') s'
theorem ZeR {sc:Scope} {n:Nat} {x:Str} (h:sc.names.lookup x=some .cell):∃ c,(cellsFrom n sc.names []).lookup x=some c:=by
 have q:=PySem.W.cellsFrom_some sc.names n [] (.inl h);exact Option.isSome_iff_exists.mp q
theorem ZkN {CX:eQ} {P:Program} {w:World} {K:ym} {mg:yC} {base:Heap} {N ps:yA} {qual:Str} {scope:Scope} {f:Addr} {cd:Value} {A:Around} {outer:List Env} {s s1:Shared} {H:Hp} {E:XK} {us:yz} {vs:yB}
  (S:FnScope N ps scope) (hd:A.handled=none) (e0:Env0 P w K mg base A outer s H) (hl:vs.length=ps.length) (r:Vals vs us)
  (x:InCallC s s.heap.objs.size (bindL (envOfC qual scope s.heap.objs.size f cd).kindOf (ps.zip us) λ_=>none) (cellsFrom (s.heap.objs.size+1) scope.names []) (bindC (envOfC qual scope s.heap.objs.size f cd).kindOf (ps.zip us) λ_=>none) s1) :
  Inv (cK CX P w K mg base N qual scope f cd A outer s H E) [] (start N vs) H s1:=by
 have hpl:ps.length<=N.length:=by have:=congrArg List.length S.pre; rw [v9] at this; omega
 obtain ⟨h1,tk,rfl,hk⟩:=x.done;have noA:∀ b:Addr,b ∉ (cK CX P w K mg base N qual scope f cd A outer s H E).ex:=λb z=>absurd (show b∈([]:List Addr) from z) (by simp)
 refine ⟨⟨e0.mod,S.kind,rfl,rfl,uQ _,λy z c h1 h2=>?_,λy hy=>?_,λy c _ h=>?_,λ_=>hd,Around.frames_deeper e0.frames,.inr ⟨rfl,rfl⟩,λb z=>absurd z (noA b),e0.bs,e0.bsz,λb _ _=>noA b,λb z=>absurd z (noA b),e0.funs,e0.frf⟩,
  rfl,e0.bare,Un.kept hk,⟨_,x.toInCall.ns,λi y v h1 h2 h3=>?_⟩,λy c h=>⟨_,x.cell y c h⟩,e0.hok.fresh (uQ _),λy c h=>?_,λp hp=>absurd (show p∈([]:yF) from hp) (by simp),e0.hok.kept hk,?_⟩
 ·exact name_of_addr x.apart (vx h1) (vx h2)
 ·have hy:scope.names.lookup y=some .cell\/scope.names.lookup y=some .free:=hy;rcases hy with hy | hy
  ·exact ZeR hy
  ·exact absurd rfl (S.nofree _ (vx hy))
 ·exact wJ (x.above y c (vx h))
 ·have hi:i < vs.length:=by
   unfold start at h2;by_cases hi:i < vs.length
   ·exact hi
   ·rw [vA (by simpa using hi)] at h2
    rw [vn] at h2
    split at h2 <;> cases h2
  have ha:vs[i]?=some v:=by
   unfold start at h2;rw [vp (by simpa using hi),uT] at h2
   cases e:vs[i]? with
   | none=>rw [e] at h2; cases h2
   | some a=>rw [e] at h2; cases h2; rfl
  obtain ⟨u,hu,rv⟩:=r.get ha;have hp:ps[i]?=some y:=by
   rw [<- S.pre,List.getElem?_take_of_lt (by omega)]; exact h1
  have ndP:ps.Nodup:=by rw [<- S.pre]; exact S.nd.sublist (List.take_sublist _ _)
  refine ⟨u,rv,?_⟩;rcases S.par y (vY hp) with k | k
  ·exact .inl ⟨k,Zfc ndP hp hu k⟩
  ·obtain ⟨c,e⟩:=ZeR (n:=s.heap.objs.size+1) k;refine .inr ⟨.inl k,c,e,?_⟩;have q:=x.cell y c e;rw [Zfe ndP hp hu (by show scope.names.lookup y≠_; rw [k]; decide)] at q
   exact q
 ·exact e0.hok.fresh (wJ (x.above y c (vx h)))
 ·unfold start;show _=N.length;rw [vF,uO,vE];omega
theorem sX {CX:eQ} {P:Program} {w:World} {K:ym} {mg:yC} {base:Heap} {k:Nat} {f:Addr} {name qual:Str} {params:Arguments} {body:List Stmt} {scope:Scope} {dV kV doc pm cdv ct oc:Value} {an od:Option Addr}
  {osl:Array (Option Value)} {N ps:yA} {sp:Sp} (lk:K.lookup f=some ⟨oc,od,.func (PySem.W.fnOf name qual params body scope dV kV doc pm an cdv ct),osl⟩) (hcd:PySem.W.codeIn K cdv qual=true) (S:FnScope N ps scope)
  (len:∀ vs H Q E,sp vs H Q E->vs.length=ps.length)
  (hbody:∀ (A:Around) (outer:List Env) (s:Shared) (H:Hp) (vs:yB) (Q:VK) (E:XK),Room k (A.deeper (envOfC qual scope s.heap.objs.size f cdv))->sp vs H Q E ->
   ∃ t,PSs (cK CX P w K mg base N qual scope f cdv A outer s H E) body t/\t { nx:=λ_ H'=>Q .non H',rt:=Q } (start N vs) H) :
  FnOk P w K mg base CX (k+1) f (PySem.W.fnOf name qual params body scope dV kV doc pm an cdv ct) ps sp:=by
 refine ⟨len,λA outer s H args us vs Q E hr e0 hb r hsp=>?_⟩;have hl:=len _ _ _ _ hsp;have KX:K.In s.heap:=e0.mod.kin.keeps λb o e=>(e0.bs b o e).1;have lim:s.heap.NoLimit:=e0.mod.nolimit.keeps λb o e=>(e0.bs b o e).1;have hkind:∀ y∈ps.zip us,scope.names.lookup y.1=some .local\/(scope.names.lookup y.1=some .cell/\((cellsFrom (s.heap.objs.size+1) scope.names []).lookup y.1).isSome=true):=λ⟨n,v⟩ hy=>by
  rcases S.par n (xW hy).1 with q | q
  ·exact .inl q
  ·exact .inr ⟨q,PySem.W.cellsFrom_some _ _ _ (.inl q)⟩
 refine codeAny_call_function hr.depth (KX _ _ lk) rfl S.co S.gen rfl (PySem.W.codeRec_of KX hcd) (hb _ _ _ _ ?_);refine wpAny_newFunctionEnv_cells S.kind hkind λenv he s1 x=>?_;subst he;refine ⟨lim.keeps x.toInCall.keep,codeAny_func ?_⟩;obtain ⟨t,ht,hq⟩:=hbody A outer s H vs Q E (hr.deeper _) hsp;have I:Inv (cK CX P w K mg base N qual scope f cdv A outer s H E) [] (start N vs) H s1:=ZkN S hr.hd e0 hl r x;refine wpAny_mono (ht [] s1 (start N vs) H _ I hq) (λfl s' hs=>?_) λe s' hs=>hs;have fin:∀ {σ':St} {H':Hp} {v:V} {u:Value},Inv (cK CX P w K mg base N qual scope f cdv A outer s H E) [] σ' H' s'->RelV v u->Q v H'->CE outer P w H s Q u s' :=
  λ{σ' H' v u} J rv q=>⟨v,H',J.os,J.bare,J.base,J.hok,rv,q⟩
 cases fl with
 | ret u =>
  obtain ⟨v,σ',H',J,rv,q⟩:=hs;exact fin J rv q
 | next =>
  obtain ⟨σ',H',J,q⟩:=hs;exact fin (v:=V.non) (u:=Value.none) J rfl q
 | brk =>
  obtain ⟨_,_,_,q⟩:=hs;exact False.elim q
 | cont =>
  obtain ⟨_,_,_,q⟩:=hs;exact False.elim q
section
variable {X:Cx} {x:Str} {p pos:Pos} {e:Expr} {es:List Expr} {t:TA} {id T:String} {r:List V->Hp->VK->Prop}
def fq (r:List V->Hp->VK->Prop) (t:TA):TE:=λσ H Q=>t σ H λvs H1=>r vs H1 Q
theorem be (hc:cW X (.builtin id) r) (hg:Gl X x) (hm:X.mg x=none) (hv:bootBuiltins x=some (.builtin id)) (ha:PA X (e::es) t) (hn:x≠"__name__":=by decide) (hdb:(x == ("__debug__":Str))=false:=by decide)
  (he:starEach (e::es) X.env=(false,eval e X.env)::starEach es X.env:=by rfl) (hpl:(backTo pos (starEach es X.env)).any (·.1)=false:=by rfl):PE X (.Call (.Name x p) (e::es) [] pos) (fq r t):=by
 intro pins s σ H Q I h;refine wpAny_Call_Name_kw (iC I hg hm hv ?_ hn hdb);exact PyProof.Rows.callWith_builtin1 (thn (ha pos pins s σ H _ I h) λus s1 ⟨vs,H1,I1,r1,q1⟩=>hc pins s1 σ H1 vs us Q I1 r1 q1) he hpl
theorem dY (hc:cW X (.type T) r) (hg:Gl X x) (hm:X.mg x=none) (hv:bootBuiltins x=some (.type T)) (ha:PA X (e::es) t) (hn:x≠"__name__":=by decide) (hdb:(x == ("__debug__":Str))=false:=by decide)
  (he:starEach (e::es) X.env=(false,eval e X.env)::starEach es X.env:=by rfl) (hpl:(backTo pos (starEach es X.env)).any (·.1)=false:=by rfl):PE X (.Call (.Name x p) (e::es) [] pos) (fq r t):=by
 intro pins s σ H Q I h;refine wpAny_Call_Name_kw (iC I hg hm hv ?_ hn hdb);exact vS (thn (ha pos pins s σ H _ I h) λus s1 ⟨vs,H1,I1,r1,q1⟩=>hc pins s1 σ H1 vs us Q I1 r1 q1) he hpl
end
end L2
namespace HT
noncomputable def cZ:List Int->List Int->Bool
 | [],[]=>false
 | [],_::_=>true
 | _::_,[]=>false
 | x::xs,y::ys=>if x=y then cZ xs ys else decide (x < y)
theorem Zdi (x y:Int) (xs ys:yy):cZ (x::xs) (y::ys)=if x=y then cZ xs ys else decide (x < y):=rfl
theorem Zdh:cZ [] []=false:=rfl
theorem Zj5 (y:Int) (ys:yy):cZ [] (y::ys)=true:=rfl
theorem Zj6 (x:Int) (xs:yy):cZ (x::xs) []=false:=rfl
theorem ZnV (A:Around) (s:Shared) (a:Int) (t:Tok) (c:Int) (u:Tok):∃ e,SeqAt.EqAt A s (.int a t) (.int c u) e/\(e=true ↔ a=c) :=
 ⟨(a == c),SeqAt.EqAt.int_int a t c u,by simp⟩
theorem Zia (A:Around) (s:Shared) (a:Int) (t:Tok) (c:Int) (u:Tok) (prog:Program) (w:World) (E:yw) (Q:yw) (h:Q (.bool (decide (a < c))) s) :
  wpAny (model prog w) A (richCompare .Lt (.int a t) (.int c u)) Q E s :=
 (PyProof.Rows.lt_int h:wpAny (model prog w) A (compareOp .Lt (.int a t) (.int c u)) Q E s)
section
open PySem.SeqAt
open PySem.AutoSeq1 (wpAny_loadPart')
open PySem.MeetsSeq PySem.MeetsSeq2 PySem.MeetsSeq3
theorem Zgn (l b:Addr) (items items2:Array Value) (n n2:Nat) (dd dd2:Option Addr) (sl dJ:Array (Option Value)) (ns ms:yy) (hi:IntsAre items.toList ns) (hj:IntsAre items2.toList ms) :
  Meets (Builtin.«tuple.__lt__» ⟨[.ref l,.ref b],[]⟩)
   (λ_ R s=>s.heap.get? l=some { cls:=.type "tuple",dict:=dd,data:=.seq items n,slots:=sl }/\s.heap.get? b=some { cls:=.type "tuple",dict:=dd2,data:=.seq items2 n2,slots:=dJ } /\
    R (.ok (.ret (.bool (cZ ns ms)))) s) :=
 .of_wp λprog w A R s h=>by
  obtain ⟨hp,g,d,tk,os⟩:=s; obtain ⟨hl,hb,h⟩:=h;have f2:=AutoSeq1.sub_tuple_tuple;have z1:items.size=ns.length:=by rw [<- hi.length]; simp
  have z2:items2.size=ms.length:=by rw [<- hj.length]; simp
  wp_walk using wpAny_loadPart' hl,wpAny_loadPart' hb,wpAny_forIn_list _ (λrest b s'=>b.1=none/\s'=⟨hp,g,d,tk,os⟩/\∃ (vs ws:yz) (ns' ms':yy),rest=vs.zip ws /\
   IntsAre vs ns'/\IntsAre ws ms'/\ns'.length+items2.size=ms'.length+items.size/\R (.ok (.ret (.bool (cZ ns' ms')))) ⟨hp,g,d,tk,os⟩) _
  case turn =>
   rintro ⟨y,x⟩ rest b s' ⟨hb',rfl,vs,ws,ns',ms',hz,hvi,hwi,hlen,hR⟩;cases hvi with
   | nil=>rw [List.zip_nil_left] at hz; cases hz
   | cons a t hvi' =>
    cases hwi with
    | nil=>rw [List.zip_nil_right] at hz; cases hz
    | cons c u hwi' =>
     rw [wN] at hz;injection hz with hyx hrest;injection hyx with hy hx;subst hy hx;rw [Zdi] at hR;simp only [uZ] at hlen;obtain ⟨e,he,hiff⟩:=ZnV A.in1 ⟨hp,g,d,tk,os⟩ a t c u;refine wpAny_bind (he prog w _ _ ?_);cases e with
     | true =>
      rw [if_pos (hiff.mp rfl)] at hR
      wp_walk
      exact ⟨rfl,rfl,_,_,_,_,hrest,hvi',hwi',by omega,hR⟩
     | false =>
      rw [if_neg (λq=>absurd (hiff.mpr q) u3)] at hR;have hri:=Zia A.in1 ⟨hp,g,d,tk,os⟩ a t c u prog w
      wp_walk using hri
      exact ⟨_,rfl,by simpa using hR⟩
  case fin =>
   rintro ⟨b1,b2⟩ s' ⟨hb',rfl,vs,ws,ns',ms',hz,hvi,hwi,hlen,hR⟩;simp only at hb';subst hb';have hv:cZ ns' ms'=decide (items.size < items2.size):=by
    cases hvi with
    | nil =>
     cases hwi with
     | nil =>
      simp only [wn] at hlen;rw [Zdh];exact (decide_eq_false (by omega)).symm
     | cons c u hw =>
      simp only [wn,uZ] at hlen;rw [Zj5];exact (decide_eq_true (by omega)).symm
    | cons a t hv =>
     cases hwi with
     | nil =>
      simp only [wn,uZ] at hlen;rw [Zj6];exact (decide_eq_false (by omega)).symm
     | cons c u hw =>
      rw [wN] at hz;cases hz
   rw [hv] at hR
   wp_walk
   exact ⟨_,rfl,by simpa [Builtin.Tuple.tupleCompareSizes] using hR⟩
  case h =>
   exact ⟨rfl,rfl,items.toList,items2.toList,ns,ms,rfl,hi,hj,by omega,h⟩
end
section
variable {prog:Program} {w:World} {A:Around} {E:yw} {s:Shared}
theorem ZjY {l b:Addr} {items items2:Array Value} {ns ms:yy} {Q:yw} (hl:IsTup s.heap l items) (hb:IsTup s.heap b items2) (hi:IntsAre items.toList ns) (hj:IntsAre items2.toList ms)
  (hu:A.units < cLine) (h:Q (.bool (cZ ns ms)) s):wpAny (model prog w) A (compareOp .Lt (.ref l) (.ref b)) Q E s:=by
 obtain ⟨⟨cls,dd,data,sl⟩,ho,hc,n,hd⟩:=id hl;obtain ⟨⟨cls2,dd2,data2,dJ⟩,ho2,hc2,n2,hd2⟩:=id hb;simp only at hc hd hc2 hd2;subst hc hd hc2 hd2;exact richCompare_meets_room (op:=.Lt) ⟨_,ho,rfl⟩ ⟨_,ho2,rfl⟩ PySem.F.slot_tuple_lt PySem.F.entry_tuple_lt (PySem.F.args_tuple_lt_2 _ _) (Zgn l b items items2 n n2 dd dd2 sl dJ ns ms hi hj)
  ⟨ho,ho2,show Value.bool (cZ ns ms)≠Value.notImplemented/\Q (.bool (cZ ns ms)) s from ⟨(λx=>nomatch x),h⟩⟩ hu
theorem Zo8 {t b:Addr} {vs ws:yz} {Q:yw} (ht:IsTup s.heap t vs.toArray) (hb:IsTup s.heap b ws.toArray) (hv:vs≠[])
  (h1:ws=[]->Q (.ref t) s) (h2:ws≠[]->Q (.ref s.heap.objs.size) { s with heap:=s.heap.push { cls:=.type "tuple",data:=.seq (vs++ws).toArray } })
  (hsz:vs.length+ws.length<=sizeLine):wpAny (model prog w) A (binaryOp .Add (.ref t) (.ref b)) Q E s:=by
 obtain ⟨⟨cls,dd,data,sl⟩,ho,hc,n,hd⟩:=id ht;obtain ⟨⟨cls2,dd2,data2,dJ⟩,ho2,hc2,n2,hd2⟩:=id hb;simp only at hc hd hc2 hd2;subst hc hd hc2 hd2;have e:vs.toArray++ws.toArray=(vs++ws).toArray:=by simp
 by_cases hw:ws=[]
 ·exact concat_meets ⟨_,ho,rfl⟩ ⟨_,ho2,rfl⟩ noFill_tuple_add seq_tuple_add PySem.F.slot_tuple_add yj (yf _ _)
   (tuple_addW1 t b vs.toArray ws.toArray n n2 dd dd2 sl dJ (by simpa using hv) (by simp [hw])) ⟨ho,ho2,h1 hw⟩
 ·refine concat_meets ⟨_,ho,rfl⟩ ⟨_,ho2,rfl⟩ noFill_tuple_add seq_tuple_add PySem.F.slot_tuple_add yj (yf _ _)
   (tuple_addW2 t b vs.toArray ws.toArray n n2 dd dd2 sl dJ (by simpa using hv) (by simpa using hw) (by rw [uW,uW]; exact hsz)) ⟨ho,ho2,?_⟩
  rw [e];exact h2 hw
noncomputable def aM (n d:Nat):Option Int->Nat
 | none=>d
 | some v=>if v < 0 then (v+(n:Int)).toNat else min v.toNat n
theorem ZhG (n d:Nat):aM n d none=d:=rfl
theorem ZbH (n d k:Nat):aM n d (some (k:Int))=min k n:=by
 show (if (k:Int) < 0 then ((k:Int)+(n:Int)).toNat else min (k:Int).toNat n)=min k n
 rw [if_neg (by omega),vH]
theorem ZhH (n d:Nat) (hd:d<=n) (o:Option Int):aM n d o<=n:=by
 cases o with
 | none=>exact hd
 | some v =>
  show (if v < 0 then (v+(n:Int)).toNat else min v.toNat n)<=n
  by_cases hv:v < 0
  ·rw [if_pos hv]; omega
  ·rw [if_neg hv]; exact xS _ _
theorem ZeO (v:Int) (n d:Nat):(if v < 0 then max (v+(n:Int)) 0 else min v (n:Int))=((aM n d (some v):Nat):Int):=by
 show (if v < 0 then max (v+(n:Int)) 0 else min v (n:Int))=(((if v < 0 then (v+(n:Int)).toNat else min v.toNat n):Nat):Int)
 by_cases hv:v < 0
 ·rw [if_pos hv,if_pos hv,Int.ofNat_toNat]
 ·rw [if_neg hv,if_neg hv];obtain ⟨k,rfl⟩:=xr (Int.not_lt.mp hv);rw [vH,<- yh]
theorem Zqj (lo hi:Option Int) (n:Nat):Builtin.Slice.sliceAdjust lo hi 1 (n:Int)=(((aM n 0 lo:Nat):Int),((aM n n hi:Nat):Int)):=by
 have h1:¬ ((1:Int) < 0):=by omega
 unfold Builtin.Slice.sliceAdjust;simp only [h1,if_false];refine Prod.ext ?_ ?_
 ·cases lo with
  | none=>rfl
  | some v=>exact ZeO v n 0
 ·cases hi with
  | none=>rfl
  | some v=>exact ZeO v n n
theorem Ziy (i j:Nat):Builtin.Slice.slicePlaces (i:Int) (j:Int) 1=j - i:=by
 unfold Builtin.Slice.slicePlaces;have h1:(1:Int) > 0:=by omega
 simp only [h1,if_true,Int.ediv_one]
 split <;> omega
theorem ZaZ {v:Value} {o:Option Int} {Q:Option Int->Shared->Prop} (p:IsPart v o) (h:Q o s):wpAny (model prog w) A (Builtin.Slice.slicePartIndex v) Q E s:=by
 cases p with
 | none=>exact slicePart_none h
 | int i t=>exact slicePart_int h
theorem Za1 {sl:Addr} {vl vu:Value} {lo hi:Option Int} {n:Nat} {Q:Int×Int×Nat->Shared->Prop} (hs:s.heap.IsSliceOf sl vl vu .none) (pl:IsPart vl lo) (pu:IsPart vu hi)
  (h:Q (((aM n 0 lo:Nat):Int),1,aM n n hi - aM n 0 lo) s):wpAny (model prog w) A (Builtin.Slice.sliceApplied (.ref sl) (pure (n:Int))) Q E s:=by
 obtain ⟨os,hos,hcs,hds⟩:=id hs;unfold Builtin.Slice.sliceApplied Builtin.Slice.sliceFields;refine wpAny_bind (wpAny_bind (wpAny_field hos hds (x:=vl) rfl (wpAny_bind (wpAny_field hos hds (x:=vu) rfl (wpAny_bind (wpAny_field hos hds (x:=.none) rfl (wpAny_pure ?_)))))));refine wpAny_bind (slicePart_none ?_);show wpAny _ _ (if ((1:Int) == 0)=true then _ else _) _ _ s
 rw [if_neg (by decide)]
 refine wpAny_bind (ZaZ pl (wpAny_bind (ZaZ pu (wpAny_bind (wpAny_pure ?_)))));show wpAny _ _ (match Builtin.Slice.sliceAdjust lo hi 1 (n:Int) with | (lo,hi)=>pure (lo,(1:Int),Builtin.Slice.slicePlaces lo hi 1)) _ _ s
 rw [Zqj lo hi n];show wpAny _ _ (pure (((aM n 0 lo:Nat):Int),(1:Int),Builtin.Slice.slicePlaces ((aM n 0 lo:Nat):Int) ((aM n n hi:Nat):Int) 1)) _ _ s;rw [Ziy];exact wpAny_pure h
theorem Ziz (xs:Array Value) (i k:Nat):((List.range k).filterMap λ(m:Nat)=>xs[((i:Int)+(m:Int) * 1).toNat]?).toArray=((xs.toList.drop i).take k).toArray:=by
 have e:(λ(m:Nat)=>xs[((i:Int)+(m:Int) * 1).toNat]?)=λm=>xs[i+m]?:=by
  funext m;have:((i:Int)+(m:Int) * 1).toNat=i+m:=by omega
  rw [this]
 rw [e];have:=pick_run xs i k;rw [List.filterMap_map] at this;have e2:((λx=>xs[x]?) ∘ λx=>i+x)=λm=>xs[i+m]?:=rfl;rw [e2] at this;rw [this]
theorem ZkU {t sl:Addr} {items:Array Value} {vl vu:Value} {lo hi:Option Int} {Q:yw} (ht:IsTup s.heap t items) (hs:s.heap.IsSliceOf sl vl vu .none) (pl:IsPart vl lo) (pu:IsPart vu hi)
  (hw:¬ (aM items.size 0 lo=0/\aM items.size items.size hi=items.size))
  (h:Q (.ref s.heap.objs.size) { s with heap:=s.heap.push { cls:=.type "tuple",data:=.seq ((items.toList.drop (aM items.size 0 lo)).take (aM items.size items.size hi - aM items.size 0 lo)).toArray } })
  (hsz:items.size<=sizeLine):wpAny (model prog w) A (getItem (.ref t) (.ref sl)) Q E s:=by
 have htake:sizeOk (.seq ((items.toList.drop (aM items.size 0 lo)).take (aM items.size items.size hi - aM items.size 0 lo)).toArray):=by
  show ((items.toList.drop (aM items.size 0 lo)).take (aM items.size items.size hi - aM items.size 0 lo)).toArray.size<=sizeLine;rw [uW,v9,wG,xL];exact u8 (xS _ _) (u8 (Nat.sub_le _ _) hsz)
 have hj:aM items.size items.size hi<=items.size:=ZhH _ _ (uQ _) hi;obtain ⟨os,hos,hcs,hds⟩:=id hs;have hTs:s.TypeIs (.ref sl) "slice":=⟨os,hos,hcs⟩;unfold getItem
 try with_reducible refine wpAny_holding ?_
 first | refine wpAny_bind (wpAny_pure ?_) | skip
 refine wpAny_bind (wpAny_sequenceKey ht.typeIs (by decide) ?_)
 refine wpAny_bind (wpAny_callSpecial?_slot (name:=Str.ofString "__getitem__") ht.typeIs wm
  (wpAny_call_entry wm ht.typeIs entry_tuple_getitem ?_ (args_tuple_getitem _ _)))
 show wpAny _ _ (Builtin.Tuple.tupleItemsOf (.ref t) >>= _) _ _ s;refine wpAny_bind (tupleItemsOf_ ht ?_);refine wpAny_bind (wpAny_typeOf hTs ?_);rw [if_pos (by decide)]
 refine wpAny_bind (Za1 hs pl pu ?_);have hno:¬ ((((aM items.size 0 lo:Nat):Int) == 0 && (1:Int) == 1 && (aM items.size items.size hi - aM items.size 0 lo) == items.size)=true):=by
  intro q;rw [vm,vm] at q;have q1:((aM items.size 0 lo:Nat):Int)=0:=eq_of_beq q.1.1;have q2:aM items.size items.size hi - aM items.size 0 lo=items.size:=eq_of_beq q.2;exact hw ⟨by omega,by omega⟩
 show wpAny _ _ (if (((aM items.size 0 lo:Nat):Int) == 0 && (1:Int) == 1 && (aM items.size items.size hi - aM items.size 0 lo) == items.size)=true then _ else _) _ _ s
 rw [if_neg hno,Ziz]
 first
  | exact wpAny_bind (m:=Builtin.Tuple.tupleExact _) (wpAny_newObj_type (wpAny_pure ⟨_,rfl,wpAny_pure h⟩) htake)
  | exact wpAny_bind (m:=Builtin.Tuple.tupleExact _) (wpAny_newObj_type (wpAny_bind (wpAny_pure (wpAny_pure ⟨_,rfl,wpAny_pure h⟩))) htake)
  | exact wpAny_bind (wpAny_bind (m:=Builtin.Tuple.tupleExact _) (wpAny_newObj_type (wpAny_pure (wpAny_pure ⟨_,rfl,wpAny_pure h⟩)) htake))
  | exact wpAny_bind (wpAny_bind (m:=Builtin.Tuple.tupleExact _) (wpAny_newObj_type (wpAny_pure ⟨_,rfl,wpAny_pure h⟩) htake))
end
end HT
namespace L2
abbrev TO:=St->Hp->(Option Int->Hp->Prop)->Prop
noncomputable def PO (X:Cx) (e:Option Expr) (t:TO):Prop :=
 ∀ (pins:yF) (s:Shared) (σ:St) (H:Hp) (Q:Option Int->Hp->Prop),Inv X pins σ H s->t σ H Q ->
  wpAny (model X.prog X.w) X.A (evalPart e X.env) (λu s'=>∃ o H',Inv X pins σ H' s'/\IsPart u o/\Q o H') X.xe s
noncomputable def ZgH:TO:=λ_ H Q=>Q none H
noncomputable def ZgD (t:TE):TO:=λσ H Q=>t σ H λx H1=>∃ i,x=.int i/\Q (some i) H1
theorem ZdH {ns:yy}:∀ {us:yz},Vals (ns.map V.int) us->IntsAre us ns:=by
 induction ns with
 | nil=>intro us r; rw [wK] at r; cases r; exact .nil
 | cons n ns ih =>
  intro us r;rw [uX] at r;cases r with
  | cons r1 r2 =>
   obtain ⟨t,e⟩:=r1;subst e;exact .cons n t (ih r2)
section
variable {X:Cx} {e:Expr} {te:TE} {lo hi:Option Expr} {tl th:TO} {pos p2:Pos}
theorem Zcx:PO X none ZgH:=by
 intro pins s σ H Q I h;rw [evalPart_none];exact wpAny_pure ⟨none,H,I,.none,h⟩
theorem Zcw (h:PE X e te):PO X (some e) (ZgD te):=by
 intro pins s σ H Q I hw;rw [evalPart_some];refine thn (h pins s σ H _ I hw) λu s1 hz0=>?_;obtain ⟨x,H1,I1,r1,q1⟩:=hz0;obtain ⟨i,rfl,q⟩:=q1;obtain ⟨t,rfl⟩:=r1;exact ⟨some i,H1,I1,.int i t,q⟩
noncomputable def SlR (X:Cx) (r:V->Option Int->Option Int->Hp->VK->Prop):Prop :=
 ∀ (pins:yF) (s:Shared) (σ:St) (H:Hp) (x:V) (v vl vu:Value) (lo hi:Option Int) (sl:Addr) (Q:VK),Inv X pins σ H s->RelV x v->s.heap.IsSliceOf sl vl vu .none->IsPart vl lo->IsPart vu hi->r x lo hi H Q ->
  ∃ T id,typeLookup (.type T) "__getitem__"=pure (some (.builtin id))/\s.TypeIs v T/\wpAny (model X.prog X.w) X.A (getItem v (.ref sl)) (EP X pins σ Q) X.xe s
theorem SlR.or {r r':V->Option Int->Option Int->Hp->VK->Prop} (h:SlR X r) (h':SlR X r'):SlR X (λx lo hi H Q=>r x lo hi H Q\/r' x lo hi H Q):=by
 intro pins s σ H x v vl vu lo hi sl Q I rx hs pl pu q;rcases q with q | q
 ·exact h pins s σ H x v vl vu lo hi sl Q I rx hs pl pu q
 ·exact h' pins s σ H x v vl vu lo hi sl Q I rx hs pl pu q
def tSl (r:V->Option Int->Option Int->Hp->VK->Prop) (te:TE) (tl th:TO):TE:=λσ H Q=>te σ H λx H1=>tl σ H1 λl H2=>th σ H2 λu H3=>r x l u H3 Q
theorem ZcD {r:V->Option Int->Option Int->Hp->VK->Prop} (hr:SlR X r) (he:PE X e te) (hl:PO X lo tl) (hu:PO X hi th):PE X (.Subscript e (.Slice lo hi none p2) pos) (tSl r te tl th):=by
 intro pins s σ H Q I h;refine Subscript_ (thn (he pins s σ H _ I h) λv s1 hz0=>?_);obtain ⟨x,H1,I1,r1,q1⟩:=hz0;refine wpAny_Slice (thn (hl pins s1 σ H1 _ I1 q1) λvl s2 ⟨l,H2,I2,pl,q2⟩=>thn (hu pins s2 σ H2 _ I2 q2) λvu s3 hz0=>?_);obtain ⟨u,H3,I3,pu,q3⟩:=hz0;rw [evalPart_none];refine wpAny_pure ?_;have I4:Inv X pins σ H3 { s3 with heap:=s3.heap.push { cls:=.type "slice",data:=.fields #[vl,vu,.none] } }:=I3.kept (t':=s3.toks) λb ob q=>uN _ q;obtain ⟨T,id,hT,ht,hg⟩:=hr pins { s3 with heap:=s3.heap.push { cls:=.type "slice",data:=.fields #[vl,vu,.none] } } σ H3 x v vl vu l u s3.heap.objs.size Q I4 r1 (Heap.IsSliceOf.new ..) pl pu q3;show wpAny (model X.prog X.w) X.A (subscriptTail e (.Slice lo hi none p2) v (.ref s3.heap.objs.size)) (EP X pins σ Q) X.xe { s3 with heap:=s3.heap.push { cls:=.type "slice",data:=.fields #[vl,vu,.none] } };exact tail_any (ops:=[.ref s3.heap.objs.size,v]) ht hT hg (by with_unfolding_all rfl)
noncomputable def fg (xs:yB) (lo hi:Option Int):yB:=(xs.drop (HT.aM xs.length 0 lo)).take (HT.aM xs.length xs.length hi - HT.aM xs.length 0 lo)
theorem ZeJ (xs:yB) (lo hi:Option Int):(fg xs lo hi).length<=xs.length:=by
 unfold fg;rw [v9,wG];exact u8 (xS _ _) (Nat.sub_le _ _)
noncomputable def Zb0 (K:ym):V->Option Int->Option Int->Hp->VK->Prop:=λx lo hi H Q=>∃ a xs,x=.ref a/\SqT K H a xs /\
 ¬ (HT.aM xs.length 0 lo=0/\HT.aM xs.length xs.length hi=xs.length)/\∀ p,H p=none->Q (.ref p) (upd H p (.tup (fg xs lo hi)))
theorem Zhe:SlR X (Zb0 X.K):=by
 intro pins s σ H x v vl vu lo hi sl Q I rx hs pl pu h;obtain ⟨a,xs,rfl,hx,hw,q⟩:=h;cases rx;obtain ⟨its,r,ht,hz⟩:=I.tuple hx;have hlen:its.toArray.size=xs.length:=by rw [uW]; exact r.length.symm
 refine ⟨"tuple",_,PyProof.Rows.slot_tuple_getitem.lookup,ht.typeIs,?_⟩;refine HT.ZkU ht hs pl pu (by rw [hlen]; exact hw) ?_ (by rw [hlen]; exact hz)
 rw [hlen];refine ⟨.ref s.heap.objs.size,_,I.laid (t':=s.toks) (o:=.tup (fg xs lo hi)) (λb ob q=>uN _ q) (uQ _) ?_,rfl,q _ (I.hok.fresh (uQ _))⟩;exact ⟨u8 (ZeJ xs lo hi) hz,_,(r.drop (HT.aM xs.length 0 lo)).take (HT.aM xs.length xs.length hi - HT.aM xs.length 0 lo),IsTup.new _ _⟩
noncomputable def Zch (K:ym):R2:=λx y H Q=>∃ a b xs ys,x=.ref a/\y=.ref b/\SqT K H a xs/\SqT K H b ys/\xs≠[]/\xs.length+ys.length<=sizeLine /\
 (ys=[]->Q (.ref a) H)/\(ys≠[]->∀ p,H p=none->Q (.ref p) (upd H p (.tup (xs++ys))))
theorem Vals.nil_iff {xs:yB} {us:yz} (r:Vals xs us):us=[] ↔ xs=[]:=by
 cases r with
 | nil=>simp
 | cons _ _=>simp
theorem Zjf:OpR X (binaryOp .Add) (Zch X.K):=by
 intro pins s σ H x y v u Q I rx ry h;obtain ⟨a,b,xs,ys,rfl,rfl,ha,hb,hx,hz,q1,q2⟩:=h;cases rx;cases ry;obtain ⟨its,r1,p1,_⟩:=I.tuple ha;obtain ⟨its2,r2,p2,_⟩:=I.tuple hb;refine HT.Zo8 p1 p2 (λz=>hx (r1.nil_iff.mp z)) (λz=>⟨.ref a,H,I,rfl,q1 (r2.nil_iff.mp z)⟩) (λz=>?_) (by rw [<- r1.length,<- r2.length]; exact hz)
 refine ⟨.ref s.heap.objs.size,_,I.laid (t':=s.toks) (o:=.tup (xs++ys)) (λb ob q=>uN _ q) (uQ _) ?_,rfl,q2 (λw=>z (r2.nil_iff.mpr w)) _ (I.hok.fresh (uQ _))⟩;exact ⟨by rw [vF]; exact hz,_,r1.append r2,IsTup.new _ _⟩
end
noncomputable def cT (n:Nat) (i:Int):Option Nat:=if 0<=i then (if i < n then some i.toNat else none) else if -(n:Int)<=i then some (i+n).toNat else none
noncomputable def bp {α:Type} (xs:List α) (i:Int):Option α:=(cT xs.length i).bind λj=>xs[j]?
theorem Zdz {n:Nat} {i:Int} {j:Nat} (h:cT n i=some j):seqIndex? i n=some j/\j < n/\-(n:Int)<=i/\i < n:=by
 unfold cT at h;by_cases h0:0<=i
 ·rw [if_pos h0] at h;by_cases h1:i < n
  ·rw [if_pos h1] at h;have e:i.toNat=j:=vc h;exact ⟨by rw [seqIndex_of h0 h1,e],by omega,by omega,h1⟩
  ·rw [if_neg h1] at h; cases h
 ·rw [if_neg h0] at h;by_cases h1:-(n:Int)<=i
  ·rw [if_pos h1] at h;have e:(i+n).toNat=j:=vc h;exact ⟨by rw [seqIndex_neg (by omega) h1,e],by omega,h1,by omega⟩
  ·rw [if_neg h1] at h; cases h
theorem pf {α:Type} {xs:List α} {i:Int} {v:α} (h:bp xs i=some v):∃ j,seqIndex? i xs.length=some j/\xs[j]?=some v/\j < xs.length/\-(xs.length:Int)<=i/\i < xs.length:=by
 unfold bp at h;cases e:cT xs.length i with
 | none=>rw [e] at h; cases h
 | some j =>
  rw [e] at h;obtain ⟨h1,h2,h3,h4⟩:=Zdz e;exact ⟨j,h1,h,h2,h3,h4⟩
theorem gY {α:Type} {xs:List α} {j:Nat} {v:α} (h:xs[j]?=some v):bp xs (j:Int)=some v:=by
 have hj:j < xs.length:=(uR.mp h).1;have e:cT xs.length (j:Int)=some j:=by
  unfold cT;rw [if_pos (by omega),if_pos (by omega)]; simp
 unfold bp; rw [e]; exact h
def pS (b:Expr):Prop:=∀ o i,subscripted b false o i=operate [o,i] (getItem o i)
noncomputable def IxR (X:Cx) (r:R2):Prop :=
 ∀ (value slice:Expr) (pins:yF) (s:Shared) (σ:St) (H:Hp) (x y:V) (v u:Value) (Q:VK),Inv X pins σ H s->RelV x v->RelV y u->r x y H Q ->
  subscripted slice false v u=operate [v,u] (getItem v u)->wpAny (model X.prog X.w) X.A (subscriptTail value slice v u) (EP X pins σ Q) X.xe s
noncomputable def MtR (X:Cx) (id:String) (r:V->List V->Hp->VK->Prop):Prop :=
 ∀ (pins:yF) (s:Shared) (σ:St) (H:Hp) (x:V) (xs:yB) (v:Value) (us:yz) (Q:VK),Inv X pins σ H s->RelV x v->Vals xs us->r x xs H Q ->
  wpAny (model X.prog X.w) X.A (call (.builtin id) (v::us)) (EP X pins σ Q) X.xe s
section
variable {X:Cx} {a b:Expr} {ta tb:TE} {pos:Pos}
theorem IxR.or {r r':R2} (h:IxR X r) (h':IxR X r'):IxR X (λx y H Q=>r x y H Q\/r' x y H Q):=by
 intro value slice pins s σ H x y v u Q I rx ry q hs;rcases q with q | q
 ·exact h value slice pins s σ H x y v u Q I rx ry q hs
 ·exact h' value slice pins s σ H x y v u Q I rx ry q hs
theorem lE {r:R2} (hr:IxR X r) (ha:PE X a ta) (hb:PE X b tb) (hs:pS b):PE X (.Subscript a b pos) (iS r ta tb):=by
 intro pins s σ H Q I h;exact Subscript_ (t5 ha hb I h λv u s2 x y H2 I2 rx ry q=>hr a b pins s2 σ H2 x y v u Q I2 rx ry q (hs _ _))
noncomputable def rm (K:ym):R2:=λx y H Q=>∃ p xs i v,x=.ref p/\y=.int i/\SqL K H p xs/\bp xs i=some v/\Q v H
noncomputable def Zcb (K:ym):R2:=λx y H Q=>∃ p xs i v,x=.ref p/\y=.int i/\SqT K H p xs/\bp xs i=some v/\Q v H
noncomputable def Zcc:R2:=λx y H Q=>∃ z i c,x=.str z/\y=.int i/\z.length<=sizeLine/\bp z.cps.toList i=some c/\Q (.str ⟨#[c]⟩) H
theorem oK:IxR X (rm X.K):=by
 intro value slice pins s σ H x y v u Q I rx ry h hs;obtain ⟨p,xs,i,z,rfl,rfl,hq,he,q⟩:=h;cases rx;obtain ⟨t,rfl⟩:=ry;obtain ⟨its,r,pl,hz⟩:=I.list hq;obtain ⟨j,h1,h2,h3,h4,h5⟩:=pf he;obtain ⟨w,ew,rw'⟩:=r.get h2;have hl:=r.length;have hn:=iB;have fin:EP X pins σ Q w s:=⟨z,H,I,rw',q⟩;by_cases h0:0<=i
 ·have hj:i.toNat=j:=by
   rw [seqIndex_of h0 h5] at h1;exact vc h1
  exact item_listR pl.isList h0 (by omega) (by rw [hj]; simpa using ew) fin hs
 ·have hj:(i+(its.toArray.size:Int)).toNat=j:=by
   rw [seqIndex_neg (by omega) h4] at h1
   rw [uW,<- hl];exact vc h1
  exact subscriptTail_builtinR (x:=w) pl.isList.typeIs slot_list_getitem.lookup
   (wpAny_getItem_list_neg (Q:=λr s'=>r=w/\EP X pins σ Q r s') pl.isList (by omega) (by rw [uW] <;> omega) (by omega) (by rw [hj]; simpa using ew) ⟨rfl,fin⟩) hs
theorem Zdy:IxR X (Zcb X.K):=by
 intro value slice pins s σ H x y v u Q I rx ry h hs;obtain ⟨p,xs,i,z,rfl,rfl,hq,he,q⟩:=h;cases rx;obtain ⟨t,rfl⟩:=ry;obtain ⟨its,r,pl,hz⟩:=I.tuple hq;obtain ⟨j,h1,h2,h3,h4,h5⟩:=pf he;obtain ⟨w,ew,rw'⟩:=r.get h2;have hl:=r.length;have hn:=iB;have fin:EP X pins σ Q w s:=⟨z,H,I,rw',q⟩;exact subscriptTail_builtinR (x:=w) pl.typeIs slot_tuple_getitem.lookup
  (getItem_tuple (j:=j) (Q:=λr s'=>r=w/\EP X pins σ Q r s') pl (by omega) (by omega) (by rw [uW,<- hl]; exact h1) (by simpa using ew) ⟨rfl,fin⟩) hs
theorem ZkE:IxR X Zcc:=by
 intro value slice pins s σ H x y v u Q I rx ry h hs;obtain ⟨z,i,c,rfl,rfl,hz,he,q⟩:=h;obtain ⟨t,rfl⟩:=rx;obtain ⟨t',rfl⟩:=ry;obtain ⟨j,h1,h2,h3,h4,h5⟩:=pf he;have hl:z.cps.toList.length=z.length:=by simp [Str.length]
 rw [hl] at h1 h4 h5;have hn:=iB;exact tail_any (typeIs_str s z t) slot_str_getitem.lookup (getItem_str (c:=c) (by
  have e1:decide (i < -(2 ^ 63:Int))=false:=decide_eq_false (by omega)
  have e2:decide (i ≥ 2 ^ 63)=false:=decide_eq_false (by omega)
  rw [e1,e2,Bool.or_false]) (by rw [h1]; simpa using h2) ⟨.str ⟨#[c]⟩,H,I.tok _,⟨_,rfl⟩,q⟩) hs
noncomputable def rIx (K:ym):R2:=λx y H Q=>rm K x y H Q\/Zcb K x y H Q\/Zcc x y H Q
theorem aQ:IxR X (rIx X.K):=oK.or (Zdy.or ZkE)
theorem ZjW (its:yz) (n j:Nat) (u:Value):Obj.mapSeq (·.setIfInBounds j u) { cls:=.type "list",data:=.seq its.toArray n }={ cls:=.type "list",data:=.seq (its.set j u).toArray n }:=by
 simp [Obj.mapSeq]
theorem Inv.lst {pins:yF} {σ:St} {H:Hp} {s:Shared} {p:Addr} {xs:yB} (I:Inv X pins σ H s) (h:H p=some (.lst xs)) :
  ∃ (its:yz) (n:Nat),Vals xs its/\s.heap.get? p=some { cls:=.type "list",data:=.seq its.toArray n }/\xs.length<=sizeLine:=by
 obtain ⟨z,its,n,r,e⟩:=I.hok p _ h;exact ⟨its,n,r,e,z⟩
theorem Inv.lstUpd {pins:yF} {σ:St} {H:Hp} {s:Shared} {p:Addr} {xs ys:yB} {its its':yz} {n n':Nat} {f:Obj->Obj} (I:Inv X pins σ H s) (h:H p=some (.lst xs))
  (ho:s.heap.get? p=some { cls:=.type "list",data:=.seq its.toArray n }) (hf:f { cls:=.type "list",data:=.seq its.toArray n }={ cls:=.type "list",data:=.seq its'.toArray n' }) (r:Vals ys its') (hz:ys.length<=sizeLine) (t:Nat) :
  Inv X pins σ (upd H p (.lst ys)) { s with heap:=s.heap.update p f,toks:=t }:=by
 have e:(s.heap.update p f).get? p=some { cls:=.type "list",data:=.seq its'.toArray n' }:=by
  rw [wo f ho (by rw [hf] <;> rfl),hf]
 refine I.write (x:=p) (e:=p) (by rw [h]; trivial) (.inl rfl) (λb u hb q=>(vN _ _ (Ne.symm hb)).trans q) ⟨_,e⟩ ?_
 exact ⟨hz,its',n',r,e⟩
noncomputable def rh:V->V->V->Hp->(Hp->Prop)->Prop:=λo i v H Q=>∃ p xs k j,o=.ref p/\i=.int k/\H p=some (.lst xs)/\cT xs.length k=some j/\Q (upd H p (.lst (xs.set j v)))
theorem la:uG X rh:=by
 intro pins s σ H o i v ov iv u Q I ro ri rv h;obtain ⟨p,xs,k,j,rfl,rfl,hp,hj,q⟩:=h;cases ro;obtain ⟨t,rfl⟩:=ri;obtain ⟨its,n,r,ho,hz⟩:=I.lst hp;obtain ⟨h1,h2,h3,h4⟩:=Zdz hj;have hl:=r.length;have hn:=iB;have I':Inv X pins σ (upd H p (.lst (xs.set j v))) { s with heap:=s.heap.update p (Obj.mapSeq (·.setIfInBounds j u)) } :=
  I.lstUpd hp ho (ZjW its n j u) (r.set rv j) (by rw [vK]; exact hz) s.toks
 by_cases h0:0<=k
 ·have hk:k.toNat=j:=by
   rw [seqIndex_of h0 h4] at h1;exact vc h1
  exact PySem.W.ki_setAt ho h0 (by omega) (by rw [uW,<- hl]; exact h4) (by rw [hk]; exact ⟨_,I',q⟩)
 ·have hk:(k+(its.toArray.size:Int)).toNat=j:=by
   rw [seqIndex_neg (by omega) h3] at h1
   rw [uW,<- hl];exact vc h1
  exact PySem.W.ki_setBack ho (by omega) (by rw [uW,<- hl]; exact h3) (by omega) (by rw [hk]; exact ⟨_,I',q⟩)
theorem ZeH {n:Nat} {i:Int} (h:i < 0):max 0 (min (i+(n:Int)) n)=(((i+n).toNat:Nat):Int):=by
 rw [Int.min_eq_left (by omega),Int.ofNat_toNat,Int.max_comm]
theorem ZeI {n:Nat} {i:Int} (h:¬ i < 0):max 0 (min i (n:Int))=((min i.toNat n:Nat):Int):=by
 obtain ⟨k,rfl⟩:=xr (Int.not_lt.mp h);rw [vH,<- yh];exact Int.max_eq_right (Int.natCast_nonneg _)
theorem Zhb (lo hi:Option Int) (n:Nat):(sliceBounds lo hi none n).1=((HT.aM n 0 lo:Nat):Int)/\(sliceBounds lo hi none n).2.1=((HT.aM n n hi:Nat):Int)/\(sliceBounds lo hi none n).2.2=1:=by
 refine ⟨?_,?_,rfl⟩
 ·cases lo with
  | none=>simp [sliceBounds,HT.aM]
  | some i =>
   simp only [sliceBounds,HT.aM,Option.getD_none,show (1:Int) > 0 by decide,if_true]
   by_cases h:i < 0
   ·simp only [h,if_true];exact ZeH h
   ·simp only [h,if_false];exact ZeI h
 ·cases hi with
  | none=>simp [sliceBounds,HT.aM]
  | some i =>
   simp only [sliceBounds,HT.aM,Option.getD_none,show (1:Int) > 0 by decide,if_true]
   by_cases h:i < 0
   ·simp only [h,if_true];exact ZeH h
   ·simp only [h,if_false];exact ZeI h
theorem Zhc (its:yz) (lo hi:Option Int):slicePick its.toArray lo hi none=((its.drop (HT.aM its.length 0 lo)).take (HT.aM its.length its.length hi - HT.aM its.length 0 lo)).toArray:=by
 obtain ⟨h1,h2,h3⟩:=Zhb lo hi its.toArray.size;unfold slicePick;rw [h1,h2,h3];simp only [sliceRange_one,pick_run,uW] <;> rfl
noncomputable def Zb1 (K:ym):V->Option Int->Option Int->Hp->VK->Prop:=λx lo hi H Q=>∃ a xs,x=.ref a/\SqL K H a xs/\∀ p,H p=none->Q (.ref p) (upd H p (.lst (fg xs lo hi)))
theorem Za2:SlR X (Zb1 X.K):=by
 intro pins s σ H x v vl vu lo hi sl Q I rx hs pl pu h;obtain ⟨a,xs,rfl,hx,q⟩:=h;cases rx;obtain ⟨its,r,ht,hz⟩:=I.list hx;have hlen:=r.length;refine ⟨"list",_,slot_list_getitem.lookup,ht.isList.typeIs,?_⟩;refine wpAny_getItem_list_slice ht.isList hs pl pu .none (by simp) ?_ (by rw [uW] <;> omega)
 rw [Zhc,<- hlen];refine ⟨.ref s.heap.objs.size,_,I.laid (t':=s.toks) (o:=.lst (fg xs lo hi)) (λb ob q=>uN _ q) (uQ _) ?_,rfl,q _ (I.hok.fresh (uQ _))⟩;exact ⟨u8 (ZeJ xs lo hi) hz,_,0,(r.drop (HT.aM xs.length 0 lo)).take (HT.aM xs.length xs.length hi - HT.aM xs.length 0 lo),uS _ rfl⟩
theorem eM:cW X (.builtin "len") (λxs H Q=>∃ p ys,xs=[.ref p]/\(SqL X.K H p ys\/SqT X.K H p ys)/\Q (.int ys.length) H):=by
 intro pins s σ H xs us Q I r h;obtain ⟨p,ys,rfl,hq,q⟩:=h;obtain ⟨u,rfl,rx⟩:=dS r;cases rx;have hn:=iB;rcases hq with hq | hq
 ·obtain ⟨its,r',pl,hz⟩:=I.list hq;have hlen:=r'.length;exact Calls.call_len_list pl.isList (by simp only [uW] <;> omega) ⟨.int ys.length,H,I.tok _,⟨s.toks+1,by rw [uW,hlen]⟩,q⟩
 ·obtain ⟨its,r',pl,hz⟩:=I.tuple hq;have hlen:=r'.length;exact len_tuple pl (by simp only [uW] <;> omega) ⟨.int ys.length,H,I.tok _,⟨s.toks+1,by rw [uW,hlen]⟩,q⟩
theorem ZeX:cW X (.type "list") (λxs H Q=>∃ p ys,xs=[.ref p]/\(SqL X.K H p ys\/SqT X.K H p ys)/\∀ l,H l=none->Q (.ref l) (upd H l (.lst ys))):=by
 intro pins s σ H xs us Q I r h;obtain ⟨p,ys,rfl,hq,q⟩:=h;obtain ⟨u,rfl,rx⟩:=dS r;cases rx;have fin:∀ (its:yz),Vals ys its->ys.length<=sizeLine->∀ (h':Heap) (c':Nat),(∀ b o',s.heap.get? b=some o'->h'.get? b=some o') ->
   h'.get? s.heap.objs.size=some { cls:=.type "list",dict:=none,data:=.seq its.toArray c',slots:=#[] }->EP X pins σ Q (.ref s.heap.objs.size) { s with heap:=h' }:=λits r' hz h' c' kp e =>
  ⟨.ref s.heap.objs.size,_,I.laid (t':=s.toks) kp (uQ _) (show ObjOk X.prog X.w _ h' _ (.lst ys) from ⟨hz,its,c',r',e⟩),rfl,q _ (I.hok.fresh (uQ _))⟩
 rcases hq with hq | hq
 ·obtain ⟨its,r',pl,hz⟩:=I.list hq;have hlen:=r'.length;obtain ⟨o,ho,hc,n,hd⟩:=pl.isList;exact call_list_seq p (.inl rfl) ho hc hd (λh' c' kp e=>fin its r' hz h' c' kp e) (by simp only [uW] <;> omega)
 ·obtain ⟨its,r',pl,hz⟩:=I.tuple hq;have hlen:=r'.length;obtain ⟨o,ho,hc,n,hd⟩:=pl;exact call_list_seq p (.inr rfl) ho hc hd (λh' c' kp e=>fin its r' hz h' c' kp e) (by simp only [uW] <;> omega)
theorem mj:cW X (.type "tuple") (λxs H Q=>∃ p ys,xs=[.ref p]/\((SqL X.K H p ys/\∀ l,H l=none->Q (.ref l) (upd H l (.tup ys)))\/(SqT X.K H p ys/\Q (.ref p) H))):=by
 intro pins s σ H xs us Q I r h;obtain ⟨p,ys,rfl,h⟩:=h;obtain ⟨u,rfl,rx⟩:=dS r;cases rx;rcases h with ⟨hq,q⟩ | ⟨hq,q⟩
 ·obtain ⟨its,r',pl,hz⟩:=I.list hq;have hlen:=r'.length;refine call_tuple_list pl.isList (λh' kp=>?_) (by simp only [uW] <;> omega)
  have I1:Inv X pins σ H { s with heap:=h' }:=I.kept (t':=s.toks) kp;have I2:Inv X pins σ (upd H h'.objs.size (.tup ys)) { s with heap:=h'.push { cls:=.type "tuple",data:=.seq its.toArray } } :=
   I1.laid (t':=s.toks) (λb o e=>uN _ e) (uQ _) (show ObjOk X.prog X.w _ _ _ (.tup ys) from ⟨hz,its,r',IsTup.new _ _⟩)
  exact ⟨.ref h'.objs.size,_,I2,rfl,q _ (I1.hok.fresh (uQ _))⟩
 ·obtain ⟨its,r',pl,hz⟩:=I.tuple hq;exact call_tuple_same pl ⟨.ref p,H,I,rfl,q⟩
def qh (K:ym) (T:String) (x:V) (H:Hp):Prop:=match x with
 | .str _=>T="str"
 | .int _=>T="int"
 | .ref p=>(T="list"/\∃ xs,SqL K H p xs)\/(T="tuple"/\∃ o,K.lookup p=some o/\o.cls=.type "tuple"/\o.dict=none) \/
   (T="dict"/\((∃ kvs,H p=some (.dK kvs))\/∃ kvs,H p=some (.dT kvs)))\/(T="set"/\∃ S n,H p=some (.set S n))
 | _=>False
theorem Zar {pins:yF} {σ:St} {H:Hp} {s:Shared} {T:String} {x:V} {v:Value} (I:Inv X pins σ H s) (r:RelV x v) (ty:qh X.K T x H) :
  s.TypeIs v T/\∀ a,v=.ref a->∃ ob,s.heap.get? a=some ob/\ob.dict=none:=by
 cases x with
 | str z =>
  obtain ⟨t,rfl⟩:=r;cases (show T="str" from ty)
  exact ⟨typeIs_str s z t,λ_ e=>nomatch e⟩
 | int i =>
  obtain ⟨t,rfl⟩:=r;cases (show T="int" from ty)
  exact ⟨typeIs_int s i t,λ_ e=>nomatch e⟩
 | ref p =>
  cases r;rcases ty with ⟨rfl,xs,hq⟩ | ⟨rfl,o,hk,hc,hd⟩ | ⟨rfl,hk⟩ | ⟨rfl,S,n,hk⟩
  ·obtain ⟨its,_,pl,_⟩:=I.list hq;refine ⟨pl.isList.typeIs,λa e=>?_⟩;cases e;obtain ⟨o,n,e,c,hd,_⟩:=pl;exact ⟨o,e,hd⟩
  ·refine ⟨⟨o,I.kIn p o hk,hc⟩,λa e=>?_⟩;cases e;exact ⟨o,I.kIn _ o hk,hd⟩
  ·have z:∃ o,s.heap.get? p=some o/\o.ExactDict:=by
    rcases hk with ⟨kvs,hk⟩ | ⟨kvs,hk⟩
    ·obtain ⟨_,_,_,_,o,_,_,e,ex,_⟩:=I.hok p _ hk;exact ⟨o,e,ex⟩
    ·obtain ⟨_,_,_,_,o,_,_,e,ex,_⟩:=I.hok p _ hk;exact ⟨o,e,ex⟩
   obtain ⟨o,e,ex⟩:=z;refine ⟨⟨o,e,ex.1⟩,λa e2=>?_⟩;cases e2;exact ⟨o,e,ex.2.1⟩
  ·obtain ⟨o,_,_,_,e,ex,_⟩:=I.hok p _ hk;refine ⟨⟨o,e,ex.1⟩,λa e2=>?_⟩;cases e2;exact ⟨o,e,ex.2.1⟩
 | _=>exact False.elim ty
def ZaE (K:ym) (T:String) (r:V->List V->Hp->VK->Prop) (to:TE):TE:=λσ H Q=>to σ H λx H1=>qh K T x H1/\r x [] H1 Q
def tBM (K:ym) (T:String) (r:V->List V->Hp->VK->Prop) (to:TE) (t:TA):TE:=λσ H Q=>to σ H λx H1=>qh K T x H1/\t σ H1 λxs H2=>r x xs H2 Q
variable {o e:Expr} {es:List Expr} {to:TE} {t:TA} {name:Str} {apos cpos:Pos} {T id:String} {r:V->List V->Hp->VK->Prop}
theorem ZiW (pa:PlainAttrs T) (slot:Slot T name id) (hty:typeOf (.builtin id)=pure (.type "method_descriptor")) (hm:MtR X id r) (ho:PE X o to)
  (hbase:attributeBase o name X.env (eval o X.env)=eval o X.env:=by rfl) (hline:(apos.endLine == cpos.line)=true:=by rfl):PE X (.Call (.Attribute o name apos) [] [] cpos) (ZaE X.K T r to):=by
 intro pins s σ H Q I h;refine wpAny_Call_method0_late hbase hline (thn (ho pins s σ H _ I h) λv s1 hz0=>?_);obtain ⟨x,H1,I1,r1,ty,q1⟩:=hz0;obtain ⟨h1,h2⟩:=Zar I1 r1 ty;exact ⟨T,id,pa,slot,hty,h1,h2,Calls.callWith_builtin rfl (PySem.evalArgs_none (hm pins s1 σ H1 x [] v [] Q I1 r1 .nil q1))⟩
theorem lF (pa:PlainAttrs T) (slot:Slot T name id) (hty:typeOf (.builtin id)=pure (.type "method_descriptor")) (hm:MtR X id r) (ho:PE X o to) (ha:PA X (e::es) t)
  (hbase:attributeBase o name X.env (eval o X.env)=eval o X.env:=by rfl)
  (hfew:((backTo cpos (starEach (e::es) X.env)).all (λx=>!x.1) && (backToKw cpos (keywordEach [] X.env)).all (λx=>x.1.isSome)
   && decide ((e::es).length+([]:List Keyword).length+(if ([]:List Keyword).isEmpty then 0 else 1) < 30))=true:=by rfl)
  (hline:(apos.endLine == cpos.line)=true:=by rfl) (hs:starEach (e::es) X.env=(false,eval e X.env)::starEach es X.env:=by rfl) (hplain:(backTo cpos (starEach es X.env)).any (·.1)=false:=by rfl) :
  PE X (.Call (.Attribute o name apos) (e::es) [] cpos) (tBM X.K T r to t):=by
 intro pins s σ H Q I h;refine wpAny_Call_method_late hbase hfew hline rfl (thn (ho pins s σ H _ I h) λv s1 hz0=>?_);obtain ⟨x,H1,I1,r1,ty,q1⟩:=hz0;obtain ⟨h1,h2⟩:=Zar I1 r1 ty;refine ⟨T,id,pa,slot,hty,h1,h2,?_⟩;have hA:=ha cpos pins s1 σ H1 _ I1 q1;rw [hs] at hA ⊢;refine Calls.callWith_builtin (by show (false || (backTo cpos (starEach es X.env)).any (·.1))=false; rw [hplain] <;> rfl) (Calls.evalArgs_plain ?_)
 exact thn hA λus s2 hz0=>by
  obtain ⟨vs,H2,I2,r2,q2⟩:=hz0;exact hm pins s2 σ H2 x vs v us Q I2 r1 r2 q2
end
noncomputable def MtM (X:Cx) (id:String) (r:V->List V->Hp->VK->Prop):Prop :=
 ∀ (pins:yF) (s:Shared) (σ:St) (H:Hp) (x:V) (xs:yB) (v:Value) (us:yz) (Q:VK),Inv X pins σ H s->RelV x v->Vals xs us->r x xs H Q ->
  wpAny (model X.prog X.w) X.A (call (.builtin id) (v::us)) (EP X pins σ Q) X.xe s
theorem Vals.one {x:V} {us:yz} (h:Vals [x] us):∃ u,us=[u]/\RelV x u:=by
 cases h with
 | cons r t=>cases t; exact ⟨_,rfl,r⟩
theorem Vals.zero:∀ {us:yz},Vals [] us->us=[]
 | _,.nil=>rfl
theorem Vals.reverse {xs:yB} {us:yz} (h:Vals xs us):Vals xs.reverse us.reverse:=by
 induction h with
 | nil=>exact .nil
 | cons r t ih=>rw [xm,xm]; exact Vals.append ih (.cons r .nil)
theorem Vals.rep {xs:yB} {us:yz} (h:Vals xs us):∀ k:Nat,Vals (List.replicate k xs).flatten (List.replicate k us).flatten
 | 0=>.nil
 | k+1=>by
  rw [u6,u6,vG,vG];exact Vals.append h (Vals.rep h k)
theorem Zd0 (its:yz):∀ (k:Nat) (acc:yz),
  List.foldl (λx1 x2=>x1++x2) acc.toArray (List.replicate k its.toArray)=(acc++(List.replicate k its).flatten).toArray
 | 0,acc=>by simp
 | k+1,acc=>by
  have e:acc.toArray++its.toArray=(acc++its).toArray:=by simp
  have e2:(acc++its)++(List.replicate k its).flatten=acc++(List.replicate (k+1) its).flatten:=by
   rw [u6,vG,wy]
  rw [<- e2,<- Zd0 its k (acc++its),<- e,u6,xX]
section
variable {X:Cx} {pins:yF} {σ:St} {H:Hp} {s:Shared} {l b:Addr} {xs ys zs:yB}
theorem Inv.lset {its its':yz} {n:Nat} {f:Array Value->Array Value} {t':Nat} (I:Inv X pins σ H s) (hH:H l=some (.lst xs))
  (e:s.heap.get? l=some { cls:=.type "list",data:=.seq its.toArray n }) (hf:f its.toArray=its'.toArray) (hv:Vals ys its') (hz:ys.length<=sizeLine) :
  Inv X pins σ (upd H l (.lst ys)) { s with heap:=s.heap.update l (Obj.mapSeq f),toks:=t' }:=by
 have q:=PySem.IsL.update e f;rw [hf] at q;refine I.write (x:=l) (e:=l) (by rw [hH]; exact trivial) (.inl rfl) (λb' u hb hu=>(vN s.heap (Obj.mapSeq f) (Ne.symm hb)).trans hu) ⟨_,q⟩ ?_
 exact ⟨hz,its',_,hv,q⟩
theorem Inv.lnew {its:yz} {t':Nat} (I:Inv X pins σ H s) (hv:Vals ys its) (hz:ys.length<=sizeLine) :
  Inv X pins σ (upd H s.heap.objs.size (.lst ys)) { s with heap:=s.heap.push { cls:=.type "list",data:=.seq its.toArray },toks:=t' } :=
 I.laid (λ_ _ q=>uN _ q) (uQ _) ⟨hz,its,0,hv,uS _ rfl⟩
theorem Inv.fresh (I:Inv X pins σ H s):H s.heap.objs.size=none:=I.hok.fresh (uQ _)
theorem Inv.lstM (I:Inv X pins σ H s) (hH:H l=some (.lst xs)):xs.length<=sizeLine/\∃ (its:yz) (n:Nat),Vals xs its/\xs.length=its.length/\s.heap.get? l=some { cls:=.type "list",data:=.seq its.toArray n }:=by
 obtain ⟨z,its,n,r,e⟩:=I.hok l _ hH;exact ⟨z,its,n,r,r.length,e⟩
theorem Zjv {n:Nat} (h:n<=sizeLine):Builtin.List.listTooLong n=false:=by
 unfold Builtin.List.listTooLong;exact decide_eq_false (by omega)
end
section
variable {X:Cx}
noncomputable def Zcj:V->List V->Hp->VK->Prop:=λx vs H Q=>∃ l xs y,x=.ref l/\vs=[y]/\H l=some (.lst xs)/\xs.length < sizeLine/\Q .non (upd H l (.lst (xs++[y])))
theorem lM:MtM X "list.append" Zcj:=by
 intro pins s σ H x vs v us Q I rx rv h;obtain ⟨l,xs,y,rfl,rfl,hH,hz,q⟩:=h;cases rx;obtain ⟨u,rfl,ru⟩:=rv.one;obtain ⟨z,its,n,r,hl,e⟩:=I.lstM hH;refine call_meets F.slot_list_append ⟨_,e,rfl⟩ F.entry_list_append (F.args_list_append_2 _ _) (PySem.list_append l its.toArray n u (by rw [uW]; omega)) ⟨e,?_⟩
 refine ⟨.non,_,I.lset (its':=its++[u]) hH e (by simp) (r.append (.cons ru .nil)) ?_,rfl,q⟩
 rw [vF,List.length_singleton];omega
noncomputable def Zb2:V->List V->Hp->VK->Prop:=λx vs H Q=>∃ l xs,x=.ref l/\vs=[]/\H l=some (.lst xs)/\Q .non (upd H l (.lst xs.reverse))
theorem ZjH:MtM X "list.reverse" Zb2:=by
 intro pins s σ H x vs v us Q I rx rv h;obtain ⟨l,xs,rfl,rfl,hH,q⟩:=h;cases rx;have hus:=rv.zero;subst hus;obtain ⟨z,its,n,r,hl,e⟩:=I.lstM hH;refine call_meets F.slot_list_reverse ⟨_,e,rfl⟩ F.entry_list_reverse (F.args_list_reverse_1 _) (AutoSeq1.list_reverse_list_0 l its.toArray n (by rw [uW]; omega)) ⟨e,?_⟩
 refine ⟨.non,_,I.lset (its':=its.reverse) hH e (by simp) r.reverse ?_,rfl,q⟩
 rw [wI];omega
noncomputable def Zci:R2:=λx y H Q=>∃ l b xs zs,x=.ref l/\y=.ref b/\H l=some (.lst xs)/\H b=some (.lst zs)/\xs.length+zs.length<=sizeLine/\∀ p,H p=none->Q (.ref p) (upd H p (.lst (xs++zs)))
theorem Zjg:OpR X (binaryOp .Add) Zci:=by
 intro pins s σ H x y v u Q I rx ry h;obtain ⟨l,b,xs,zs,rfl,rfl,hH,hB,hz,q⟩:=h;cases rx;cases ry;obtain ⟨z,its,n,r,hl,e⟩:=I.lstM hH;obtain ⟨z2,its2,n2,r2,hl2,e2⟩:=I.lstM hB;refine PySem.P.add_list e e2 ?_ (by rw [uW,uW]; omega)
 have ea:its.toArray++its2.toArray=(its++its2).toArray:=by simp
 rw [ea];exact ⟨.ref _,_,I.lnew (t':=s.toks) (r.append r2) (by rw [vF]; omega),rfl,q _ I.fresh⟩
noncomputable def rl:R2:=λx y H Q=>∃ l k xs,x=.ref l/\y=.int k/\H l=some (.lst xs)/\-(2 ^ 63)<=k/\k < 2 ^ 63/\xs.length * k.toNat<=sizeLine /\
 ∀ p,H p=none->Q (.ref p) (upd H p (.lst (List.replicate k.toNat xs).flatten))
theorem Zkc {α:Type} (xs:List α) (k:Nat):(List.replicate k xs).flatten.length=k * xs.length:=by
 induction k with
 | zero=>simp
 | succ k ih=>rw [u6,vG,vF,ih,wq,xC]
theorem ZcS:OpR X (binaryOp .Mult) rl:=by
 intro pins s σ H x y v u Q I rx ry h;obtain ⟨l,k,xs,rfl,rfl,hH,h1,h2,hz,q⟩:=h;cases rx;obtain ⟨t,rfl⟩:=ry;obtain ⟨z,its,n,r,hl,e⟩:=I.lstM hH;have hlen:its.toArray.size * k.toNat<=sizeLine:=by rw [uW,<- hl]; exact hz
 have hcap:¬ its.toArray.size * k.toNat > (2 ^ 63 - 1) / 8:=by
  have:(sizeLine:Nat)<=(2 ^ 63 - 1) / 8:=by decide
  omega
 have hfit:¬ (!Builtin.List.listFitsIndex k)=true:=by
  rw [fitsIndex_both h1 h2];exact u3
 have hlong:¬ Builtin.List.listTooLong (its.toArray.size * k.toNat)=true:=by
  rw [Zjv hlen];exact u3
 have hnew:List.foldl (λx1 x2=>x1++x2) #[] (List.replicate (if its.toArray.isEmpty=true then 0 else k.toNat) its.toArray)=(List.replicate k.toNat its).flatten.toArray:=by
  have f0:∀ m:Nat,List.foldl (λx1 x2=>x1++x2) #[] (List.replicate m its.toArray)=(List.replicate m its).flatten.toArray:=λm=>by
   have:=Zd0 its m [];rw [wX] at this;exact this
  rw [f0];cases its with
  | nil=>simp
  | cons a r'=>rw [if_neg (by simp)]
 refine wpAny_binaryOp_repeat_ref (T:="list") (U:="int") (by decide) ⟨_,e,rfl⟩ (λs'=>typeIs_int s' k t) noFill_list_mul F.fills_int_mul F.slot_int_rmul repeat_list F.slot_int_index.lookup
  (call_meets F.slot_int_rmul (typeIs_int s k t) F.entry_int_rmul (F.args_int_rmul_2 _ _) (int___rmul___int_list k t l its.toArray n)
   ⟨e,rfl,⟨_,e,rfl⟩,call_meets F.slot_list_mul ⟨_,e,rfl⟩ F.entry_list_mul (F.args_list_mul_2 _ _) (AutoListH.list___mul___list_int_3 l its.toArray n k t hfit hcap hlong) ⟨e,?_⟩⟩)
 rw [hnew];exact ⟨.ref _,_,I.lnew (t':=s.toks) (r.rep k.toNat) (by rw [Zkc,Nat.mul_comm]; exact hz),rfl,q _ I.fresh⟩
end
section
variable {prog:Program} {w:World} {A:Around} {E:yw} {s:Shared}
end
section
variable {X:Cx}
end
section
variable {κ:Type} [DecidableEq κ]
noncomputable def dU (kvs:List (κ×V)) (k:κ):Option V:=(kvs.find? λkv=>decide (kv.1=k)).map (·.2)
noncomputable def c8 (kvs:List (κ×V)) (k:κ) (v:V):List (κ×V) :=
 if (kvs.any λkv=>decide (kv.1=k))=true then kvs.map (λkv=>if kv.1=k then (kv.1,v) else kv) else kvs++[(k,v)]
theorem jP {p:κ×V} {r:List (κ×V)} {k:κ} (e:p.1=k):dU (p::r) k=some p.2:=by simp [dU,wP,e]
theorem jQ {p:κ×V} {r:List (κ×V)} {k:κ} (e:¬ p.1=k):dU (p::r) k=dU r k:=by simp [dU,wP,e]
theorem m8 (k:κ):∀ kvs:List (κ×V),(kvs.any λkv=>decide (kv.1=k))=(dU kvs k).isSome
 | []=>rfl
 | p::r=>by
  rw [yk];by_cases e:p.1=k
  ·simp only [jP e,decide_eq_true e,Bool.true_or,Option.isSome_some]
  ·rw [jQ e,decide_eq_false e,Bool.false_or]; exact m8 k r
theorem sk (kvs:List (κ×V)) (k:κ) (v:V):(c8 kvs k v).length<=kvs.length+1:=by
 unfold c8
 split
 ·rw [uO]; omega
 ·rw [vF,uZ,wn]; omega
theorem RelO.isSome_eq {o:Option V} {u:Option Value} (r:RelO o u):o.isSome=u.isSome:=by
 cases o with
 | none=>cases u with
  | none=>rfl
  | some _=>exact (show False from r).elim
 | some _=>cases u with
  | none=>exact (show False from r).elim
  | some _=>rfl
theorem KV.val {kvs:List (κ×V)} {vs:List (κ×Value)} (r:KV kvs vs) (k:κ):RelO (dU kvs k) (valueAt vs k):=by
 unfold KV at r
 induction r with
 | nil=>exact True.intro
 | @cons p q ps qs h t ih =>
  obtain ⟨h1,h2⟩:=h;by_cases e:p.1=k
  ·have e':q.1=k:=h1.symm.trans e;have b:valueAt (q::qs) k=some q.2:=by simp [valueAt,wP,e']
   rw [jP e,b]; exact h2
  ·have e':¬ q.1=k:=λz=>e (h1.trans z);have b:valueAt (q::qs) k=valueAt qs k:=by simp [valueAt,wP,e']
   rw [jQ e,b]; exact ih
theorem KV.any {kvs:List (κ×V)} {vs:List (κ×Value)} (r:KV kvs vs) (k:κ):(kvs.any λkv=>decide (kv.1=k))=vs.any λkv=>decide (kv.1=k):=by
 unfold KV at r
 induction r with
 | nil=>rfl
 | cons h t ih=>rw [yk,yk,ih,h.1]
theorem KV.repl {kvs:List (κ×V)} {vs:List (κ×Value)} (r:KV kvs vs) (k:κ) {y:V} {u:Value} (ry:RelV y u) :
  KV (kvs.map λkv=>if kv.1=k then (kv.1,y) else kv) (vs.map λkv=>if kv.1=k then (kv.1,u) else kv):=by
 unfold KV at r ⊢
 induction r with
 | nil=>exact .nil
 | @cons p q ps qs h t ih =>
  rw [uX,uX];refine .cons ?_ ih;obtain ⟨h1,h2⟩:=h;by_cases e:p.1=k
  ·rw [if_pos e,if_pos (h1.symm.trans e)]; exact ⟨h1,ry⟩
  ·rw [if_neg e,if_neg (λz=>e (h1.trans z))]; exact ⟨h1,h2⟩
theorem KV.put {kvs:List (κ×V)} {vs:List (κ×Value)} (r:KV kvs vs) (k:κ) {y:V} {u:Value} (ry:RelV y u):KV (c8 kvs k y) (stored vs k u):=by
 unfold c8 stored;rw [r.any k];by_cases e:(vs.any λkv=>decide (kv.1=k))=true
 ·rw [if_pos e,if_pos e]; exact r.repl k ry
 ·rw [if_neg e,if_neg e]; exact Paired.snoc r ⟨rfl,ry⟩
theorem KV.length {kvs:List (κ×V)} {vs:List (κ×Value)} (r:KV kvs vs):kvs.length=vs.length:=xU r
end
theorem oJ {P:Program} {w:World} {k:aD} {u:Value} (r:RelV (kV k) u):(de P w).is k u=true:=by
 cases k with
 | inl i=>obtain ⟨t,e⟩:=(show ∃ t,u=Value.int i t from r); subst e; exact ZjJ P w i t
 | inr x=>obtain ⟨t,e⟩:=(show ∃ t,u=Value.str x t from r); subst e; exact ZjI P w x t
theorem ZdA {P:Program} {w:World}:∀ {ks:List aD} {us:yz},Vals (ks.map kV) us->ItemsAre (de P w) ks us
 | [],_,r=>by rw [wK] at r; cases r; exact .nil
 | k::ks,_,r=>by
  rw [uX] at r;cases r with
  | cons h t=>exact .cons (oJ h) (ZdA t)
abbrev KT (H:Hp):List (List aD×V)->List (List aD×Addr×Value)->Prop:=Paired λp q=>p.1=q.1/\H q.2.1=some (.tup (p.1.map kV))/\RelV p.2 q.2.2
theorem KT.val {H:Hp} {kvs:List (List aD×V)} {xs:List (List aD×Addr×Value)} (r:KT H kvs xs) (k:List aD):RelO (dU kvs k) ((atKey xs k).map (·.2)):=by
 induction r with
 | nil=>exact True.intro
 | @cons p q ps qs h t ih =>
  obtain ⟨h1,_,h2⟩:=h;by_cases e:p.1=k
  ·have e':q.1=k:=h1.symm.trans e;have b:atKey (q::qs) k=some q.2:=by simp [atKey,wP,e']
   rw [jP e,b]; exact h2
  ·have e':¬ q.1=k:=λz=>e (h1.trans z);have b:atKey (q::qs) k=atKey qs k:=by simp [atKey,wP,e']
   rw [jQ e,b]; exact ih
theorem KT.repl {H:Hp} {kvs:List (List aD×V)} {xs:List (List aD×Addr×Value)} (r:KT H kvs xs) (k:List aD) {y:V} {u:Value} (ry:RelV y u) :
  KT H (kvs.map λkv=>if kv.1=k then (kv.1,y) else kv) (xs.map (putAt k u)):=by
 induction r with
 | nil=>exact .nil
 | @cons p q ps qs h t ih =>
  rw [uX,uX];refine .cons ?_ ih;obtain ⟨h1,h2,h3⟩:=h;unfold putAt;by_cases e:p.1=k
  ·rw [if_pos e,if_pos (h1.symm.trans e)]; exact ⟨h1,h2,ry⟩
  ·rw [if_neg e,if_neg (λz=>e (h1.trans z))]; exact ⟨h1,h2,h3⟩
theorem KT.put {H:Hp} {kvs:List (List aD×V)} {xs:List (List aD×Addr×Value)} (r:KT H kvs xs) (k:List aD) {b:Addr} {y:V} {u:Value} (hb:H b=some (.tup (k.map kV))) (ry:RelV y u) :
  KT H (c8 kvs k y) (storedH xs k b u):=by
 have e:(kvs.any λkv=>decide (kv.1=k))=(atKey xs k).isSome:=by
  rw [m8,(r.val k).isSome_eq,Option.isSome_map]
 unfold c8 storedH;rw [e];by_cases q:(atKey xs k).isSome=true
 ·rw [if_pos q,if_pos q]; exact r.repl k ry
 ·rw [if_neg q,if_neg q]; exact Paired.snoc r ⟨rfl,hb,ry⟩
theorem KT.keeps {H H':Hp} {kvs:List (List aD×V)} {xs:List (List aD×Addr×Value)} (r:KT H kvs xs) (ht:∀ b ys,H b=some (.tup ys)->H' b=some (.tup ys)):KT H' kvs xs :=
 Paired.mapP r λ_ _ z=>⟨z.1,ht _ _ z.2.1,z.2.2⟩
section
variable {P:Program} {w:World} {H:Hp} {h:Heap} {a:Addr}
theorem ZbV {u:HO} (ok:HOk P w H h) (e:Rd H a u):ObjOk P w H h a u:=e.ok ok
theorem tH {kvs:List (aD×V)} (ok:HOk P w H h) (e:Rd H a (.dK kvs)):kvs.length<=sizeLine/\(a == sysModules)=false/\∃ vs,KV kvs vs/\h.DictOf (de P w) a vs :=
 show ObjOk P w H h a (.dK kvs) from ZbV ok e
theorem Zet {kvs:List (aD×V)} (ok:HOk P w H h) (e:H a=some (.dK kvs)):kvs.length<=sizeLine/\(a == sysModules)=false/\∃ vs,KV kvs vs/\h.DictOf (de P w) a vs:=tH ok (.inl e)
theorem sK {ks:List aD} (ok:HOk P w H h) (e:H a=some (.tup (ks.map kV))):(tupleKind (de P w)).is h ks a:=by
 obtain ⟨_,its,r,o,h1,h2,n,h3⟩:=(show ObjOk P w H h a (.tup (ks.map kV)) from ok a _ e)
 exact ⟨o,its.toArray,n,h1,h2,h3,by simpa using ZdA r⟩
theorem tG {kvs:List (List aD×V)} (ok:HOk P w H h) (e:Rd H a (.dT kvs)):kvs.length<=sizeLine/\(a == sysModules)=false /\
  ∃ xs,KT H kvs xs/\h.DictOfH (tupleKind (de P w)) a xs:=by
 obtain ⟨z,y,xs,r,o,es,ep,h1,h2,h3,h4,h5⟩:=(show ObjOk P w H h a (.dT kvs) from ZbV ok e)
 refine ⟨z,y,xs,r,o,es,ep,h1,h2,h3,h4,λx hx=>?_,h5⟩;have all:∀ {l:List (List aD×V)} {m:List (List aD×Addr×Value)},KT H l m->∀ x∈m,(tupleKind (de P w)).is h x.1 x.2.1:=by
  intro l m q
  induction q with
  | nil=>intro x hx; exact nomatch hx
  | @cons p q ps qs hq t ih =>
   intro x hx;rcases uV.mp hx with e | hx
   ·subst e;exact sK ok (by rw [<- hq.1]; exact hq.2.1)
   ·exact ih x hx
 exact all r x hx
theorem Zoe {kvs:List (List aD×V)} (ok:HOk P w H h) (e:H a=some (.dT kvs)):kvs.length<=sizeLine/\(a == sysModules)=false /\
  ∃ xs,KT H kvs xs/\h.DictOfH (tupleKind (de P w)) a xs:=tG ok (.inl e)
end
noncomputable def DGet (H:Hp) (a:Addr) (y:V) (r:Option V):Prop :=
 (∃ kvs k,Rd H a (.dK kvs)/\y=kV k/\r=dU kvs k)\/∃ kvs k b,Rd H a (.dT kvs)/\y=.ref b/\H b=some (.tup (k.map kV))/\r=dU kvs k
noncomputable def DPut (H:Hp) (a:Addr) (y v:V) (H':Hp):Prop :=
 (∃ kvs k,H a=some (.dK kvs)/\y=kV k/\kvs.length < sizeLine/\H'=upd H a (.dK (c8 kvs k v))) \/
 ∃ kvs k b,H a=some (.dT kvs)/\y=.ref b/\H b=some (.tup (k.map kV))/\kvs.length < sizeLine/\H'=upd H a (.dT (c8 kvs k v))
theorem DGet.k {H:Hp} {a:Addr} {kvs:List (aD×V)} {k:aD} (e:H a=some (.dK kvs)):DGet H a (kV k) (dU kvs k):=.inl ⟨kvs,k,.inl e,rfl,rfl⟩
theorem DPut.k {H:Hp} {a:Addr} {kvs:List (aD×V)} {k:aD} {v:V} (e:H a=some (.dK kvs)) (hl:kvs.length < sizeLine):DPut H a (kV k) v (upd H a (.dK (c8 kvs k v))):=.inl ⟨kvs,k,e,rfl,hl,rfl⟩
section
variable {X:Cx} {pins:yF} {σ:St} {H:Hp} {s:Shared} {a:Addr} {y v:V} {u r:Value} {o:Option V} {A:Around} {E:yw}
theorem Inv.big (I:Inv X pins σ H s):sysModules < s.heap.objs.size:=by
 have h:mainGlobals < s.heap.objs.size:=(I.mod.glob.keeps I.bk).lt;exact Nat.lt_trans (by decide) h
theorem ZoK {Q:yw} (hu:A.units+1 < cLine) (I:Inv X pins σ H s) (g:DGet H a y (some v)) (ry:RelV y u) (h:∀ w' s',Inv X pins σ H s'->RelV v w'->Q w' s') :
  wpAny (model X.prog X.w) A (getItem (.ref a) u) Q E s:=by
 rcases g with ⟨kvs,k,e,ey,l⟩ | ⟨kvs,k,b,e,ey,eb,l⟩
 ·subst ey;obtain ⟨z,hd,vs,rel,dd⟩:=tH I.hok e;obtain ⟨w',hw,rw'⟩:=RelO.some_of (v:=v) (o:=valueAt vs k) (by rw [l]; exact rel.val k)
  exact wpAny_getItem_of (oJ ry) dd.mapOf hw (h w' _ (I.tok _) rw')
 ·subst ey;cases (show u=Value.ref b from ry)
  obtain ⟨z,hd,xs,rel,dd⟩:=tG I.hok e;obtain ⟨w',hw,rw'⟩:=RelO.some_of (v:=v) (o:=(atKey xs k).map (·.2)) (by rw [l]; exact rel.val k)
  obtain ⟨p,hp,hp2⟩:=xz.mp hw;refine wpAny_getItem_heap (tupleKind_room_in1 hu) (sK I.hok eb) dd hp ?_;rw [hp2];exact h w' _ (I.tok _) rw'
theorem tK {h':Heap} {t':Nat} {ob:HO} (I:Inv X pins σ H s) (mu:mR (H a)) (hs:Heap.SameBut a s.heap h') (he:∃ q,h'.get? a=some q) (new:ObjOk X.prog X.w (upd H a ob) h' a ob) :
  Inv X pins σ (upd H a ob) { s with heap:=h',toks:=t' } :=
 I.write (x:=a) (e:=a) mu (.inl rfl) (λb q hb z=>(hs.2 b hb).trans z) he new
theorem Zeu {P:Program} {w:World} {H':Hp} {h':Heap} {kvs:List (aD×V)} {vs:List (aD×Value)} (z:kvs.length<=sizeLine) (hd:(a == sysModules)=false) (rel:KV kvs vs) (dd:h'.DictOf (de P w) a vs) :
  ObjOk P w H' h' a (.dK kvs):=⟨z,hd,vs,rel,dd⟩
theorem Zos {H':Hp} {Q:Unit->Shared->Prop} (hu:A.units+1 < cLine) (I:Inv X pins σ H s) (g:DPut H a y v H') (ry:RelV y u) (rv:RelV v r) (h:∀ s',Inv X pins σ H' s'->Q () s') :
  wpAny (model X.prog X.w) A (setItem (.ref a) u r) Q E s:=by
 rcases g with ⟨kvs,k,e,ey,l,eH⟩ | ⟨kvs,k,b,e,ey,eb,l,eH⟩
 ·subst ey eH;obtain ⟨z,hd,vs,rel,dd⟩:=Zet I.hok e;have hz:vs.length<=sizeLine:=by rw [<- rel.length]; exact z
  have hl:(c8 kvs k v).length<=sizeLine:=by have:=sk kvs k v; omega
  refine wpAny_setItem_pairs (hsz:=hz) (oJ ry) dd λh' dd' hs=>h _ ?_;have he:∃ q,h'.get? a=some q:=let ⟨q,_,_,hq,_⟩:=dd'; ⟨q,hq⟩
  exact tK I (by rw [e]; exact True.intro) hs he (Zeu hl hd (rel.put k rv) dd')
 ·subst ey eH;cases (show u=Value.ref b from ry)
  obtain ⟨z,hd,xs,rel,dd⟩:=Zoe I.hok e;have hz:xs.length<=sizeLine:=by rw [<- xU rel]; exact z
  have hl:(c8 kvs k v).length<=sizeLine:=by have:=sk kvs k v; omega
  refine wpAny_setItem_heap (hsz:=hz) (tupleKind_room_in1 hu) (sK I.hok eb) dd λh' dd' hs=>h _ ?_;obtain ⟨q,es,ep,hq,h2,h3,h4,_,h5⟩:=dd';refine tK I (by rw [e]; exact True.intro) hs ⟨q,hq⟩ ⟨hl,hd,_,(rel.put k eb rv).keeps λc ys ec=>?_,q,es,ep,hq,h2,h3,h4,h5⟩
  rw [ap (kc ec e (λz=>nomatch z))]
  exact ec
end
section
variable {X:Cx} {pins:yF} {σ:St} {H:Hp} {s:Shared} {a:Addr} {kvs:List (aD×V)} {k:aD} {u:Value} {A:Around} {E:yw}
end
def ZfJ (i:Expr):Prop:=∀ ov iv,subscripted i false ov iv=operate [ov,iv] (getItem ov iv)
theorem Zg5 {prog:Program} {w:World} {A:Around} {E:yw} {s:Shared} {env:Env} {value slice:Expr} {pos:Pos} {T id:String} {Q:yw}
  (hl:typeLookup (.type T) "__getitem__"=pure (some (.builtin id))) (hs:ZfJ slice)
  (h:wpAny (model prog w) A (eval value env) (λo s₁=>wpAny (model prog w) A (eval slice env) (λi s₂=>s₂.TypeIs o T/\wpAny (model prog w) A (getItem o i) Q E s₂) E s₁) E s) :
  wpAny (model prog w) A (eval (.Subscript value slice pos) env) Q E s:=by
 refine Subscript_ (wpAny_mono h (λo s₁ h₁=>wpAny_mono h₁ (λi s₂ h₂=>?_) λ_ _ x=>x) λ_ _ x=>x);obtain ⟨hT,h₂⟩:=h₂;unfold subscriptTail;refine wpAny_bind ?_;rw [getitemInPython_of_ne hT.not_modules];refine wpAny_bind (wpAny_specialOf hT hl ?_);have fin:wpAny (model prog w) A (subscripted slice false o i) (λr s₃=>wpAny (model prog w) A (letTemporaryGo value o r >>= λ_=>pure r) Q E s₃) E s₂:=by
  rw [hs o i];exact wpAny_operating (wpAny_mono h₂ (λr s₃ h₃=>wpAny_bind (wpAny_letTemporaryGo (wpAny_pure h₃))) λ_ _ x=>x)
 first
  | exact wpAny_pure (wpAny_bind fin)
  | exact wpAny_bind (wpAny_pure (wpAny_bind fin))
  | exact wpAny_bind fin
theorem Zoi {X:Cx} {pins:yF} {σ:St} {H:Hp} {s:Shared} {a:Addr} {y:V} {o:Option V} (I:Inv X pins σ H s) (g:DGet H a y o):s.TypeIs (.ref a) "dict":=by
 rcases g with ⟨kvs,k,e,_,_⟩ | ⟨kvs,k,b,e,_,_,_⟩
 ·obtain ⟨_,_,vs,_,dd⟩:=tH I.hok e;exact dd.typeIs
 ·obtain ⟨_,_,xs,_,dd⟩:=tG I.hok e;exact dd.typeIs
def ZgS (td ty:TE):TE:=λσ H Q=>td σ H λx H1=>ty σ H1 λy H2=>∃ a v,x=.ref a/\DGet H2 a y (some v)/\Q v H2
def ZhI (td ty tv:TE):TS:=λD σ H=>tv σ H λv H1=>td σ H1 λx H2=>ty σ H2 λy H3=>∃ a H4,x=.ref a/\DPut H3 a y v H4/\D.nx σ H4
section
variable {X:Cx} {o i e value:Expr} {pos pos' tpos:Pos} {td ty tv:TE}
theorem ij (hu:X.A.units+1 < cLine) (ho:PE X o td) (hi:PE X i ty) (hs:ZfJ i):PE X (.Subscript o i pos) (ZgS td ty):=by
 intro pins s σ H Q I h;refine Zg5 PySem.F.slot_dict_getitem.lookup hs (thn (ho pins s σ H _ I h) λu s1 ⟨x,H1,I1,rx,q1⟩=>thn (hi pins s1 σ H1 _ I1 q1) λiv s2 hz0=>?_);obtain ⟨y,H2,I2,ry,a,v,ex,g,q2⟩:=hz0;subst ex;obtain rfl:u=Value.ref a:=rx;exact ⟨Zoi I2 g,ZoK hu I2 g ry λw' s3 I3 rw'=>⟨v,H2,I3,rw',q2⟩⟩
theorem rE (hu:X.A.units+1 < cLine) (ho:PE X o td) (hi:PE X i ty) (hv:PE X value tv) (hs:swapsWith value (some (.Subscript o i pos')) pos.line X.env=pure false) :
  PS X (.Assign [.Subscript o i pos'] value pos) (ZhI td ty tv):=by
 intro pins s σ H D I h;refine wpAny_Assign_Subscript (thn (hv pins s σ H _ I h) λr s1 ⟨v,H1,I1,rv,q1⟩=>thn (ho pins s1 σ H1 _ I1 q1) λu s2 ⟨x,H2,I2,rx,q2⟩=>thn (hi pins s2 σ H2 _ I2 q2) λiv s3 hz0=>?_) hs;obtain ⟨y,H3,I3,ry,a,H4,ex,g,q3⟩:=hz0;subst ex;obtain rfl:u=Value.ref a:=rx;exact Zos hu I3 g ry rv λs4 I4=>⟨σ,H4,I4,q3⟩
end
theorem Zev {P:Program} {w:World} {H:Hp} (h:Heap) (hb:sysModules < h.objs.size):ObjOk P w H (h.push { cls:=.type "dict",data:=.dict #[] }) h.objs.size (.dK []) :=
 ⟨wf _,beq_eq_false_iff_ne.mpr (Ne.symm (u9 hb)),[],.nil,Heap.DictOf.new h⟩
def ZgR:TE:=λ_ H Q=>∀ p,H p=none->Q (.ref p) (upd H p (.dK []))
section
variable {X:Cx} {pos:Pos}
theorem ZiR:PE X (.Dict [] [] pos) ZgR:=λpins s σ H Q I h =>
 wpAny_Dict_empty ⟨.ref s.heap.objs.size,_,I.laid (a:=s.heap.objs.size) (o:=.dK []) (t':=s.toks) (λ_ _ q=>uN _ q) (uQ _) (Zev s.heap I.big),rfl,h _ (I.hok.fresh (uQ _))⟩
end
noncomputable def qm:List (TE×TE)->St->Hp->(List (V×V)->Hp->Prop)->Prop
 | [],_,H,Q=>Q [] H
 | (tk,tv)::r,σ,H,Q=>tk σ H λx H1=>tv σ H1 λy H2=>qm r σ H2 λps H3=>Q ((x,y)::ps) H3
abbrev VV:List (V×V)->List (Value×Value)->Prop:=Paired λp q=>RelV p.1 q.1/\RelV p.2 q.2
noncomputable def pT (X:Cx) (pos:Pos) (keys:List (Option Expr)) (values:List Expr) (trs:List (TE×TE)):Prop :=
 ∀ (pins:yF) (s:Shared) (σ:St) (H:Hp) (Q:List (V×V)->Hp->Prop),Inv X pins σ H s->qm trs σ H Q ->
  wpAny (model X.prog X.w) X.A (evalPairs (pairTrees keys values X.env pos)) (λvs s'=>∃ ps H',Inv X pins σ H' s'/\VV ps vs/\Q ps H') X.xe s
theorem Zix {X:Cx} {pos:Pos}:pT X pos [] [] []:=λpins s σ H Q I h=>pairTrees_nil_walk ⟨[],H,I,.nil,h⟩
theorem rG {X:Cx} {pos:Pos} {k v:Expr} {ks:List (Option Expr)} {vs:List Expr} {tk tv:TE} {trs:List (TE×TE)} (hk:PE X k tk) (hv:PE X v tv) (hr:pT X pos ks vs trs) :
  pT X pos (some k::ks) (v::vs) ((tk,tv)::trs):=λpins s σ H Q I h =>
 pairTrees_cons_walk (thn (hk pins s σ H _ I h) λu s1 ⟨x,H1,I1,rx,q1⟩=>thn (hv pins s1 σ H1 _ I1 q1) λw2 s2 ⟨y,H2,I2,ry,q2⟩ =>
  thn (hr pins s2 σ H2 _ I2 q2) λws s3 ⟨ps,H3,I3,rel,q3⟩=>⟨(x,y)::ps,H3,I3,.cons ⟨rx,ry⟩ rel,q3⟩)
noncomputable def lP (kvs more:List (aD×V)):List (aD×V):=more.foldl (λacc kv=>c8 acc kv.1 kv.2) kvs
theorem KV.merge:∀ {more:List (aD×V)} {rs:List (aD×Value)} {kvs:List (aD×V)} {vs:List (aD×Value)},KV more rs->KV kvs vs->KV (lP kvs more) (merged vs rs):=by
 intro more rs kvs vs r;unfold KV at r
 induction r generalizing kvs vs with
 | nil=>intro q; exact q
 | @cons p q ps qs h t ih =>
  intro r0;have e:KV (c8 kvs p.1 p.2) (stored vs q.1 q.2):=by
   have:=r0.put p.1 h.2;rw [<- h.1]; exact this
  exact ih e
theorem Zdk:∀ (more kvs:List (aD×V)),(lP kvs more).length<=kvs.length+more.length
 | [],kvs=>by show kvs.length<=kvs.length+0; omega
 | p::r,kvs=>by
  have h1:=Zdk r (c8 kvs p.1 p.2);have h2:=sk kvs p.1 p.2;show (lP (c8 kvs p.1 p.2) r).length<=_;rw [uZ]; omega
theorem ZeT {P:Program} {w:World}:∀ {kvs:List (aD×V)} {ws:List (Value×Value)},VV (kvs.map λkv=>(kV kv.1,kv.2)) ws->∃ rs,Carries (de P w) ws rs/\KV kvs rs
 | [],_,r=>by rw [wK] at r; cases r; exact ⟨[],True.intro,.nil⟩
 | p::kvs,_,r=>by
  rw [uX] at r;cases r with
  | @cons a b as bs h t =>
   obtain ⟨rs,c,q⟩:=ZeT (P:=P) (w:=w) t;obtain ⟨b1,b2⟩:=b;exact ⟨(p.1,b2)::rs,⟨oJ h.1,rfl,c⟩,.cons ⟨rfl,h.2⟩ q⟩
def ZgQ (trs:List (TE×TE)):TE:=λσ H Q=>∀ p,H p=none->qm trs σ (upd H p (.dK [])) λps H2=>H2 p=some (.dK [])/\∃ kvs:List (aD×V),ps=kvs.map (λkv=>(kV kv.1,kv.2))/\kvs.length<=15/\Q (.ref p) (upd H2 p (.dK (lP [] kvs)))
theorem ZiS {X:Cx} {pos:Pos} {keys:List (Option Expr)} {values:List Expr} {trs:List (TE×TE)} (h:pT X pos keys values trs) (hall:keys.all (·.isSome)=true) (hl:keys.length=values.length) (h0:keys≠[])
  (h15:keys.length<=15):PE X (.Dict keys values pos) (ZgQ trs):=by
 intro pins s σ H Q I q;have hn:=I.hok.fresh (uQ s.heap.objs.size);have I1:=I.laid (a:=s.heap.objs.size) (o:=.dK []) (h':=s.heap.push { cls:=.type "dict",data:=.dict #[] }) (t':=s.toks) (λ_ _ q=>uN _ q) (uQ _) (Zev s.heap I.big);refine wpAny_Dict_walk (knd:=de X.prog X.w) hall hl h0 h15 (thn (h pins _ σ _ _ I1 (q _ hn)) λws s2 hz0=>?_);obtain ⟨ps,H2,I2,rel,e,kvs,ep,lk,q2⟩:=hz0;subst ep;obtain ⟨rs,c,rk⟩:=ZeT (P:=X.prog) (w:=X.w) rel;obtain ⟨z,hd,vs0,r0,dd⟩:=Zet I2.hok e;cases r0;refine ⟨rs,c,dd,λh' dd' hs=>⟨.ref s.heap.objs.size,_,?_,rfl,q2⟩⟩;have hz:(lP [] kvs).length<=sizeLine:=by
  have h1:=Zdk kvs [];rw [wn] at h1;rw [sizeLine_eq]; omega
 have he:∃ q,h'.get? s.heap.objs.size=some q:=let ⟨q,_,_,hq,_⟩:=dd'; ⟨q,hq⟩
 exact tK I2 (by rw [e]; exact True.intro) hs he (Zeu hz hd (rk.merge .nil) dd')
section
variable {X:Cx} {pins:yF} {σ:St} {H:Hp} {s:Shared} {a:Addr} {y d:V} {u r:Value} {o:Option V} {A:Around} {E:yw}
end
section
variable {X:Cx} {o e f:Expr} {apos cpos:Pos} {td ty tx:TE}
end
section
variable {X:Cx} {pins:yF} {σ:St} {H:Hp} {s:Shared} {a:Addr} {kvs:List (aD×V)} {A:Around} {E:yw}
end
section
variable {X:Cx} {pins:yF} {σ:St} {H:Hp} {s:Shared} {a:Addr} {y:V} {u:Value} {A:Around} {E:yw}
end
end L2
namespace Att
open PySem.W PySem.Calls
theorem ints_of_wellAll {P:Params} {h:Heap}:∀ (ns:yy) (vs:yz),WellAll P h vs (ns.map WData.int)->IntsAre vs ns:=by
 intro ns
 induction ns with
 | nil =>
  intro vs w;rw [wK] at w;cases w;exact .nil
 | cons n ns ih =>
  intro vs w;rw [uX] at w;cases w with
  | cons a b =>
   cases a;exact .cons _ _ (ih _ b)
theorem script_of {l:OpenLaw} {n:Nat} (hn:l.most=some n) {P:Params} {h:Heap} {args:List WData} {vals:yz}
  (hpre:l.row.toRowW.claim.pre args=true) (hwl:WellAll P h vals args) :
  ∃ a vs ns,vals=[Value.ref a]/\args=[WData.list (ns.map WData.int)]/\h.get? a=some { cls:=.type "list",data:=.seq vs.toArray }/\IntsAre vs ns/\ns.length<=n:=by
 have hsh:WShape.hasAll [] args [.list .int]=true:=(pre_splitW hpre).1;have hc:l.pre.holds [] { args:=args }=true:=(pre_splitW hpre).2;obtain ⟨d,r,rfl,h1,h2⟩:=hasAllW_cons hsh;obtain rfl:=hasAllW_nil h2;obtain ⟨xs,rfl,h3⟩:=hasW_list h1;obtain ⟨ns,rfl⟩:=items_int h3;have hlen:ns.length<=n:=by
  unfold OpenLaw.pre at hc;have h4:(WTm.not (.lt (.lit (.int (n:Int))) (.len (.arg 0)))).holds [] { args:=[.list (ns.map .int)] }=true:=by
   have h4:=(holds_andW hc).1;rw [hn] at h4;exact h4
  have h5:=condW_of h4 (w_not (w_lt w_lit (w_len_list (w_arg rfl))));rw [uO] at h5;refine wT λq=>?_;have q':(n:Int) < ((ns.length:Nat):Int):=by omega
  first
   | (rw [decide_eq_true q'] at h5; exact absurd h5 (by decide))
   | (simp at h5; omega)
 cases hwl with
 | cons w1 w2 =>
  cases w2;cases w1 with
  | list ho hall=>exact ⟨_,_,ns,rfl,rfl,ho,ints_of_wellAll ns _ hall,hlen⟩
theorem post_true (l:OpenLaw) (args:List WData):l.row.toRowW.claim.post args (.bool true) args=true :=
 postW_of (r:=l.row.toRowW) (X:=(true == true))
  (show WShape.has [] (.bool true) .bool=true by first | rfl | decide | simp [WShape.has,WShape.arms,WShape.armsAll])
  (show (WTm.eq .res (.lit (.bool true))).value [] { args:=args,res:=some (.bool true),after:=args }=some (.bool (true == true)) from w_eq_bool (w_res rfl) w_lit) rfl
theorem attach_call {l:OpenLaw} {n:Nat} {q:Program} {loose:yA} {XP:yC->Heap->Prop} {YP:World->Heap->Prop} {d:DefRec}
  (hn:l.most=some n) (hdf:d.params.defaults=[])
  (call:∀ (w:World) (s₀ s₁:Shared) (mg mb:yC) (fa:Addr) (o:Obj) (pm cd doc:Value) (a:Addr) (vs:yz) (ns:yy),
   Ground q loose [] XP w s₀ mg mb s₁.heap->YP w s₁.heap ->
   s₁.heap.get? fa=some o->o.data=.func (docDef d.name d.params d.body d.scope pm cd doc)->s₁.heap.CodeRec cd d.name->mg d.name=some (.ref fa) ->
   s₁.heap.get? a=some { cls:=.type "list",data:=.seq vs.toArray }->IntsAre vs ns->ns.length<=n->s₁.gens=#[] ->
   codeAny (model l.prog w) callerA (.call (.ref fa) ⟨[.ref a],[]⟩) (λr s'=>r=.ok (.ret (.bool true))/\OldK s₁.heap s'.heap/\s'.os=s₁.os/\AllBare s'.gens) s₁) :
  WalkO q loose XP YP l.row.toRowW d [] (λf vs=>PySem.call f vs):=by
 intro w s₀ s₁ mg mb G Y fa o pm cd doc dV kV ho hd hcd hD hmg hg args vals as hpre hlay hrd hwl hlo;obtain rfl:dV=.none:=Dflts.none hD hdf;obtain rfl:kV=.none:=Dflts.noKw hD;obtain ⟨a,vs,ns,rfl,rfl,hobj,hints,hlen⟩:=script_of hn hpre hwl;refine enter_call (codeAny_mono (call w s₀ s₁ mg mb fa o pm cd doc a vs ns G Y ho (fd_plain hd) hcd hmg hobj hints hlen hg) λr s' hq=>?_);obtain ⟨rfl,h2,h3,h4⟩:=hq;exact ⟨.inl ⟨.bool true,.bool true,[],rfl,λ_=>rfl,.bool true,post_true l _,λ_=>⟨List.Pairwise.nil,λ_ hm=>(nomatch hm)⟩⟩,h2,h3,h4⟩
section
variable {prog:Program} {w:World} {A:Around} {E:yw} {s:Shared} {K:Frag}
end
end Att
namespace L2
theorem Zgc {vs:yz} {ns:yy} (h:IntsAre vs ns):Vals (ns.map V.int) vs:=by
 induction h with
 | nil=>exact .nil
 | cons n t h ih=>exact .cons ⟨t,rfl⟩ ih
def Zqv (H:Hp):Prop:=∀ b,H b=none\/∃ o xs,H b=some (.frz o (.lst xs))
noncomputable def fG (s:Stmt):Arguments:=match s with
 | .FunctionDef _ a _ _ _ _ _ _ _ _=>a
 | _=>{ posonlyargs:=[],args:=[],vararg:=none,kwonlyargs:=[],kw_defaults:=[],kwarg:=none,defaults:=[] }
noncomputable def dA (s:Stmt):List Stmt:=match s with
 | .FunctionDef _ _ b _ _ _ _ _ _ _=>b
 | _=>[]
noncomputable def aG (s:Stmt):Scope:=match s with
 | .FunctionDef _ _ _ _ _ _ sc _ _ _=>sc
 | _=>{ kind:=.function,names:=[],isGenerator:=false,isCoroutine:=false }
abbrev dH:eQ:=λ_ _ _ _ _ _=>False
abbrev E0:XK:=λ_ _ _=>False
theorem Zi3 {X:Cx}:uF dH X E0:=λ_ _ _ _ _ _ _ h=>h.elim
structure Fun (K:ym) (x qual:Str) (st:Stmt) (f:Addr) (fd:FuncData):Prop where
 ex:∃ (oc:Value) (od:Option Addr) (kV doc pm:Value) (an:Option Addr) (cdv ct:Value) (osl:Array (Option Value)),
  fd=PySem.W.fnOf x qual (fG st) (dA st) (aG st) .none kV doc pm an cdv ct/\K.lookup f=some ⟨oc,od,.func fd,osl⟩/\PySem.W.codeIn K cdv qual=true
 kp:PySem.W.keepIn K (.ref f)=true
section
variable {P:Program} {w:World} {K:ym} {mg:yC} {base:Heap}
theorem Fun.ok {x qual:Str} {st:Stmt} {f:Addr} {fd:FuncData} {N ps:yA} {k:Nat} {sp:Sp} (F:Fun K x qual st f fd) (S:FnScope N ps (aG st)) (len:∀ vs H Q E,sp vs H Q E->vs.length=ps.length)
  (hbody:∀ (cdv:Value) (A:Around) (outer:List Env) (s:Shared) (H:Hp) (vs:yB) (Q:VK) (E:XK),Room k (A.deeper (envOfC qual (aG st) s.heap.objs.size f cdv))->sp vs H Q E ->
   ∃ t,PSs (cK dH P w K mg base N qual (aG st) f cdv A outer s H E).nox (dA st) t/\t { nx:=λ_ H'=>Q .non H',rt:=Q } (start N vs) H):FnOk P w K mg base dH (k+1) f fd ps sp:=by
 obtain ⟨oc,od,kV,doc,pm,an,cdv,ct,osl,rfl,lk,hcd⟩:=F.ex;refine sX lk hcd S len λA outer s H vs Q E hr hsp=>?_;obtain ⟨t,h,q⟩:=hbody cdv A outer s H vs Q E hr hsp;exact ⟨t,h.nox,q⟩
theorem Fun.binds {x qual:Str} {st:Stmt} {f:Addr} {fd:FuncData} {ps:yA} (F:Fun K x qual st f fd)
  (h:∀ (kV doc pm:Value) (an:Option Addr) (cdv ct:Value) (us:yz),us.length=ps.length->bindArgs (PySem.W.fnOf x qual (fG st) (dA st) (aG st) .none kV doc pm an cdv ct) ⟨us,[]⟩=pure (ps.zip us)):Binds K fd ps []:=by
 obtain ⟨oc,od,kV,doc,pm,an,cdv,ct,osl,rfl,lk,hcd⟩:=F.ex;exact .all (h kV doc pm an cdv ct)
theorem Zk9 {x qual:Str} {st:Stmt} {f:Addr} {oc:Value} {od an:Option Addr} {osl:Array (Option Value)} {kV doc pm cdv ct:Value} (l:K.lookup f=some ⟨oc,od,.func (PySem.W.fnOf x qual (fG st) (dA st) (aG st) .none kV doc pm an cdv ct),osl⟩)
  (c:PySem.W.codeIn K cdv qual=true) (k:PySem.W.keepIn K (.ref f)=true):Fun K x qual st f (PySem.W.fnOf x qual (fG st) (dA st) (aG st) .none kV doc pm an cdv ct):=⟨⟨oc,od,kV,doc,pm,an,cdv,ct,osl,rfl,l,c⟩,k⟩
end
theorem oP {A:Around} {k:Nat} (hr:Room k A):A.units+1 < cLine:=wM (Nat.add_le_add_left (by decide:1<=64) _) hr.units
section
variable {X:Cx}
theorem pv (i:Nat) {x:Str} {pos:Pos} (hN:X.N[i]?=some x:=by rfl) (hv:kQ X.env.scope x:=by first | exact Or.inl rfl | exact Or.inr (.inl rfl) | exact Or.inr (.inr rfl)) (hd:(x == ("__debug__":Str))=false:=by decide)
  (hcd:(x == ("__classdict__":Str))=false:=by decide):PE X (.Name x pos) (eS i):=ZiK hN hv hd hcd
end
theorem oM {c A B:Prop} [Decidable c] (h1:c->A) (h2:¬ c->B):if c then A else B:=by
 by_cases h:c
 ·rw [if_pos h];exact h1 h
 ·rw [if_neg h];exact h2 h
def Same (H H':Hp):Prop:=∀ b o,H b=some o->H' b=some o
theorem Same.refl (H:Hp):Same H H:=λ_ _ h=>h
theorem Same.seq {K:ym} {H H':Hp} {a:Addr} {xs:yB} (e:Same H H') (h:SqL K H a xs):SqL K H' a xs:=by
 rcases h with (h | ⟨o,h⟩) | h
 ·exact .inl (.inl (e _ _ h))
 ·exact .inl (.inr ⟨o,e _ _ h⟩)
 ·exact .inr h
structure Blk where
 cl:List (Str×Addr)
 C:Addr
 s:Shared
 H:Hp
 fp:List Addr
 pn:yF
noncomputable def bQ (X:Cx) (N:yA) (scope:Scope) (b:Blk):Cx where
 prog:=X.prog
 w:=X.w
 K:=X.K
 mg:=X.mg
 base:=X.base
 A:=X.A
 N:=N
 s₀:=b.s
 H₀:=b.H
 env:=compEnvC scope b.cl b.C X.env
 outer:=X.stack
 stack:=X.stack
 ex:=b.fp
 fn:=λx=>scope.names.lookup x == some .cell
 calm:=X.calm
 pn:=b.pn
 xe:=λ_ _=>False
def bN (Nx ts:yA) (ix:List Nat):yA:=ts++ix.map λj=>(Nx[j]?).getD Str.empty
noncomputable def dB (n:Nat) (ix:List Nat) (σ:St):St:=List.replicate n none++ix.map λj=>(σ[j]?).getD none
structure BlkOk (Nx:yA) (sc scope:Scope) (ix:List Nat):Prop where
 kind:scope.kind=.function
 cells:∀ y∈scope.names,y.2=.cell->scope.names.lookup y.1=some .cell
 locs:∀ y∈scope.names,y.2=.local->scope.names.lookup y.1=some .local
 frees:∀ y∈scope.names,y.2=.free->sc.names.lookup y.1=some .cell\/sc.names.lookup y.1=some .free
 caps:∀ j∈ix,j < Nx.length/\scope.names.lookup ((Nx[j]?).getD Str.empty)=some .free
theorem sV {env:Env} {f:Str×NameKind->List (Str×Addr)->Sem (ForInStep (List (Str×Addr)))}
  (h1:∀ n k r,k≠NameKind.free->f (n,k) r=pure (.yield r)) (h2:∀ n r c,env.cells.lookup n=some c->f (n,NameKind.free) r=pure (.yield ((n,c)::r))) :
  ∀ (names:List (Str×NameKind)) (acc:List (Str×Addr)),(∀ y∈names,y.2=.free->∃ c,env.cells.lookup y.1=some c)->(∀ x c,acc.lookup x=some c->env.cells.lookup x=some c) ->
   ∃ cl,forIn names acc f=pure cl/\(∀ x c,cl.lookup x=some c->env.cells.lookup x=some c)/\(∀ y∈names,y.2=.free->∃ c,cl.lookup y.1=some c)/\∀ x c,acc.lookup x=some c->∃ c',cl.lookup x=some c'
 | [],acc,_,ha=>⟨acc,rfl,ha,(λ_ h=>nomatch h),λx c h=>⟨c,h⟩⟩
 | (n,k)::names,acc,hn,ha=>by
  have hn':∀ y∈names,y.2=.free->∃ c,env.cells.lookup y.1=some c:=λy hy=>hn y (uP _ hy);by_cases hk:k=.free
  ·subst hk;obtain ⟨c,hc⟩:=hn (n,.free) vM rfl;have ha':∀ x d,((n,c)::acc).lookup x=some d->env.cells.lookup x=some d:=λx d e=>by
    rw [vC] at e;cases hx:x == n with
    | true =>
     rw [hx] at e;have hxn:x=n:=by simpa using hx
     subst hxn;cases e;exact hc
    | false =>
     rw [hx] at e;exact ha x d e
   obtain ⟨cl,e,p1,p2,p3⟩:=sV h1 h2 names ((n,c)::acc) hn' ha';refine ⟨cl,?_,p1,λy hy hf=>?_,λx d hx=>?_⟩
   ·rw [xG,h2 n acc c hc,pure_bind];exact e
   ·rcases uV.mp hy with rfl | hy
    ·exact p3 n c (by simp)
    ·exact p2 y hy hf
   ·by_cases e1:x=n
    ·subst e1;exact p3 x c (by simp)
    ·exact p3 x d (by rw [vC,beq_false_of_ne e1]; exact hx)
  ·obtain ⟨cl,e,p1,p2,p3⟩:=sV h1 h2 names acc hn' ha;refine ⟨cl,?_,p1,λy hy hf=>?_,p3⟩
   ·rw [xG,h1 n k acc hk,pure_bind];exact e
   ·rcases uV.mp hy with rfl | hy
    ·exact absurd hf hk
    ·exact p2 y hy hf
theorem o8 {scope:Scope} {env:Env} (hn:∀ y∈scope.names,y.2=.free->∃ c,env.cells.lookup y.1=some c) :
  ∃ cl,closureFor scope env=pure cl/\(∀ x c,cl.lookup x=some c->env.cells.lookup x=some c)/\∀ y∈scope.names,y.2=.free->∃ c,cl.lookup y.1=some c:=by
 unfold closureFor;have key:=sV (env:=env) (f:=λ(x:Str×NameKind) (r:List (Str×Addr))=>match x with
  | (name,kind)=>if (kind == NameKind.free)=true then (do let a <- cellOf env name; pure (ForInStep.yield ((name,a)::r))) else pure (ForInStep.yield r))
  (λn k r hk=>by
   have hb:(k == NameKind.free)=false:=by simpa using hk
   show (if (k == NameKind.free)=true then _ else _)=_
   rw [hb]
   rfl)
  (λn r c hc=>by
   show (do let a <- cellOf env n; pure (ForInStep.yield ((n,a)::r)))=_
   unfold cellOf;rw [hc]
   rfl) scope.names [] hn (λx c h=>by simp at h)
 obtain ⟨cl,e,p1,p2,_⟩:=key;refine ⟨cl,?_,p1,p2⟩;show (forIn scope.names [] _ >>= λr=>pure r)=pure cl;exact (congrArg (λt=>t >>= λr=>pure r) e).trans (pure_bind _ _)
section
variable {X:Cx} {pins:yF} {σ:St} {H:Hp} {s:Shared}
theorem Zh8 {scope:Scope} {env:Env} {x:Str} (h:scope.names.lookup x=some .free):(relabel scope env).names.lookup x=some .cell\/(relabel scope env).names.lookup x=some .free:=by
 unfold relabel;show List.lookup x (scope.names.map _)=_\/List.lookup x (scope.names.map _)=_;generalize scope.names=l at h
 induction l with
 | nil=>simp at h
 | cons p r ih =>
  obtain ⟨n,k⟩:=p;rw [uX];cases hx:x == n with
  | true =>
   rw [vC,hx] at h;have hk:k=.free:=by simpa using h
   subst hk;by_cases hc:(NameKind.free == NameKind.free && env.scope.kind == .function && env.kindOf n == some .cell)=true
   ·refine .inl ?_;show List.lookup x ((if (NameKind.free == NameKind.free && env.scope.kind == .function && env.kindOf n == some .cell)=true then (n,NameKind.cell) else (n,NameKind.free))::_)=_
    rw [if_pos hc,vC,hx]
   ·refine .inr ?_;show List.lookup x ((if (NameKind.free == NameKind.free && env.scope.kind == .function && env.kindOf n == some .cell)=true then (n,NameKind.cell) else (n,NameKind.free))::_)=_
    rw [if_neg hc,vC,hx]
  | false =>
   rw [vC,hx] at h;have key:∀ q:Str×NameKind,(q=(n,NameKind.cell)\/q=(n,k))->∀ l',List.lookup x (q::l')=List.lookup x l':=λq hq l'=>by
    rcases hq with rfl | rfl <;> rw [vC,hx]
   have hq:(if (k == NameKind.free && env.scope.kind == .function && env.kindOf n == some .cell)=true then (n,NameKind.cell) else (n,k))=(n,NameKind.cell)\/(if (k == NameKind.free && env.scope.kind == .function && env.kindOf n == some .cell)=true then (n,NameKind.cell) else (n,k))=(n,k):=by
    split
    ·exact .inl rfl
    ·exact .inr rfl
   rcases ih h with z | z
   ·exact .inl ((key _ hq _).trans z)
   ·exact .inr ((key _ hq _).trans z)
theorem Zh9 {scope:Scope} {env:Env} {x:Str} (h:(relabel scope env).names.lookup x=some .cell\/(relabel scope env).names.lookup x=some .free):∃ y∈scope.names,y.1=x/\(y.2=.free\/y.2=.cell):=by
 unfold relabel at h;have h':List.lookup x (scope.names.map λ(n,k)=>if (k == .free && env.scope.kind == .function && env.kindOf n == some .cell) then (n,NameKind.cell) else (n,k))=some .cell\/List.lookup x (scope.names.map λ(n,k)=>if (k == .free && env.scope.kind == .function && env.kindOf n == some .cell) then (n,NameKind.cell) else (n,k))=some .free:=h
 clear h;generalize scope.names=l at h'
 induction l with
 | nil=>simp at h'
 | cons p r ih =>
  obtain ⟨n,k⟩:=p;rw [uX] at h';cases hx:x == n with
  | true =>
   have hxn:x=n:=by simpa using hx
   by_cases hk:k=.free
   ·exact ⟨(n,k),vM,hxn.symm,.inl hk⟩
   ·
    have hb:(k == NameKind.free)=false:=by simpa using hk
    have e:(if (k == NameKind.free && env.scope.kind == .function && env.kindOf n == some .cell)=true then (n,NameKind.cell) else (n,k))=(n,k):=by
     rw [hb]
     rfl
    have h2:List.lookup x ((n,k)::r.map λ(n,k)=>if (k == .free && env.scope.kind == .function && env.kindOf n == some .cell) then (n,NameKind.cell) else (n,k))=some .cell\/List.lookup x ((n,k)::r.map λ(n,k)=>if (k == .free && env.scope.kind == .function && env.kindOf n == some .cell) then (n,NameKind.cell) else (n,k))=some .free:=by
     rw [<- e];exact h'
    rw [vC,hx] at h2;rcases h2 with z | z
    ·exact ⟨(n,k),vM,hxn.symm,.inr (vc z)⟩
    ·exact absurd (vc z) hk
  | false =>
   have hq:∀ q:Str×NameKind,(q=(n,NameKind.cell)\/q=(n,k))->∀ l',List.lookup x (q::l')=List.lookup x l':=λq hq l'=>by
    rcases hq with rfl | rfl <;> rw [vC,hx]
   have hqq:(if (k == NameKind.free && env.scope.kind == .function && env.kindOf n == some .cell)=true then (n,NameKind.cell) else (n,k))=(n,NameKind.cell)\/(if (k == NameKind.free && env.scope.kind == .function && env.kindOf n == some .cell)=true then (n,NameKind.cell) else (n,k))=(n,k):=by
    split
    ·exact .inl rfl
    ·exact .inr rfl
   obtain ⟨y,hy,e⟩:=ih (by
    rcases h' with z | z
    ·exact .inl ((hq _ hqq _).symm.trans z)
    ·exact .inr ((hq _ hqq _).symm.trans z))
   exact ⟨y,uP _ hy,e⟩
theorem ZeQ:∀ (names:List (Str×NameKind)) (h:Heap) (acc:List (Str×Addr)),
  (∀ x c,(cellsFrom h.objs.size names acc).lookup x=some c->acc.lookup x=some c\/(h.objs.size<=c/\(pushCells h names).IsCell c none/\(x,NameKind.cell)∈names)) /\
  (∀ x,((x,NameKind.cell)∈names\/∃ c,acc.lookup x=some c)->∃ c,(cellsFrom h.objs.size names acc).lookup x=some c) /\
  (∀ x c,(x,NameKind.cell)∈names->(cellsFrom h.objs.size names acc).lookup x=some c->h.objs.size<=c) /\
  ((∀ x c,acc.lookup x=some c->c < h.objs.size)->(∀ x y c,acc.lookup x=some c->acc.lookup y=some c->x=y)->∀ x y c,(cellsFrom h.objs.size names acc).lookup x=some c->(cellsFrom h.objs.size names acc).lookup y=some c->x=y):=by
 intro names
 induction names with
 | nil=>intro h acc; exact ⟨λx c e=>.inl e,λx e=>by rcases e with e | e; cases e; exact e,λx c e=>(by cases e),λ_ i=>i⟩
 | cons p r ih =>
  obtain ⟨name,kind⟩:=p;intro h acc;unfold cellsFrom pushCells;by_cases hk:kind=.cell
  ·subst hk;have hk':((NameKind.cell == NameKind.cell)=true):=rfl;rw [if_pos hk',if_pos hk'];have ih':=ih (h.push { cls:=.type "cell",data:=.cell none }) ((name,h.objs.size)::acc);rw [vD] at ih';obtain ⟨i1,i2,i4,i3⟩:=ih';refine ⟨λx c e=>?_,λx e=>?_,λx c e1 e2=>?_,λhb hi=>i3 (λx c e=>?_) λx y c e1 e2=>?_⟩
   ·rcases i1 x c e with z | ⟨z1,z2,z3⟩
    ·rw [vC] at z;cases hx:x == name with
     | true =>
      rw [hx] at z;have hxn:x=name:=by simpa using hx
      cases z;exact .inr ⟨uQ _,⟨_,pushCells_keeps _ _ _ _ (uS _ rfl),rfl⟩,by rw [hxn]; exact vM⟩
     | false=>rw [hx] at z; exact .inl z
    ·exact .inr ⟨by omega,z2,uP _ z3⟩
   ·refine i2 x ?_;by_cases hx:x=name
    ·exact .inr ⟨h.objs.size,by rw [vC,hx]; simp⟩
    ·rcases e with e | ⟨c,e⟩
     ·rcases uV.mp e with q | q
      ·exact absurd (congrArg Prod.fst q) hx
      ·exact .inl q
     ·exact .inr ⟨c,by rw [vC,beq_false_of_ne hx]; exact e⟩
   ·rcases i1 x c e2 with z | ⟨z,_,_⟩
    ·rw [vC] at z;cases hx:x == name with
     | true=>rw [hx] at z; cases z; exact uQ _
     | false =>
      have hxn:x≠name:=by simpa using hx
      rcases uV.mp e1 with q | q
      ·exact absurd (congrArg Prod.fst q) hxn
      ·exact xl (i4 x c q e2)
    ·exact xl z
   ·rw [vC] at e;cases hx:x == name with
    | true=>rw [hx] at e; cases e; exact wE _
    | false=>rw [hx] at e; exact ww (hb x c e)
   ·rw [vC] at e1 e2;cases hx:x == name with
    | true =>
     have hxn:x=name:=by simpa using hx
     rw [hx] at e1;cases e1;cases hy:y == name with
     | true =>
      have hyn:y=name:=by simpa using hy
      rw [hxn,hyn]
     | false=>rw [hy] at e2; exact absurd (hb y _ e2) (ve _)
    | false =>
     rw [hx] at e1;cases hy:y == name with
     | true=>rw [hy] at e2; cases e2; exact absurd (hb x _ e1) (ve _)
     | false=>rw [hy] at e2; exact hi x y c e1 e2
  ·have hk':¬ ((kind == NameKind.cell)=true):=by simpa using hk
   rw [if_neg hk',if_neg hk'];obtain ⟨i1,i2,i4,i3⟩:=ih h acc;refine ⟨λx c e=>?_,λx e=>i2 x ?_,λx c e1 e2=>?_,i3⟩
   ·rcases i1 x c e with z | ⟨z1,z2,z3⟩
    ·exact .inl z
    ·exact .inr ⟨z1,z2,uP _ z3⟩
   ·rcases e with e | e
    ·rcases uV.mp e with q | q
     ·exact absurd (congrArg Prod.snd q).symm hk
     ·exact .inl q
    ·exact .inr e
   ·rcases uV.mp e1 with q | q
    ·exact absurd (congrArg Prod.snd q).symm hk
    ·exact i4 x c q e2
theorem Zaf {M:Model} {A:Around} {E:yw} {s:Shared} {scope:Scope} {globals:Addr} {cl:List (Str×Addr)} {qual:Str} {outer:Env} {Q:Env->Shared->Prop}
  (h:Q { scope:=scope,locals:=s.heap.objs.size,globals:=globals,cells:=cellsFrom (s.heap.objs.size+1) scope.names cl,qual:=qual,func:=none,code:=outer.code,frame:=outer.frame,builtins:=outer.builtins } { s with heap:=pushCells (s.heap.push { cls:=.type "dict",data:=.dict #[] }) scope.names }) :
  wpAny M A (newFunctionEnv scope globals cl [] qual none .none (some outer)) Q E s:=by
 simp only [newFunctionEnv,Option.isSome_some,if_true];refine wpAny_bind (wpAny_alloc ?_);refine wpAny_bind (wpAny_layCells _ (λname kind cells=>by cases hkc:kind == NameKind.cell <;> simp [hkc]) _ _ _ _ ?_)
 rw [show ({ s with heap:=s.heap.push { cls:=.type "dict",data:=.dict #[] } }:Shared).heap.objs.size=s.heap.objs.size+1 from vD ..]
 rw [xH];exact wpAny_bind (wpAny_pure (wpAny_pure h))
theorem ZpT {Nx ts:yA} {ix:List Nat} {i:Nat} {x:Str} (h:(bN Nx ts ix)[i]?=some x) (hi:ts.length<=i):∃ j,ix[i - ts.length]?=some j/\x=(Nx[j]?).getD Str.empty:=by
 unfold bN at h;rw [vA hi,uT] at h;cases e:ix[i - ts.length]? with
 | none=>rw [e] at h; cases h
 | some j=>rw [e] at h; exact ⟨j,rfl,(vc h).symm⟩
theorem ZdF {scope:Scope} {cl:List (Str×Addr)} {fp:List Addr} {C:Addr} {h3:Heap} {tk:Nat} {m:yC} {Nx ts:yA} {ix:List Nat}
  (I:Inv X pins σ H s) (hNx:X.N=Nx) (ok:BlkOk Nx X.env.scope scope ix) (cs1:∀ x c,cl.lookup x=some c->X.env.cells.lookup x=some c\/(C < c/\h3.IsCell c none/\(x,NameKind.cell)∈scope.names)) (csI:∀ x y c,cl.lookup x=some c->cl.lookup y=some c->x=y) (cl2:∀ y∈scope.names,(y.2=.free\/y.2=.cell)->∃ c,cl.lookup y.1=some c) (csA:∀ x c,(x,NameKind.cell)∈scope.names->cl.lookup x=some c->C<=c)
  (hf:∀ b∈fp,fO X pins H b) (hfs:∀ b∈fp,b < s.heap.objs.size) (hC:s.heap.objs.size<=C) (kp:∀ b o,s.heap.get? b=some o->h3.get? b=some o) (hns:h3.Ns C m) :
  Inv (bQ X (bN Nx ts ix) scope ⟨cl,C,s,H,fp,X.pn++pins⟩) [] (dB ts.length ix σ) H { s with heap:=h3,toks:=tk }:=by
 have below:∀ {b:Addr},b < s.heap.objs.size->b≠C:=λhb=>u9 (uU hb hC);have nstk:∀ b,b≠X.env.locals->b ∉ X.fs->b ∉ frs X.stack:=λb h1 h2 hb=>by
  rcases uV.mp (I.stkSub b hb) with z | z
  ·exact h1 z
  ·exact h2 z
 refine ⟨⟨I.ok.mod,?_,I.ok.glob,I.ok.blt,hC,csI,λx hx=>?_,λx c hfn e=>u8 hC (csA x c (vx (eq_of_beq hfn)) e),I.ok.hd,I.ok.frames,.inl rfl,λb hb=>⟨below (hfs b hb),λx c e=>by
  rcases cs1 x c e with z | ⟨z,_,_⟩
  ·exact (hf b hb).2.2.2.2.1 x c z
  ·exact vO (uU (hfs b hb) (u8 hC (wJ z)))⟩,I.bs,u8 I.ok.bsz I.sz,λb o e hb=>?_,λb hb=>nstk b (hf b hb).2.1 (hf b hb).2.2.1,I.stack,I.stkFree⟩,
  rfl,I.bare,Un.kept kp,⟨m,hns,λi x v h1 h2 h3'=>?_⟩,λx c e=>?_,I.hok.fresh hC,λx c e=>by
  rcases cs1 x c e with z | ⟨z,_,_⟩
  ·exact I.freeC x c z
  ·exact I.hok.fresh (u8 hC (wJ z)),λp hp=>?_,I.hok.kept kp,?_⟩
 ·exact ok.kind
 ·have hx':(relabel scope X.env).names.lookup x=some .cell\/(relabel scope X.env).names.lookup x=some .free:=hx;obtain ⟨y,hy,e1,e2⟩:=Zh9 hx';obtain ⟨c,hc⟩:=cl2 y hy e2;exact ⟨c,by rw [<- e1]; exact hc⟩
 ·rcases (hf b hb).2.2.2.1 with z | z
  ·exact I.ok.noex b o e z
  ·exact absurd (uU (uY e) (u8 I.ok.bsz z)) (ve _)
 ·have hi:ts.length<=i:=by
   rcases Nat.lt_or_ge i ts.length with z | z
   ·exfalso;have h2':(dB ts.length ix σ)[i]?=some (some v):=h2;unfold dB at h2';rw [vp (by simpa using z),vn] at h2'
    split at h2' <;> cases h2'
   ·exact z
  obtain ⟨j,hj,ex⟩:=ZpT h1 hi;have h2':(dB ts.length ix σ)[i]?=some (some v):=h2;unfold dB at h2';rw [vA (by simpa using hi),uT,vE,hj] at h2'
  have hσ:σ[j]?=some (some v):=by
   have q:(σ[j]?).getD none=some v:=vc h2';cases e:σ[j]? with
   | none=>rw [e] at q; cases q
   | some w=>rw [e] at q; exact congrArg some q
  obtain ⟨hjl,hfree⟩:=ok.caps j (vY hj);have hNj:X.N[j]?=some x:=by
   rw [hNx,ex,vd hjl]
   rfl
  rw [<- ex] at hfree;obtain ⟨c,hc⟩:=cl2 (x,.free) (vx hfree) (.inl rfl);have cl1:X.env.cells.lookup x=some c:=by
   rcases cs1 x c hc with z | ⟨_,_,z⟩
   ·exact z
   ·have:=ok.cells _ z rfl;rw [hfree] at this;cases this
  have kx:=ok.frees (x,.free) (vx hfree) rfl;obtain ⟨m0,hn0,hl0⟩:=I.loc;obtain ⟨u,ru,look⟩:=hl0 j x v hNj hσ (by rcases kx with z | z; exact .inr (.inl z); exact .inr (.inr z))
  refine ⟨u,ru,.inr ⟨Zh8 hfree,c,hc,?_⟩⟩;rcases look with ⟨k1,_⟩ | ⟨_,c',hc',z⟩
  ·have k1':X.env.scope.names.lookup x=some .local:=k1;rcases kx with z | z
   ·rw [k1'] at z; cases z
   ·rw [k1'] at z; cases z
  ·have e:=cl1;rw [hc'] at e;cases e;obtain ⟨o,ho,hd⟩:=z;exact ⟨o,kp _ _ ho,hd⟩
 ·rcases cs1 x c e with z | ⟨_,z,_⟩
  ·obtain ⟨v,o,ho,hd⟩:=I.cell x c z;exact ⟨v,o,kp _ _ ho,hd⟩
  ·exact ⟨_,z⟩
 ·have hp':p∈X.pn++pins:=by simpa [bQ] using hp
  obtain ⟨e,n,ne,nf,d⟩:=I.pin p hp';exact ⟨kp _ _ e,n,below (uY e),nstk _ ne nf,d⟩
 ·show (dB ts.length ix σ).length=(bN Nx ts ix).length;unfold dB bN;simp
theorem Inv.track {D:Addr} {ys:yB} {its:yz} {n:Nat} (I:Inv X pins σ H s) (hD:H D=none) (ho:s.heap.get? D=some { cls:=.type "list",data:=.seq its.toArray n }) (r:Vals ys its) (hz:ys.length<=sizeLine)
  (hL:D≠X.env.locals) (hs0:X.s₀.heap.objs.size<=D) (hc:∀ x c,X.env.cells.lookup x=some c->c≠D) (hp:∀ p∈X.pn++pins,p.1≠D):Inv X pins σ (upd H D (.lst ys)) s:=by
 have ne:∀ {b:Addr} {o:HO},H b=some o->b≠D:=λe=>bS e hD;refine I.step (g':=s.gens) (d':=s.drawn) (t':=s.toks) (h':=s.heap) (ch:=[D]) (λb hb=>?_) (λb o _ _ _ e _=>e) (λb o _ _ _ e _=>⟨o.slots,e⟩) (λb o hb e n=>?_) (λb o _ e=>⟨o,e⟩)
  (λb xs e=>by rw [ap (ne e)]; exact e) (λb o u e=>by rw [ap (ne e)]; exact e) (λb ps e=>⟨#[],by rw [ap (ne e),e]; simp⟩) (λm hm=>hm) (λb u e=>?_) I.bare
 ·have e:b=D:=by simpa using hb
  subst e;exact ⟨.inr hs0,hL,hc,hp⟩
 ·have hb':b≠D:=by simpa using hb
  rw [ap hb'];exact n
 ·by_cases hb:b=D
  ·subst hb;rw [bq] at e;cases e;exact ⟨hz,its,n,r,ho⟩
  ·rw [ap hb] at e;exact (I.hok b u e).stay (λc v _ q=>q) (λc q=>by rw [ap (ne q)]; exact q) (λc xs q=>by rw [ap (ne q)]; exact q) λc ob xs _ q _=>by rw [ap (ne q)]; exact q
end
theorem Zo1 {prog:Program} {w:World} {A:Around} {R:Result->Shared->Prop} {s:Shared} {elt target iter:Expr} {scope:Scope} {pos:Pos} {it acc:Value} {env:Env} (J:Nat->Shared->Prop)
  (step:∀ k s0,J k s0->wpAny (model prog w) A (pyNext it) (λgot s1=>match got with
   | none=>R (.ok .next) s1
   | some v=>wpAny (model prog w) A (letOwnedTupleGo target it v) (λ_ s2=>wpAny (model prog w) A (assign target env v) (λ_ s3=>wpAny (model prog w) A (eval elt env) (λy s4 =>
     wpAny (model prog w) A (call (.builtin "list.append") [acc,y]) (λ_ s5=>∃ j,j < k/\J j s5) (λ_ _=>False) s4) (λ_ _=>False) s3) (λ_ _=>False) s2) (λ_ _=>False) s1) (λ_ _=>False) s0)
  (k:Nat) (h:J k s):codeAny (model prog w) A (.compLoop (.ListComp elt [⟨target,iter,[],0⟩] scope pos) 0 it acc env) R s:=by
 refine codeAny_loop rfl J (λk0 s0 hJ=>?_) k h;show wpAny _ _ ((compTurn (.ListComp elt [⟨target,iter,[],0⟩] scope pos) 0 it acc env).onRaise (λx=>do noteFrame x env; theTreesLotGoes x)) _ _ s0
 apply wpAny_noted;rw [compTurn_list1];refine wpAny_bind (wpAny_standAt (wpAny_bind (wpAny_mono (step k0 s0 hJ) (λgot s1 h1=>?_) λ_ _ z=>z.elim)));cases got with
 | none=>exact wpAny_pure h1
 | some v =>
  refine wpAny_bind (wpAny_mono h1 (λ_ s2 h2=>?_) λ_ _ z=>z.elim);refine wpAny_bind (wpAny_mono h2 (λ_ s3 h3=>?_) λ_ _ z=>z.elim);refine wpAny_bind (wpAny_bind (wpAny_mono h3 (λy s4 h4=>?_) λ_ _ z=>z.elim));exact wpAny_bind (wpAny_mono h4 (λ_ s5 h5=>wpAny_pure (wpAny_pure ⟨rfl,h5⟩)) λ_ _ z=>z.elim)
def kX (wi:TI) (n:Nat) (ix:List Nat) (g:Blk->TG) (te:Blk->TE):TE:=λσ H Q=>wi σ H λJ H1=>∀ b:Blk,∃ W:Nat->Nat->St->List V->Hp->Prop,(∃ m,W 0 m (dB n ix σ) [] H1)/\∀ i m τ ys H2,W i m τ ys H2 ->
 (J.stop i H2/\∀ p v H',H2 p=none->v=V.ref p->H'=upd H2 p (.lst ys)->Q v H') \/
 (J.go i H2/\ys.length < sizeLine/\∀ x H3,J.yld i H2 x H3->g b x τ H3 λτ2 H4=>te b τ2 H4 λy H5=>∃ m',m' < m/\W (i+1) m' τ2 (ys++[y]) H5)
section
variable {X:Cx} {pins:yF} {σ:St} {H:Hp} {s:Shared}
theorem Zdq {elt target iter:Expr} {scope:Scope} {pos:Pos} {Nx ts:yA} {ix:List Nat} {g:Blk->TG} {te:Blk->TE} {cl:List (Str×Addr)} {s2:Shared} {itv:Value} {R:Value->Addr->Result->Shared->Prop}
  {E:yw} {Q:VK}
  (hc:X.calm=true) (hg:∀ b,PG (bQ X (bN Nx ts ix) scope b) target (g b)) (he:∀ b,PE (bQ X (bN Nx ts ix) scope b) elt (te b))
  (hNx:X.N=Nx) (ok:BlkOk Nx X.env.scope scope ix) (cl1:∀ x c,cl.lookup x=some c->X.env.cells.lookup x=some c) (cl2:∀ y∈scope.names,y.2=.free->∃ c,cl.lookup y.1=some c)
  (h2:pU X pins σ target (λJ H1=>∀ b:Blk,∃ W:Nat->Nat->St->List V->Hp->Prop,(∃ m,W 0 m (dB ts.length ix σ) [] H1)/\∀ i m τ ys H2,W i m τ ys H2 ->
   (J.stop i H2/\∀ p v H',H2 p=none->v=V.ref p->H'=upd H2 p (.lst ys)->Q v H') \/
   (J.go i H2/\ys.length < sizeLine/\∀ x H3,J.yld i H2 x H3->g b x τ H3 λτ2 H4=>te b τ2 H4 λy H5=>∃ m',m' < m/\W (i+1) m' τ2 (ys++[y]) H5)) itv s2)
  (hR:∀ (D C:Addr) (H':Hp) (s':Shared) (v:V),Inv X pins σ H' s'->v=.ref D->Q v H'->(∃ m,s'.heap.Ns C m)->H' C=none->C≠X.env.locals->X.s₀.heap.objs.size<=C->(∀ x c,X.env.cells.lookup x=some c->c≠C)->(∀ p∈X.pn++pins,p.1≠C) ->
   R (.ref D) C (.ok .next) s') :
  wpAny (model X.prog X.w) X.A (newList []) (λacc s₃=>wpAny (model X.prog X.w) X.A (newFunctionEnv scope X.env.globals cl [] X.env.qual none .none (some X.env)) (λcenv s₄ =>
   codeAny (model X.prog X.w) X.A (.compStart (.ListComp elt [⟨target,iter,[],0⟩] scope pos) 0 itv acc { cenv with scope:=relabel scope X.env }) (R acc cenv.locals) s₄) E s₃) E s2:=by
 obtain ⟨it,fp,tn,J,H1,e,I2,T,st2,f2,q2⟩:=h2;subst e;refine wpAny_newObj_type (Zaf ?_);dsimp only;generalize hG:s2.heap.push { cls:=.type "list",dict:=none,data:=.seq ([]:yz).toArray }=G;have hGs:G.objs.size=s2.heap.objs.size+1:=by rw [<- hG,vD]
 have hfs:∀ b∈fp,b < s2.heap.objs.size:=λb hb=>let ⟨o,e,_⟩:=T.obj _ _ st2 b hb; uY e
 have kpG:∀ b o,G.get? b=some o->(pushCells (G.push { cls:=.type "dict",data:=.dict #[] }) scope.names).get? b=some o:=λb o e=>pushCells_keeps _ _ _ _ (uN _ e);have hns3:(pushCells (G.push { cls:=.type "dict",data:=.dict #[] }) scope.names).Ns G.objs.size (λ_=>none):=(Heap.Ns.new G (.type "dict")).keeps (pushCells_keeps _ _);obtain ⟨sp1,sp2,sp4,sp3⟩:=ZeQ scope.names (G.push { cls:=.type "dict",data:=.dict #[] }) cl;rw [vD] at sp1 sp2 sp3 sp4;generalize hh3:pushCells (G.push { cls:=.type "dict",data:=.dict #[] }) scope.names=h3 at kpG hns3 sp1 ⊢;have kp:∀ b o,s2.heap.get? b=some o->h3.get? b=some o:=λb o e=>kpG b o (by rw [<- hG]; exact uN _ e)
 have hD3:h3.get? s2.heap.objs.size=some { cls:=.type "list",data:=.seq ([]:yz).toArray }:=kpG _ _ (by rw [<- hG]; exact uS _ rfl)
 have clB:∀ x c,cl.lookup x=some c->c < G.objs.size+1:=λx c e=>by
  obtain ⟨v,q⟩:=I2.cell x c (cl1 x c e);exact ww (uU q.lt (by rw [hGs]; exact Nat.le_succ _))
 have csI:=sp3 clB λx y c e1 e2=>I2.ok.inj x y c (cl1 x c e1) (cl1 y c e2);have cs1:∀ x c,(cellsFrom (G.objs.size+1) scope.names cl).lookup x=some c->X.env.cells.lookup x=some c\/(G.objs.size < c/\h3.IsCell c none/\(x,NameKind.cell)∈scope.names):=λx c e=>by
  rcases sp1 x c e with z | ⟨z1,z2,z3⟩
  ·exact .inl (cl1 x c z)
  ·exact .inr ⟨by omega,z2,z3⟩
 have cs2:∀ y∈scope.names,(y.2=.free\/y.2=.cell)->∃ c,(cellsFrom (G.objs.size+1) scope.names cl).lookup y.1=some c:=λy hy hk=>by
  refine sp2 y.1 ?_;rcases hk with z | z
  ·exact .inr (cl2 y hy z)
  ·exact .inl (by rw [<- z]; exact hy)
 have csA:∀ x c,(x,NameKind.cell)∈scope.names->(cellsFrom (G.objs.size+1) scope.names cl).lookup x=some c->G.objs.size<=c:=λx c e1 e2=>xl (sp4 x c e1 e2);generalize hcs:cellsFrom (G.objs.size+1) scope.names cl=cs at csI cs1 cs2 csA ⊢;generalize hCe:G.objs.size=C at hns3 cs1 csA ⊢;have hC:s2.heap.objs.size<=C:=by omega
 have hDC:s2.heap.objs.size≠C:=by omega
 let B:Blk:=⟨cs,C,s2,H1,fp,X.pn++pins⟩
 have I3:Inv (bQ X (bN Nx ts ix) scope B) [] (dB ts.length ix σ) H1 { s2 with heap:=h3 }:=ZdF I2 hNx ok cs1 csI cs2 csA f2 hfs hC kp hns3;have fC:H1 s2.heap.objs.size=none:=I2.hok.fresh (uQ _);have cellIn:∀ x c,cs.lookup x=some c->c≠s2.heap.objs.size:=λx c e=>by
  rcases cs1 x c e with z | ⟨z,_,_⟩
  ·obtain ⟨v,q⟩:=I2.cell x c z;exact u9 q.lt
  ·exact vO (wM hC z)
 have pinIn:∀ p∈X.pn++pins,p.1 < s2.heap.objs.size:=λp hp=>uY (I2.pin p hp).1;have nofrs:s2.heap.objs.size ∉ frs X.stack:=λhb=>by
  rcases uV.mp (I2.stkSub _ hb) with z | z
  ·exact absurd I2.lt (by rw [<- z]; exact ve _)
  ·exact I2.nofs (uQ _) z
 -- a state with the list at its place,pinned
 have pinD:∀ {τ:St} {H':Hp} {s':Shared} {ob:Obj},Inv (bQ X (bN Nx ts ix) scope B) [] τ H' s'->s'.heap.get? s2.heap.objs.size=some ob->H' s2.heap.objs.size=none->(∀ v,ob.data≠.cell v)->Inv (bQ X (bN Nx ts ix) scope B) [(s2.heap.objs.size,ob)] τ H' s' :=
  λ{τ H' s' ob} I' ho hn hd=>I'.pins_of λp hp=>by
   have e:p=(s2.heap.objs.size,ob):=by simpa using hp
   subst e;exact ⟨ho,hn,hDC,nofrs,hd⟩
 obtain ⟨W,⟨m0,w0⟩,turn⟩:=q2 B;have stat:∀ {H':Hp} {ob:Obj},(∀ b∈fp,H' b=none)->∀ b∈fp,fO (bQ X (bN Nx ts ix) scope B) [(s2.heap.objs.size,ob)] H' b:=λ{H' ob} hn b hb=>by
  refine ⟨hn b hb,u9 (uU (hfs b hb) hC),λz=>?_,.inl hb,λx c e=>by
   rcases cs1 x c e with z | ⟨z,_,_⟩
   ·exact (f2 b hb).2.2.2.2.1 x c z
   ·exact vO (uU (hfs b hb) (u8 hC (wJ z))),λp hp=>?_⟩
  ·rcases uV.mp (I2.stkSub _ z) with q | q
   ·exact (f2 b hb).2.1 q
   ·exact (f2 b hb).2.2.1 q
  ·rcases vV.mp hp with z | z
   ·exact (f2 b hb).2.2.2.2.2 p z
   ·have e:p=(s2.heap.objs.size,ob):=by simpa using z
    subst e;exact vO (hfs b hb)
 have loop:∀ s4:Shared,s4={ s2 with heap:=h3 } ->
   codeAny (model X.prog X.w) X.A (.compLoop (.ListComp elt [⟨target,iter,[],0⟩] scope pos) 0 (.ref it) (.ref s2.heap.objs.size) (compEnvC scope cs C X.env)) (R (.ref s2.heap.objs.size) C) s4:=by
  rintro s4 rfl;refine Zo1 (λk s'=>∃ i τ ys its n H',Inv (bQ X (bN Nx ts ix) scope B) [(s2.heap.objs.size,({ cls:=.type "list",data:=.seq (List.toArray its) n }:Obj))] τ H' s'/\tn i s'.heap/\(∀ b∈fp,H' b=none)/\Vals ys its/\ys.length<=sizeLine/\W i k τ ys H') ?_ m0
   ⟨0,_,[],[],_,H1,pinD I3 hD3 fC (λv z=>by cases z),T.keep _ _ _ st2 λb hb o e=>kp b o e,λb hb=>(f2 b hb).1,.nil,wf _,w0⟩
  rintro k s5 ⟨i,τ,ys,its,n,H5,I5,st5,fr5,rv,hz,w5⟩;rcases turn i k τ ys H5 w5 with ⟨stop,qn⟩ | ⟨go,hlt,step⟩
  ·refine thn (T.done (bQ X (bN Nx ts ix) scope B) rfl rfl rfl hc i _ s5 τ H5 _ I5 (stat fr5) st5 stop) λgot s6 hz0=>?_;obtain ⟨hr,I6⟩:=hz0;subst hr;obtain ⟨ho,hn,_,_,_⟩:=I6.pin (s2.heap.objs.size,({ cls:=.type "list",data:=.seq (List.toArray its) n }:Obj)) (u4 _ (by simp))
   have I7:Inv X pins σ H5 s6:=I2.call' (ch:=fp) (H':=H5) (by exact I6.os) I6.base I6.hok I6.bare λb hb=>⟨(f2 b hb).2.2.2.1,(f2 b hb).2.1,(f2 b hb).2.2.2.2.1,(f2 b hb).2.2.2.2.2⟩
   have hs0:X.s₀.heap.objs.size<=s2.heap.objs.size:=I2.sz;have I8:=I7.track hn ho rv hz (vO I2.lt) hs0 (λx c e z=>by
    obtain ⟨v,q⟩:=I2.cell x c e;exact absurd q.lt (by rw [z]; exact ve _)) (λp hp=>u9 (pinIn p hp))
   obtain ⟨m6,hm6,_⟩:=I6.loc;refine hR _ C _ s6 _ I8 rfl (qn _ _ _ hn rfl rfl) ⟨m6,hm6⟩ ?_ (λz=>?_) (u8 hs0 hC) (λx c e z=>?_) λp hp=>u9 (uU (pinIn p hp) hC)
   ·rw [ap (Ne.symm hDC)];exact I6.free
   ·exact absurd (uU I2.lt hC) (by rw [z]; exact ve _)
   ·obtain ⟨v,q⟩:=I2.cell x c e;exact absurd (uU q.lt hC) (by rw [z]; exact ve _)
  ·refine thn (T.item (bQ X (bN Nx ts ix) scope B) rfl rfl rfl hc i _ s5 τ H5 _ I5 (stat fr5) st5 go) λgot s6 hz0=>?_;obtain ⟨u,hr,h6⟩:=hz0;subst hr;refine thn h6 λ_ s7 hz0=>?_;obtain ⟨x,H7,I7,r7,y7,st7,fr7⟩:=hz0;have I7':=I7.pinned (stat fr7) (T.obj _ _ st7);refine thn (hg B _ s7 τ H7 x u _ I7' r7 (step x H7 y7)) λ_ s8 hz0=>?_;obtain ⟨τ8,H8,I8,q8⟩:=hz0;refine thn (he B _ s8 τ8 H8 _ I8 q8) λy s9 hz0=>?_;obtain ⟨vy,H9,I9,r9,m',hm',w9⟩:=hz0;obtain ⟨ho,hn,_,_,_⟩:=I9.pin (s2.heap.objs.size,({ cls:=.type "list",data:=.seq (List.toArray its) n }:Obj)) (u4 _ (wD _ (by simp)))
   have lenv:=rv.length;refine wpAny_list_append_plain (l:=s2.heap.objs.size) ⟨n,ho⟩ (λh' hpl hsb=>?_) (by rw [uW]; omega)
   obtain ⟨n',ho'⟩:=hpl;have eobj:(its.toArray.push y)=List.toArray (its++[y]):=by simp
   rw [eobj] at ho';have I9':Inv (bQ X (bN Nx ts ix) scope B) [] τ8 H9 s9:=I9.pins_of λp hp=>absurd hp (by simp)
   have I10:Inv (bQ X (bN Nx ts ix) scope B) [] τ8 H9 { s9 with heap:=h' }:=I9'.turned (it:=s2.heap.objs.size) (t':=s9.toks) (λb o hb e=>(hsb.2 b hb).trans e) hn hDC (.inr (uQ _)) cellIn (λp hp=>by
    have hp':p∈(X.pn++pins)++[]:=hp;rw [vo] at hp';exact u9 (pinIn p hp'))
   refine ⟨m',hm',i+1,τ8,ys++[vy],its++[y],n',H9,pinD I10 ho' hn (λv z=>by cases z),?_,λb hb=>?_,rv.append (.cons r9 .nil),by rw [vF]; show ys.length+1<=_; omega,w9⟩
   ·refine T.keep _ _ _ st7 λb hb o e=>?_;have q:=(I9.pin (b,o) (u4 _ (u4 _ (iz hb e)))).1;exact (hsb.2 b (u9 (hfs b hb))).trans q
   ·obtain ⟨o,e,d⟩:=T.obj _ _ st7 b hb;exact (I9.pin (b,o) (u4 _ (u4 _ (iz hb e)))).2.1
 exact codeAny_compStart_list (loop _ rfl) (T.self X.A 0 _ _ _ (T.keep _ _ _ st2 λb hb o e=>kp b o e) (loop _ rfl))
theorem eX {elt target iter:Expr} {scope:Scope} {pos:Pos} {wi:TI} {g:Blk->TG} {te:Blk->TE} (Nx:yA) (ts:yA) (ix:List Nat)
  (hc:X.calm=true) (hi:PI X target iter wi) (hg:∀ b,PG (bQ X (bN Nx ts ix) scope b) target (g b)) (he:∀ b,PE (bQ X (bN Nx ts ix) scope b) elt (te b))
  (hNx:X.N=Nx) (ok:BlkOk Nx X.env.scope scope ix) (hs:∀ x,foldedSetIterable iter X.env x=pure x:=by intro _; rfl) :
  PE X (.ListComp elt [⟨target,iter,[],0⟩] scope pos) (kX wi ts.length ix g te):=by
 intro pins s σ H Q I h;obtain ⟨cl,hcl,cl1,cl2⟩:=o8 (scope:=scope) (env:=X.env) λy hy hf=>I.ok.has y.1 (ok.frees y hy hf);rw [eval_ListComp];refine wpAny_comprehension_free (use:=none) rfl hs hcl ok.kind ok.locs (thn (hi pins s σ H _ I h) λv s1 h1=>thn h1 λitv s2 h2=>?_);refine Zdq (R:=λacc C=>compPost (model X.prog X.w) X.A X.xe none (EP X pins σ Q) acc C) hc hg he hNx ok cl1 cl2 h2 ?_;rintro D C H' s' v I' rfl q ⟨m,hm⟩ hn hL h0 hcl' hp;exact ⟨m,hm,λh' hsb=>⟨.ref D,H',I'.turned (it:=C) (t':=s'.toks) (λb o hb e=>(hsb.2 b hb).trans e) hn hL (.inr h0) hcl' hp,rfl,q⟩⟩
theorem Zcs {elt target iter:Expr} {scope:Scope} {pos pos' spos:Pos} {wi:TI} {g:Blk->TG} {te:Blk->TE} {i:Nat} {x:Str} (Nx:yA) (ts:yA) (ix:List Nat)
  (hc:X.calm=true) (hN:X.N.Nodup) (hix:X.N[i]?=some x) (hx:X.env.scope.names.lookup x=some .local) (hi:PI X target iter wi) (hg:∀ b,PG (bQ X (bN Nx ts ix) scope b) target (g b)) (he:∀ b,PE (bQ X (bN Nx ts ix) scope b) elt (te b))
  (hNx:X.N=Nx) (ok:BlkOk Nx X.env.scope scope ix) (hsw:swapsWith (.ListComp elt [⟨target,iter,[],0⟩] scope pos) (some (.Name x pos')) spos.line X.env=pure true) (hs:∀ x,foldedSetIterable iter X.env x=pure x:=by intro _; rfl) :
  PS X (.Assign [.Name x pos'] (.ListComp elt [⟨target,iter,[],0⟩] scope pos) spos) (ft (kX wi ts.length ix g te) (gj i)):=by
 intro pins s σ H D0 I h;obtain ⟨cl,hcl,cl1,cl2⟩:=o8 (scope:=scope) (env:=X.env) λy hy hf=>I.ok.has y.1 (ok.frees y hy hf);rw [exec_Assign_Name_used _ _ _ _ hsw];refine wpAny_bind (wpAny_standAt (wpAny_bind ?_));show wpAny _ X.A (do let _ <- comprehension (.ListComp elt [⟨target,iter,[],0⟩] scope pos) scope X.env _ (newList []) false (eval iter X.env) (some (assign (.Name x pos') X.env))) _ _ s
 refine wpAny_bind (thn (wpAny_comprehension_free (use:=some (assign (.Name x pos') X.env)) (Q:=λ_ s'=>SP X pins D0 .next s') rfl hs hcl ok.kind ok.locs (thn (hi pins s σ H _ I h) λv s1 h1=>thn h1 λitv s2 h2=>?_)) λ_ s' hq=>wpAny_pure (wpAny_pure hq));refine Zdq (R:=λacc C=>compPost (model X.prog X.w) X.A X.xe (some (assign (.Name x pos') X.env)) (λ_ s'=>SP X pins D0 .next s') acc C) (Q:=λx H1=>gj i x σ H1 D0.nx) hc hg he hNx ok cl1 cl2 h2 ?_;rintro D C H' s' v I' rfl q ⟨m,hm⟩ hn hL h0 hcl' hp;show wpAny _ X.A (assign (.Name x pos') X.env (.ref D)) _ _ _;refine wpAny_assign_Name (ZaU I' hN hix (.inl hx) (show RelV (.ref D) (.ref D) from rfl) (λs'' I'' hch=>?_) (.inr hx))
 obtain ⟨a,hsb,ha⟩:=hch;have haC:C≠a:=by
  rcases ha with z | z
  ·rw [z]; exact hL
  ·exact λe=>hcl' _ _ z e.symm
 exact ⟨m,hm.sameBut hsb haC,λh'' hs''=>⟨_,H',I''.turned (it:=C) (t':=s''.toks) (λb o hb e=>(hs''.2 b hb).trans e) hn hL (.inr h0) hcl' hp,q⟩⟩
end
mutual
/-- the value bears the datum -/
inductive Dn (H:Hp):V->PyData->Prop
 | non:Dn H .non .none
 | bl (b:Bool):Dn H (.bl b) (.bool b)
 | int (i:Int):Dn H (.int i) (.int i)
 | str (x:Str):Dn H (.str x) (.str x)
 | tup {a:Addr} {xs:yB} {ds:yx}:H a=some (.tup xs)->DnAll H xs ds->Dn H (.ref a) (.tuple ds)
 | lst {a:Addr} {xs:yB} {ds:yx}:H a=some (.lst xs)->DnAll H xs ds->Dn H (.ref a) (.list ds)
 | dct {a:Addr} {ks:List (aD×V)} {ds:yx}:Rd H a (.dK ks)->DnAll H (ks.map (·.2)) ds->Dn H (.ref a) (.dict ((ks.map λk=>match k.1 with | .inl i=>PyData.int i | .inr x=>PyData.str x).zip ds))
inductive DnAll (H:Hp):List V->List PyData->Prop
 | nil:DnAll H [] []
 | cons {v:V} {vs:yB} {d:PyData} {ds:yx}:Dn H v d->DnAll H vs ds->DnAll H (v::vs) (d::ds)
end
mutual
theorem Dn.mono {H H':Hp} (e:∀ b o,H b=some o->H' b=some o):∀ {v:V} {d:PyData},Dn H v d->Dn H' v d
 | _,_,.non=>.non
 | _,_,.bl b=>.bl b
 | _,_,.int i=>.int i
 | _,_,.str x=>.str x
 | _,_,.tup h r=>.tup (e _ _ h) (DnAll.mono e r)
 | _,_,.lst h r=>.lst (e _ _ h) (DnAll.mono e r)
 | _,_,.dct h r=>.dct (h.imp (e _ _) λ⟨o,h⟩=>⟨o,e _ _ h⟩) (DnAll.mono e r)
theorem DnAll.mono {H H':Hp} (e:∀ b o,H b=some o->H' b=some o):∀ {vs:yB} {ds:yx},DnAll H vs ds->DnAll H' vs ds
 | _,_,.nil=>.nil
 | _,_,.cons r t=>.cons (Dn.mono e r) (DnAll.mono e t)
end
theorem DnAll.ints {H:Hp}:∀ ns:yy,DnAll H (ns.map V.int) (ns.map PyData.int)
 | []=>.nil
 | n::ns=>.cons (.int n) (DnAll.ints ns)
theorem DnAll.length {H:Hp} {vs:yB} {ds:yx} (h:DnAll H vs ds):vs.length=ds.length:=by
 induction vs generalizing ds with
 | nil=>cases h; rfl
 | cons v vs ih=>cases h with | cons r t=>exact congrArg (·+1) (ih t)
theorem DnAll.append {H:Hp} {vs ws:yB} {ds es:yx} (h:DnAll H vs ds) (s:DnAll H ws es):DnAll H (vs++ws) (ds++es):=by
 induction vs generalizing ds with
 | nil=>cases h; exact s
 | cons v vs ih=>cases h with | cons r t=>exact .cons r (ih t)
mutual
/-- data without dicts -/
theorem Dn.reads {P:Program} {w:World} {H:Hp} {h:Heap} (ok:HOk P w H h):∀ {v:V} {d:PyData} {u:Value},Dn H v d->d.hasDict=false->RelV v u->∃ as,Reads h u d as
 | _,_,_,.non,_,r=>by cases r; exact ⟨_,.none⟩
 | _,_,_,.bl b,_,r=>by cases r; exact ⟨_,.bool b⟩
 | _,_,_,.int i,_,r=>by obtain ⟨t,rfl⟩:=r; exact ⟨_,.int i t⟩
 | _,_,_,.str x,_,r=>by obtain ⟨t,rfl⟩:=r; exact ⟨_,.str x t⟩
 | _,_,_,.tup e rs,hd,r=>by
  cases r;obtain ⟨z,its,rv,o,h1,h2,n,h3⟩:=ok _ _ e;obtain ⟨as,q⟩:=DnAll.reads ok rs (by simpa [PyData.hasDict] using hd) rv
  exact ⟨_,.tuple h1 h2 h3 (by simpa using q)⟩
 | _,_,_,.lst e rs,hd,r=>by
  cases r;obtain ⟨z,its,n,rv,h1⟩:=ok _ _ e;obtain ⟨as,q⟩:=DnAll.reads ok rs (by simpa [PyData.hasDict] using hd) rv
  exact ⟨_,.list h1 rfl rfl (by simpa using q)⟩
 | _,_,_,.dct e rs,hd,r=>by simp [PyData.hasDict] at hd
theorem DnAll.reads {P:Program} {w:World} {H:Hp} {h:Heap} (ok:HOk P w H h):∀ {vs:yB} {ds:yx} {us:yz},DnAll H vs ds->PyData.hasDictAll ds=false->Vals vs us->∃ as,ReadsAll h us ds as
 | _,_,_,.nil,_,r=>by cases r; exact ⟨_,.nil⟩
 | _,_,_,.cons p t,hd,r=>by
  cases r with
  | cons r1 r2 =>
   simp only [PyData.hasDictAll,Bool.or_eq_false_iff] at hd;obtain ⟨as,q⟩:=Dn.reads ok p hd.1 r1;obtain ⟨bs,q2⟩:=DnAll.reads ok t hd.2 r2;exact ⟨_,.cons q q2⟩
end
section
variable {X:Cx}
theorem Zjd {k:Nat} (hr:Room k X.A):OpR X (compareOp .Eq) (λx y H Q=>∃ d e,Dn H x d/\Dn H y e/\SeqAt.shaped d=true/\SeqAt.shaped e=true/\Q (.bl (PyData.eqv d e)) H):=by
 intro pins s σ H x y v u Q I rx ry h;obtain ⟨d,e,hd,he,sd,se,q⟩:=h;obtain ⟨as,r1⟩:=Dn.reads I.hok hd (wS _ (wV sd)) rx;obtain ⟨bs,r2⟩:=Dn.reads I.hok he (wS _ (wV se)) ry;exact SeqAt.compareEq_shaped r1 r2 sd se hr.units ⟨.bl _,H,I,rfl,q⟩
theorem Zi8 {k:Nat} (hr:Room k X.A):OpR X (compareOp .NotEq) (λx y H Q=>∃ d e,Dn H x d/\Dn H y e/\SeqAt.shaped d=true/\SeqAt.shaped e=true/\Q (.bl (!PyData.eqv d e)) H):=by
 intro pins s σ H x y v u Q I rx ry h;obtain ⟨d,e,hd,he,sd,se,q⟩:=h;obtain ⟨as,r1⟩:=Dn.reads I.hok hd (wS _ (wV sd)) rx;obtain ⟨bs,r2⟩:=Dn.reads I.hok he (wS _ (wV se)) ry;exact SeqAt.compareNe_shaped r1 r2 sd se hr.units ⟨.bl _,H,I,rfl,q⟩
theorem tS:cW X (.type "range") (λxs H Q=>∃ i j:Int,xs=[.int i,.int j]/\∀ p,H p=none->Q (.ref p) (upd H p (.rng i j))):=by
 intro pins s σ H xs us Q I r h;obtain ⟨i,j,rfl,q⟩:=h;cases r with
 | cons r1 rr =>
  cases rr with
  | cons r2 rr =>
   cases rr;obtain ⟨t,rfl⟩:=r1;obtain ⟨u,rfl⟩:=r2;refine call_range_2 ?_;exact ⟨.ref s.heap.objs.size,_,I.laid (t':=s.toks+1) (λb o e=>uN _ e) (uQ _) (show ObjOk X.prog X.w _ _ _ (.rng i j) from ⟨t,u,s.toks,uS _ rfl⟩),rfl,q _ (I.hok.fresh (uQ _))⟩
noncomputable def fx (lo:Int) (n:Nat):yB:=(List.range n).map λ(k:Nat)=>V.int (lo+(k:Int))
theorem Zgb (lo:Int):∀ (n:Nat) (l:yz),l.length=n->(∀ (j:Nat) (v:Value),l[j]?=some v->∃ t,v=Value.int (lo+(j:Int)) t)->Vals (fx lo n) l:=by
 intro n;unfold fx
 induction n with
 | zero =>
  intro l hl _;have e:l=[]:=List.length_eq_zero_iff.mp hl;subst e;exact .nil
 | succ n ih =>
  intro l hl hl2;obtain ⟨l',x,rfl⟩:∃ l' x,l=l'++[x]:=⟨l.dropLast,l.getLast (by intro e; rw [e] at hl; cases hl),(List.dropLast_concat_getLast _).symm⟩
  have hl':l'.length=n:=by rw [vF] at hl; simpa using hl
  rw [wW,vW];refine Vals.append (ih l' hl' λj v hv=>hl2 j v (by rw [vp (uR.mp hv).1]; exact hv)) (.cons ?_ .nil)
  obtain ⟨t,e⟩:=hl2 n x (by rw [vA (by omega),hl',Nat.sub_self]; rfl)
  exact ⟨t,e⟩
end
structure Def (K:ym) (mg:yC) (x:Str) (st:Stmt) (ps:yA):Prop where
 ex:∃ f fd,Fun K x x st f fd/\mg x=some (.ref f)/\Binds K fd ps []
structure Callee (P:Program) (w:World) (K:ym) (mg:yC) (base:Heap) (x:Str) (k:Nat) (ps:yA) (sp:Sp):Prop where
 ex:∃ f fd,FnOk P w K mg base dH k f fd ps sp/\mg x=some (.ref f)/\PySem.W.keepIn K (.ref f)=true/\Binds K fd ps []
section
variable {P:Program} {w:World} {K:ym} {mg:yC} {base:Heap}
theorem Def.ok {x:Str} {st:Stmt} {N ps:yA} {k:Nat} {sp:Sp} (D:Def K mg x st ps) (S:FnScope N ps (aG st)) (len:∀ vs H Q E,sp vs H Q E->vs.length=ps.length)
  (hbody:∀ (f:Addr) (cdv:Value) (A:Around) (outer:List Env) (s:Shared) (H:Hp) (vs:yB) (Q:VK) (E:XK),Room k (A.deeper (envOfC x (aG st) s.heap.objs.size f cdv))->sp vs H Q E ->
   ∃ t,PSs (cK dH P w K mg base N x (aG st) f cdv A outer s H E).nox (dA st) t/\t { nx:=λ_ H'=>Q .non H',rt:=Q } (start N vs) H):Callee P w K mg base x (k+1) ps sp:=by
 obtain ⟨f,fd,F,hm,hb⟩:=D.ex;exact ⟨f,fd,F.ok S len λcdv A outer s H vs Q E hr h=>hbody f cdv A outer s H vs Q E hr h,hm,F.kp,hb⟩
theorem Zon {x:Str} {st:Stmt} {ps:yA} {h:Heap} {f:Addr} {oc:Value} {od an:Option Addr} {osl:Array (Option Value)} {kV doc pm cdv ct:Value} (X:K.In h) (G:h.Ns mainGlobals mg)
  (a:PySem.W.nsIn K mainGlobals x=some (some (.ref f))) (l:K.lookup f=some ⟨oc,od,.func (PySem.W.fnOf x x (fG st) (dA st) (aG st) .none kV doc pm an cdv ct),osl⟩)
  (c:PySem.W.codeIn K cdv x=true) (k:PySem.W.keepIn K (.ref f)=true)
  (hb:∀ (kV doc pm:Value) (an:Option Addr) (cdv ct:Value) (us:yz),us.length=ps.length->bindArgs (PySem.W.fnOf x x (fG st) (dA st) (aG st) .none kV doc pm an cdv ct) ⟨us,[]⟩=pure (ps.zip us)):Def K mg x st ps:=by
 have F:=Zk9 (st:=st) l c k;exact ⟨f,_,F,vU X G a,F.binds hb⟩
end
section
variable {X:Cx} {x:Str} {k:Nat} {ps:yA} {sp:Sp} {e:Expr} {es:List Expr} {t:TA} {p pos:Pos}
theorem nK (C:Callee X.prog X.w X.K X.mg X.base x k ps sp) (hr:Room k X.A) (hg:Gl X x) (ha:PA X (e::es) t) (hdb:(x == ("__debug__":Str))=false:=by decide)
  (he:starEach (e::es) X.env=(false,eval e X.env)::starEach es X.env:=by rfl) (hpl:(backTo pos (starEach es X.env)).any (·.1)=false:=by rfl):PE X (.Call (.Name x p) (e::es) [] pos) (ZaD sp [] E0 t):=by
 obtain ⟨f,fd,F,hm,hk,hb⟩:=C.ex;exact ZiV F hr hg hm hk hb .nil Zi3 ha hdb he hpl
theorem ZiQ {i:Int} (hg:Gl X x) (h:∃ t,X.mg x=some (.int i t)) (hd:(x == ("__debug__":Str))=false:=by decide):PE X (.Name x pos) (tC (.int i)):=by
 obtain ⟨t,e⟩:=h;exact gI hg e ⟨t,rfl⟩ hd
end
def ZgM (t:TS):TS:=λD σ H=>∃ J:St->Hp->Prop,t { D with nx:=J } σ H/\∀ σ' H',J σ' H'->D.nx σ' H'
def ZgL (t:TT):TT:=λσ H Q=>∃ J:Bool->Hp->Prop,t σ H J/\∀ b H',J b H'->Q b H'
section
variable {X:Cx} {st:Stmt} {e:Expr}
theorem PS.join {t:TS} (h:PS X st t):PS X st (ZgM t):=by
 rintro pins s σ H D I ⟨J,q,hJ⟩;refine thn (h pins s σ H _ I q) λf s' z=>?_;cases f with
 | next=>obtain ⟨σ',H',I',q'⟩:=z; exact ⟨σ',H',I',hJ _ _ q'⟩
 | brk=>exact z
 | cont=>exact z
 | ret u=>exact z
theorem PT.join {t:TT} (h:PT X e t):PT X e (ZgL t):=by
 rintro pins s σ H Q I ⟨J,q,hJ⟩;refine thn (h pins s σ H _ I q) λb s' ⟨H',I',q'⟩=>⟨H',I',hJ _ _ q'⟩
end
section
variable {H:Hp} {p c:Addr} {a l b:Int}
end
def Kept (p:Addr) (H H':Hp):Prop:=∀ b o,H b=some o->b≠p->H' b=some o
theorem Kept.refl {p:Addr} {H:Hp}:Kept p H H:=λ_ _ h _=>h
theorem Kept.pen {p:Addr} {H H':Hp} {o:HO} (a:Kept p H H'):Kept p H (upd H' p o):=λc u h n=>by
 rw [ap n];exact a c u h n
theorem Same.new {q:Addr} {H H':Hp} {o:HO} (a:Same H H') (hq:H' q=none):Same H (upd H' q o):=λc u h=>by
 have e:=a c u h;rw [ap (bS e hq)];exact e
theorem Za6 (ns:yy):SeqAt.shaped (.list (ns.map PyData.int))=true:=by
 have h1:PyData.canLayAll0 (ns.map PyData.int)=true:=by
  induction ns with
  | nil=>rfl
  | cons n r ih=>simp [PyData.canLayAll0,PyData.canLay0,ih]
 have h2:PyData.depthAll (ns.map PyData.int)=0:=by
  induction ns with
  | nil=>rfl
  | cons n r ih=>simp [PyData.depthAll,PyData.depth]; exact ih (by
    have:=h1;simp [PyData.canLayAll0] at this;exact this.2)
 simp [SeqAt.shaped,PyData.canLay0,PyData.depth,h1,h2]
section
variable {prog:Program} {w:World} {A:Around} {E:yw} {s:Shared} {r:Addr} {a b c:Int} {t u v:Tok} {n:Nat}
theorem Zo2 {Q:List Value->Shared->Prop} (hh:A.handled=none) (hr:IsRange s.heap r a b c t u v) (hs:Builtin.Range.small a b c=true) (hn:Builtin.Range.rangeSize a b c=n) (hl:n<=2 ^ 24)
  (hQ:∀ (h':Heap) (tk:Nat) (acc:Array Value),(∀ b o,s.heap.get? b=some o->h'.get? b=some o)->ItemsOf (λi v=>∃ t,v=.int (a+i * c) t) acc n->Q acc.toList { s with heap:=h',toks:=tk }):wpAny (model prog w) A (collect (.ref r)) Q E s:=by
 unfold collect; apply wpAny_bind; apply wpAny_runValue; refine codeAny_builtin F.entry_proto_collect ?_;rw [v8 F.plain_proto_collect _];show wpAny _ A.in1 (newList [] >>= λz=>again (.builtin "list.__iadd__" ⟨[z,.ref r],[]⟩)) _ _ s;refine wpAny_bind (wpAny_newObj_type (wpAny_pure ⟨plainId_quiet F.plain_list_iadd _,codeAny_builtin F.entry_list_iadd ?_⟩));rw [v8 F.plain_list_iadd _];show wpAny _ A.in1 (Builtin.List.listExtendWith (.ref s.heap.objs.size) (.ref r) (.ref s.heap.objs.size)) _ _ { s with heap:=s.heap.push { cls:=.type "list",data:=.seq ([]:yz).toArray } }
 let R:Result->Shared->Prop:=λz s'=>match z with
  | .ok (.ret v)=>wpAny (model prog w) A (match v with
   | .ref q=>(do match (<- load q).data with
    | .seq xs _=>pure xs.toList
    | _=>unsupported "internal:collect")
   | _=>unsupported "internal:collect") Q E s'
  | .ok _=>False
  | .error e=>E e s'
 refine wpAny_extend_range (R:=R) (s:={ s with heap:=s.heap.push { cls:=.type "list",data:=.seq ([]:yz).toArray } }) hh (uN _ hr) hs hn hl _ _ _ (show (s.heap.push { cls:=.type "list",data:=.seq ([]:yz).toArray }).get? s.heap.objs.size=some { cls:=.type "list",data:=.seq #[] } from uS _ rfl) λh' tk acc c' hk hS hacc=>?_
 show wpAny _ A (load s.heap.objs.size >>= _) _ _ { s with heap:=h',toks:=tk };exact wpAny_bind (wpAny_load hS (wpAny_pure (hQ h' tk acc (λb o e=>hk b o (u9 (uY e)) (uN _ e)) hacc)))
theorem Zgm {Q:yw} (hh:A.handled=none) (hr:IsRange s.heap r a b c t u v) (hs:Builtin.Range.small a b c=true) (hn:Builtin.Range.rangeSize a b c=n) (hl:n<=2 ^ 24)
  (hQ:∀ (h':Heap) (tk:Nat) (acc:Array Value),(∀ b o,s.heap.get? b=some o->h'.get? b=some o)->ItemsOf (λi v=>∃ t,v=.int (a+i * c) t) acc n->Q (.ref h'.objs.size) { s with heap:=h'.push { cls:=.type "tuple",data:=.seq acc },toks:=tk }) :
  wpAny (model prog w) A (call (.type "tuple") [.ref r]) Q E s:=by
 refine callType_codes (Q₁:=λz s1=>s1.TypeIs z "tuple"/\Q z s1) F.called_tuple (F.typeCall_tuple_1 _) F.entry_object_init ?_ λz s1 h1=>?_
 ·apply codeAny_of_tree;show wpAny _ A.in1.in1 (do checkBuiltinCall "tuple.__new__" ⟨[.type "tuple",.ref r],[]⟩; again (.builtin "tuple.__new__" ⟨[.type "tuple",.ref r],[]⟩)) _ _ s
  refine wpAny_bind (wpAny_of_eq (F.newCall_tuple_1 _) (wpAny_pure ⟨plainId_quiet F.plain_tuple_new _,codeAny_builtin F.entry_tuple_new ?_⟩));rw [v8 F.plain_tuple_new _];have f1:=sub_tuple_self; have f2:=init_tuple_lookup; have f3:=madeHere_tuple;have fT:s.TypeIs (.ref r) "range":=⟨_,hr,rfl⟩
  wp_walk using wpAny_typeOf fT,Zo2 (A:=A.in1.in1) hh hr hs hn hl
  intro h' tk acc hk hacc;show wpAny _ _ (Builtin.Tuple.tupleExact acc.toList.toArray >>= λz=>ret z) _ _ _;unfold Builtin.Tuple.tupleExact;have e:acc.toList.toArray=acc:=by simp
  rw [e];refine wpAny_bind (wpAny_newObj_type (wpAny_pure ⟨⟨_,uS _ rfl,rfl⟩,hQ h' tk acc hk hacc⟩) ?_);show acc.size<=sizeLine;rw [hacc.1,sizeLine_eq];exact hl
 ·exact ⟨h1.1,xR z _,object_init_meets F.called_tuple.init.lookup F.called_tuple.made (by decide) prog w A.in1 _ s1 ⟨h1.1,rfl,h1.2⟩⟩
end
section
variable {X:Cx}
theorem Zpb (hh:X.A.handled=none):cW X (.type "tuple") (λxs H Q=>∃ a lo hi,xs=[.ref a]/\H a=some (.rng lo hi)/\-(2 ^ 62)<=lo/\lo < 2 ^ 62/\-(2 ^ 62)<=hi/\hi < 2 ^ 62/\(hi - lo).toNat<=1000/\∀ p,H p=none->Q (.ref p) (upd H p (.tup (fx lo (hi - lo).toNat)))):=by
 intro pins s σ H xs us Q I r h;obtain ⟨a,lo,hi,rfl,ha,b1,b2,b3,b4,hn,q⟩:=h;obtain ⟨u,rfl,ru⟩:=dS r;cases ru;obtain ⟨t,u,v,e⟩:=I.hok a _ ha;have hsz:Builtin.Range.rangeSize lo hi 1=(((hi - lo).toNat:Nat):Int):=by rw [rangeSize_one]; split <;> omega
 refine Zgm hh (r:=a) (t:=t) (u:=u) (v:=v) e (small_one b1 b2 b3 b4) hsz (by omega) λh' tk acc hk hacc=>?_
 have I1:Inv X pins σ H { s with heap:=h',toks:=tk }:=I.kept hk;have hv:Vals (fx lo (hi - lo).toNat) acc.toList:=Zgb lo _ _ (by simpa using hacc.1) λj v hv=>by
  obtain ⟨t,e⟩:=hacc.2 j v (by simpa using hv)
  exact ⟨t,by rw [e,xZ]⟩
 have hz:(fx lo (hi - lo).toNat).length<=sizeLine:=by
  unfold fx;rw [uO,vq];exact u8 hn (by decide)
 refine ⟨.ref h'.objs.size,_,I1.laid (h':=h'.push { cls:=.type "tuple",data:=.seq acc }) (t':=tk) (λb o e=>uN _ e) (uQ _) (show ObjOk X.prog X.w _ _ _ (.tup (fx lo (hi - lo).toNat)) from ⟨hz,acc.toList,hv,⟨_,uS _ rfl,rfl,0,by simp⟩⟩),rfl,q _ (I1.hok.fresh (uQ _))⟩
theorem rY:fillsNumberSlot (.type "tuple") "mul"=pure false :=
 PySem.fillsNumberSlot_seq (id:="tuple.__mul__") (r:=some (.builtin "tuple.__rmul__")) PySem.F.slot_tuple_mul.lookup (by trivial) PySem.F.slot_tuple_rmul.lookup (by trivial)
theorem rf:seqRepeat? (.type "tuple")=pure (some (.builtin "tuple.__mul__")):=by
 unfold seqRepeat?;rw [PySem.seqSlot_of (T:="tuple") (name:="__mul__") (id:="tuple.__mul__") PySem.F.slot_tuple_mul.lookup (by trivial),PySem.seqSlot_of (T:="tuple") (name:="__rmul__") (id:="tuple.__rmul__") PySem.F.slot_tuple_rmul.lookup (by trivial)]; rfl
theorem re (x:Int) (t:Tok) (l:Addr) (items:Array Value) (n:Nat) (dd:Option Addr) (sl:Array (Option Value)) :
  Meets (Builtin.«int.__rmul__» ⟨[.int x t,.ref l],[]⟩) (λ_ R s=>s.heap.get? l=some { cls:=.type "tuple",dict:=dd,data:=.seq items n,slots:=sl }/\R (.ok (.ret Value.notImplemented)) s):=by
 refine .of_wp λprog w A R s h=>?_;obtain ⟨hp,g,d,tk,os⟩:=s;obtain ⟨hl,h⟩:=h
 wp_walk
 exact ⟨_,rfl,h⟩
theorem ZjG (x:Int) (t:Tok) (l:Addr) (items:Array Value) (n:Nat) (dd:Option Addr) (sl:Array (Option Value)) (h1:1 < x) (h2:x<=1000) (h3:items.isEmpty=false) (h4:items.size<=1000) :
  Meets (Builtin.«tuple.__mul__» ⟨[.ref l,.int x t],[]⟩) (λ_ R s=>s.heap.get? l=some { cls:=.type "tuple",dict:=dd,data:=.seq items n,slots:=sl } /\
   R (.ok (.ret (.ref s.heap.objs.size))) { s with heap:=s.heap.push { cls:=.type "tuple",data:=.seq ((List.replicate x.toNat items).foldl (·++·) #[]) } }):=by
 refine .of_wp λprog w A R s h=>?_;obtain ⟨hp,g,d,tk,os⟩:=s;obtain ⟨hl,h⟩:=h;have hp0:0<=(items.size:Int) * x:=v6 (by omega) (by omega)
 have hp1:(items.size:Int) * x<=1000 * 1000:=Int.mul_le_mul (by omega) h2 (by omega) (by omega)
 have hne:items.size≠0:=λe=>by simp [Array.isEmpty,e] at h3
 wp_walk
 refine wpAny_ite_split (λz=>absurd z (by simp; omega)) (λ_=>?_)
 refine wpAny_bind ?_;unfold Builtin.Tuple.tupleItemsOf;refine wpAny_bind (wpAny_seqItems hl rfl (wpAny_pure ?_));refine wpAny_ite_split (λz=>absurd z (by rw [h3]; simp; omega)) (λ_=>?_)
 refine wpAny_ite_split (λz=>absurd z (by rw [h3]; simp; omega)) (λ_=>?_)
 refine wpAny_ite_split (λz=>absurd z (by omega)) (λ_=>?_)
 refine wpAny_ite_split (λz=>absurd z (by unfold Builtin.Tuple.tupleTooMany; rw [sizeLine_eq]; simp; omega)) (λ_=>?_)
 unfold Builtin.Tuple.tupleExact;have hlen:∀ k:Nat,((List.replicate k items).foldl (·++·) #[]).size=k * items.size:=λk=>by
  have key:∀ (k:Nat) (acc:Array Value),((List.replicate k items).foldl (·++·) acc).size=acc.size+k * items.size:=by
   intro k
   induction k with
   | zero=>intro acc; simp
   | succ k ih =>
    intro acc;rw [u6,xX,ih,Array.size_append,wq];omega
  simpa using key k #[]
 refine wpAny_bind (wpAny_newObj_type (wpAny_pure ⟨_,rfl,h⟩) ?_);show ((List.replicate x.toNat items).foldl (·++·) #[]).size<=sizeLine;rw [hlen,sizeLine_eq];have hx:x.toNat<=1000:=by omega
 exact u8 (yb hx h4) (by decide)
noncomputable def rj (K:ym):R2:=λx y H Q=>∃ a k xs,x=.ref a/\y=.int k/\SqT K H a xs/\1 < k/\k<=1000/\xs≠[]/\xs.length<=1000/\∀ p,H p=none->Q (.ref p) (upd H p (.tup (List.replicate k.toNat xs).flatten))
theorem Zao {xs:yB} {us:yz} (r:Vals xs us):∀ k:Nat,Vals (List.replicate k xs).flatten (List.replicate k us).flatten
 | 0=>.nil
 | k+1=>by
  rw [u6,u6,vG,vG];exact r.append (Zao r k)
theorem ZcQ:OpR X (binaryOp .Mult) (rj X.K):=by
 intro pins s σ H x y v u Q I rx ry h;obtain ⟨a,k,xs,rfl,rfl,hq,h1,h2,hne,hl,q⟩:=h;cases rx;obtain ⟨t,rfl⟩:=ry;obtain ⟨its,rv,p,hz⟩:=I.tuple hq;obtain ⟨o,ho,hc,n,hd⟩:=p;obtain ⟨oc,od,odd,osl⟩:=o;have hc':oc=.type "tuple":=hc;have hd':odd=.seq its.toArray n:=hd;subst hc' hd';have hlen:=rv.length;have hemp:its.toArray.isEmpty=false:=by
  cases its with
  | nil=>cases rv; exact absurd rfl hne
  | cons i r=>rfl
 have efl:(List.replicate k.toNat its.toArray).foldl (·++·) #[]=(List.replicate k.toNat its).flatten.toArray:=by
  have key:∀ (k:Nat) (acc:Array Value),(List.replicate k its.toArray).foldl (·++·) acc=acc++(List.replicate k its).flatten.toArray:=by
   intro k
   induction k with
   | zero=>intro acc; simp
   | succ k ih =>
    intro acc;rw [u6,xX,ih,u6,vG];simp
  simpa using key k.toNat #[]
 refine wpAny_binaryOp_repeat_ref (T:="tuple") (U:="int") (by decide) ⟨_,ho,rfl⟩ (λs'=>typeIs_int s' k t) rY xA wa rf PySem.F.slot_int_index.lookup ?_
 refine call_meets wa (typeIs_int s k t) xx (xp _ _) (re k t a its.toArray n od osl) ⟨ho,rfl,⟨_,ho,rfl⟩,?_⟩;refine call_meets xw ⟨_,ho,rfl⟩ xo (xk _ _) (ZjG k t a its.toArray n od osl h1 h2 hemp (by rw [uW]; omega)) ⟨ho,?_⟩
 rw [efl];have hzz:(List.replicate k.toNat xs).flatten.length<=sizeLine:=by
  have hx:k.toNat<=1000:=by omega
  have e:(List.replicate k.toNat xs).flatten.length=k.toNat * xs.length:=by simp
  rw [e,sizeLine_eq];exact u8 (yb hx hl) (by decide)
 exact ⟨.ref s.heap.objs.size,_,I.laid (t':=s.toks) (λb o e=>uN _ e) (uQ _) (show ObjOk X.prog X.w _ _ _ (.tup (List.replicate k.toNat xs).flatten) from ⟨hzz,_,Zao rv k.toNat,IsTup.new _ _⟩),rfl,q _ (I.hok.fresh (uQ _))⟩
end
theorem Zdg {n:Nat} (h:n < 2 ^ 1900):n.log2 < 1900:=by
 by_cases h0:n=0
 ·rw [h0]; decide
 ·exact (Nat.log2_lt h0).mpr h
theorem Zho {i:Int} (h:i.natAbs < 2 ^ 1900):(PyData.int i).shown.length<=1901:=by
 have e:=int_text_length_le (k:=1900) (by decide) (Zdg h)
 have q:(Str.ofString (toString i)).length<=1901:=by rw [PySem.ofString_length]; exact e
 simpa [PyData.shown] using q
theorem Za4:∀ (ns:yy),(∀ n∈ns,n.natAbs < 2 ^ 1900)->((PyData.shownAll (ns.map PyData.int)).map (·.length)).sum<=ns.length * 1901/\(PyData.shownAll (ns.map PyData.int)).length=ns.length
 | [],_=>⟨by simp [PyData.shownAll],rfl⟩
 | n::r,h=>by
  obtain ⟨h1,h2⟩:=Za4 r λx hx=>h x (uP _ hx);have h3:=Zho (h n vM);rw [uX,PyData.shownAll,uX,wx,uZ,uZ,h2,wq];exact ⟨by omega,rfl⟩
theorem Za5:∀ (ns:yy),(∀ n∈ns,n.natAbs < 2 ^ 1900)->PyData.showableAll (ns.map PyData.int)=true
 | [],_=>rfl
 | n::r,h=>by
  rw [uX,PyData.showableAll,Za5 r λx hx=>h x (uP _ hx),Bool.and_true];have q:=Zdg (h n vM);simp only [PyData.showable,decide_eq_true_eq];omega
noncomputable def aL (lo:Int) (n:Nat):yy:=(List.range n).map λ(k:Nat)=>lo+(k:Int)
theorem Zid (lo:Int) (n:Nat):fx lo n=(aL lo n).map V.int:=by
 unfold fx aL;rw [vg]
 rfl
theorem gG (lo:Int) (n:Nat):(aL lo n).length=n:=by
 unfold aL;rw [uO,vq]
theorem ZbX {lo x:Int} {n:Nat} (h:x∈aL lo n):lo<=x/\x < lo+n:=by
 unfold aL at h;obtain ⟨k,hk,rfl⟩:=wt.mp h;have:=vQ.mp hk;omega
def CMulG (i j:Int):Prop:=i.natAbs < 2 ^ 8000/\j.natAbs < 2 ^ 8000
def ZfR (i j:Int):Prop:=j≠0/\j.natAbs < 2 ^ 8000
theorem Ze9 {x:Int} (h:x.natAbs < 2 ^ 8000):Builtin.Int.intBits x<=8000:=by
 unfold Builtin.Int.intBits
 split
 ·exact wf _
 ·rename_i hx;have h0:x.natAbs≠0:=by
   intro z;have e:x=0:=Int.natAbs_eq_zero.mp z;rw [e] at hx;exact hx rfl
  exact (Nat.log2_lt h0).mpr h
theorem CMulG.ok {i j:Int} (h:CMulG i j):IntMulOk i j:=by
 have h1:=Ze9 h.1;have h2:=Ze9 h.2;unfold IntMulOk;have e:Builtin.Int.intTooBig ((Builtin.Int.intBits i+Builtin.Int.intBits j:Nat):Int)=false:=by
  unfold Builtin.Int.intTooBig;refine decide_eq_false ?_;have hb:((16000:Nat):Int)<=(bitsLine:Int):=by decide
  omega
 intro z;rw [vm] at z;have z2:Builtin.Int.intTooBig ((Builtin.Int.intBits i+Builtin.Int.intBits j:Nat):Int)=true:=z.2;rw [e] at z2;cases z2
section
variable {X:Cx}
theorem Zja:OpR X (binaryOp .Mult) (rI CMulG λi j=>.int (i * j)):=ip λ_ _ _ _ _ _ _ hc q=>mul_int q hc.ok
theorem lJ:OpR X (binaryOp .FloorDiv) (rI ZfR λi j=>.int (i.fdiv j)):=ip λi j _ _ _ _ _ hc q=>by
 refine floordiv_int hc.1 q (.inl (PyProof.noPylong_of_log2 ?_));by_cases h0:j.natAbs=0
 ·exact absurd (Int.natAbs_eq_zero.mp h0) hc.1
 ·exact Nat.lt_trans ((Nat.log2_lt h0).mpr hc.2) (by decide)
theorem jC:cW X (.builtin "isinstance") (λxs H Q=>∃ x T t b,xs=[x,.ty T]/\TyOf X.K H x t/\PySem.W.kitOne X.K t (.type T)=some b/\Q (.bl b) H):=by
 intro pins s σ H xs us Q I r h;obtain ⟨x,T,t,b,rfl,ty,e,q⟩:=h;obtain ⟨u,c,rfl,ru,rc⟩:=hZ r;cases rc;exact ZkF I ru ty e λtk=>⟨.bl b,H,I.tok tk,rfl,q⟩
end
end L2
namespace Gc
noncomputable def kD (a b:Int):Int:=((Nat.gcd a.natAbs b.natAbs:Nat):Int)
noncomputable def den (t b:Int):Int:=if b < 0 then -kD t b else kD t b
noncomputable def l0 (t b:Int):Int:=t.fdiv (den t b)
noncomputable def l4 (t b:Int):Int:=b.fdiv (den t b)
theorem ZkV {t b:Int} (h:b≠0):0 < Nat.gcd t.natAbs b.natAbs:=Nat.gcd_pos_of_pos_right _ (by omega)
theorem Zok {t b:Int} (h:b≠0):den t b≠0:=by
 have:=ZkV (t:=t) h;unfold den kD
 split <;> omega
theorem Zom (t b:Int):(den t b).natAbs=Nat.gcd t.natAbs b.natAbs:=by
 unfold den kD
 split <;> omega
end Gc
namespace L2
inductive Tr (α:Type) where
 | ret (a:α)
 | draw (n:Int) (k:Int->Tr α)
 | fail
namespace Tr
variable {α β γ:Type}
noncomputable def bind:Tr α->(α->Tr β)->Tr β
 | .ret a,f=>f a
 | .draw n k,f=>.draw n λr=>(k r).bind f
 | .fail,_=>.fail
@[simp] theorem ret_bind (a:α) (f:α->Tr β):(Tr.ret a).bind f=f a:=rfl
@[simp] theorem draw_bind (n:Int) (k:Int->Tr α) (f:α->Tr β):(Tr.draw n k).bind f=.draw n λr=>(k r).bind f:=rfl
@[simp] theorem fail_bind (f:α->Tr β):(Tr.fail:Tr α).bind f=.fail:=rfl
@[simp] theorem bind_assoc:∀ (t:Tr α) (f:α->Tr β) (g:β->Tr γ),(t.bind f).bind g=t.bind λa=>(f a).bind g
 | .ret a,f,g=>rfl
 | .draw n k,f,g=>by simp only [draw_bind]; congr 1; funext r; exact bind_assoc (k r) f g
 | .fail,f,g=>rfl
noncomputable def of:Option α->Tr α
 | some a=>.ret a
 | none=>.fail
@[simp] theorem of_some (a:α):Tr.of (some a)=.ret a:=rfl
@[simp] theorem of_none:Tr.of (none:Option α)=.fail:=rfl
noncomputable def ok:Tr α->Nat->(Nat->α->Prop)->Prop
 | .ret a,m,Q=>Q m a
 | .draw n k,m,Q=>m < 400000/\0 < n/\n < 1073741824/\∀ r,0<=r->r < n->(k r).ok (m+1) Q
 | .fail,_,_=>False
theorem ok_mono:∀ {t:Tr α} {m:Nat} {Q Q':Nat->α->Prop},t.ok m Q->(∀ m a,Q m a->Q' m a)->t.ok m Q'
 | .ret a,m,_,_,h,hq=>hq m a h
 | .draw n k,m,_,_,⟨h1,h2,h3,h⟩,hq=>⟨h1,h2,h3,λr h0 h1=>ok_mono (h r h0 h1) hq⟩
theorem ok_bind:∀ {t:Tr α} {f:α->Tr β} {m:Nat} {Q:Nat->β->Prop},(t.bind f).ok m Q ↔ t.ok m λm' a=>(f a).ok m' Q
 | .ret a,f,m,Q=>Iff.rfl
 | .draw n k,f,m,Q=>by
  show (_/\_/\_/\∀ r,_) ↔ (_/\_/\_/\∀ r,_);refine and_congr_right λ_=>and_congr_right λ_=>and_congr_right λ_=>forall_congr' λr=>forall_congr' λ_=>forall_congr' λ_=>ok_bind
 | .fail,f,m,Q=>Iff.rfl
theorem ok_of {o:Option α} {m:Nat} {Q:Nat->α->Prop} (h:(Tr.of o).ok m Q):∃ a,o=some a/\Q m a:=by
 cases o with
 | none=>exact h.elim
 | some a=>exact ⟨a,rfl,h⟩
noncomputable def all:Tr α->Nat->(α->Prop)->Prop
 | .ret a,_,P=>P a
 | .draw w k,n+1,P=>0 < w/\w < 1073741824/\∀ r,0<=r->r < w->(k r).all n P
 | .draw _ _,0,_=>False
 | .fail,_,_=>False
theorem all_ok:∀ {t:Tr α} {n m:Nat} {P:α->Prop},t.all n P->m+n<=400000->t.ok m λm' a=>m'<=m+n/\P a
 | .ret a,n,m,P,h,hm=>⟨by omega,h⟩
 | .draw w k,n+1,m,P,⟨h1,h2,h⟩,hm=>⟨by omega,h1,h2,λr a b=>ok_mono (all_ok (h r a b) (by omega)) λm' x hz0=>by
  obtain ⟨p,q⟩:=hz0;exact ⟨by omega,q⟩⟩
theorem all_mono:∀ {t:Tr α} {n n':Nat} {P P':α->Prop},t.all n P->n<=n'->(∀ a,P a->P' a)->t.all n' P'
 | .ret a,n,n',P,P',h,hn,hp=>hp a h
 | .draw w k,n+1,n'+1,P,P',⟨h1,h2,h⟩,hn,hp=>⟨h1,h2,λr a b=>all_mono (h r a b) (by omega) hp⟩
 | .draw w k,n+1,0,P,P',h,hn,hp=>by omega
theorem all_bind:∀ {t:Tr α} {f:α->Tr β} {n n':Nat} {P:α->Prop} {P':β->Prop},t.all n P->(∀ a,P a->(f a).all n' P')->(t.bind f).all (n+n') P'
 | .ret a,f,n,n',P,P',h,hf=>all_mono (hf a h) (by omega) λ_ x=>x
 | .draw w k,f,n+1,n',P,P',⟨h1,h2,h⟩,hf=>by
  have e:n+1+n'=(n+n')+1:=by omega
  rw [e];exact ⟨h1,h2,λr a b=>all_bind (h r a b) hf⟩
end Tr
abbrev Sub (G H:Hp):Prop:=∀ b o,G b=some o->H b=some o
structure Pk where
 is:HO->Hp->Nat->Prop
 mono:∀ {o:HO} {G G':Hp} {m:Nat},Sub G G'->is o G m->is o G' m
structure Wd (PK:Pk) (pa:Addr) (m:Nat) (G H:Hp):Prop where
 sub:Sub G H
 gpa:G pa=none
 pen:∃ o,H pa=some o/\PK.is o G m
structure Stp (pa:Addr) (G H G' H':Hp):Prop where
 gs:Sub G G'
 gn:∀ b o,G' b=some o->G b=some o\/H b=none
 hk:∀ b o,H b=some o->b≠pa->H' b=some o
theorem Stp.refl {pa:Addr} {G H:Hp}:Stp pa G H G H:=⟨λ_ _ h=>h,λ_ _ h=>.inl h,λ_ _ h _=>h⟩
theorem Stp.trans {pa:Addr} {G H G1 H1 G2 H2:Hp} (a:Stp pa G H G1 H1) (b:Stp pa G1 H1 G2 H2) (hp:∃ o,H1 pa=some o):Stp pa G H G2 H2:=by
 refine ⟨λc o h=>b.gs c o (a.gs c o h),λc o h=>?_,λc o h n=>b.hk c o (a.hk c o h n) n⟩;rcases b.gn c o h with z | z
 ·exact a.gn c o z
 ·refine .inr ?_;cases e:H c with
  | none=>rfl
  | some u =>
   by_cases hc:c=pa
   ·subst hc;obtain ⟨o',z'⟩:=hp;rw [z'] at z; cases z
   ·rw [a.hk c u e hc] at z; cases z
section
variable {PK:Pk} {pa:Addr} {m:Nat} {G H:Hp}
theorem Wd.some (w:Wd PK pa m G H):∃ o,H pa=some o:=let ⟨o,h,_⟩:=w.pen; ⟨o,h⟩
theorem Wd.ne (w:Wd PK pa m G H) {p:Addr} (hp:H p=none):pa≠p:=λe=>by
 obtain ⟨o,h⟩:=w.some;rw [e,hp] at h; cases h
theorem Sub.new {p:Addr} {o:HO} (hp:G p=none):Sub G (upd G p o):=λb u h=>by rw [ap (bS h hp)]; exact h
theorem Wd.gnone (w:Wd PK pa m G H) {p:Addr} (hp:H p=none):G p=none:=by
 cases e:G p with
 | none=>rfl
 | some o=>rw [w.sub p o e] at hp; cases hp
theorem Sub.upd2 {p:Addr} {o:HO} (s:Sub G H):Sub (upd G p o) (upd H p o):=λb u h=>by
 by_cases e:b=p
 ·subst e; rw [bq] at h ⊢; exact h
 ·rw [ap e] at h ⊢; exact s b u h
theorem Wd.new (w:Wd PK pa m G H) {p:Addr} {o:HO} (hp:H p=none):Wd PK pa m (upd G p o) (upd H p o)/\Stp pa G H (upd G p o) (upd H p o):=by
 have hg:=w.gnone hp;have hne:=w.ne hp;refine ⟨⟨w.sub.upd2,by rw [ap hne]; exact w.gpa,?_⟩,⟨Sub.new hg,λb u h=>?_,λb u h _=>by rw [ap (bS h hp)]; exact h⟩⟩
 ·obtain ⟨u,h,q⟩:=w.pen;exact ⟨u,by rw [ap hne]; exact h,PK.mono (Sub.new hg) q⟩
 ·by_cases e:b=p
  ·subst e; exact .inr hp
  ·rw [ap e] at h; exact .inl h
theorem Wd.own (w:Wd PK pa m G H) {p:Addr} {o:HO} (hp:H p=none):Wd PK pa m G (upd H p o)/\Stp pa G H G (upd H p o):=by
 have hne:=w.ne hp;refine ⟨⟨λb u h=>by rw [ap (bS (w.sub b u h) hp)]; exact w.sub b u h,w.gpa,?_⟩,⟨λ_ _ h=>h,λ_ _ h=>.inl h,λb u h _=>by rw [ap (bS h hp)]; exact h⟩⟩
 obtain ⟨u,h,q⟩:=w.pen;exact ⟨u,by rw [ap hne]; exact h,q⟩
theorem Wd.freeze (w:Wd PK pa m G H) {p:Addr} {o:HO} (hp:H p=Option.some o) (hg:G p=none) (hne:pa≠p):Wd PK pa m (upd G p o) H:=by
 refine ⟨λb u h=>?_,by rw [ap hne]; exact w.gpa,?_⟩
 ·by_cases e:b=p
  ·subst e; rw [bq] at h; rw [hp]; exact h
  ·rw [ap e] at h; exact w.sub b u h
 ·obtain ⟨u,h,q⟩:=w.pen;exact ⟨u,h,PK.mono (Sub.new hg) q⟩
def Kn (PK:Pk) (pa:Addr) (m:Nat) (G H:Hp) (x:PyData) (Q:VK):Prop:=∀ v G' H',Stp pa G H G' H'->Wd PK pa m G' H'->Dn G' v x->Q v H'
variable {x:PyData} {Q:VK} {v:V} {vs:yB} {ds:yx} {p:Addr}
theorem Kn.here (k:Kn PK pa m G H x Q) (w:Wd PK pa m G H) (d:Dn G v x):Q v H:=k v G H .refl w d
theorem Kn.tup (k:Kn PK pa m G H (.tuple ds) Q) (w:Wd PK pa m G H) (d:DnAll G vs ds) (hp:H p=none):Q (.ref p) (upd H p (.tup vs)):=by
 obtain ⟨w1,s1⟩:=w.new (o:=.tup vs) hp;exact k _ _ _ s1 w1 (.tup bq (DnAll.mono s1.gs d))
theorem Kn.lst (k:Kn PK pa m G H (.list ds) Q) (w:Wd PK pa m G H) (d:DnAll G vs ds) (hp:H p=none):Q (.ref p) (upd H p (.lst vs)):=by
 obtain ⟨w1,s1⟩:=w.new (o:=.lst vs) hp;exact k _ _ _ s1 w1 (.lst bq (DnAll.mono s1.gs d))
theorem Kn.later {G1 H1:Hp} (k:Kn PK pa m G H x Q) (s:Stp pa G H G1 H1) (hp:∃ o,H1 pa=Option.some o):Kn PK pa m G1 H1 x Q:=λv G' H' s' w d=>k v G' H' (s.trans s' hp) w d
end
inductive Sl where
 | un | d (x:PyData) | own (xs:yx) | pen | dic (kvs:List (Int×PyData))
inductive KD (G:Hp):List (aD×V)->List (Int×PyData)->Prop
 | nil:KD G [] []
 | cons {i:Int} {v:V} {d:PyData} {ks:List (aD×V)} {kvs:List (Int×PyData)}:Dn G v d->KD G ks kvs->KD G ((.inl i,v)::ks) ((i,d)::kvs)
theorem KD.mono {G G':Hp} (s:Sub G G') {ks:List (aD×V)} {kvs:List (Int×PyData)} (h:KD G ks kvs):KD G' ks kvs:=by
 induction h with
 | nil=>exact .nil
 | cons h _ ih=>exact .cons (h.mono s) ih
inductive SlOk (pa:Addr) (H₀ G H:Hp):Option V->Sl->Prop
 | un {o:Option V}:SlOk pa H₀ G H o .un
 | d {v:V} {x:PyData}:Dn G v x->SlOk pa H₀ G H (some v) (.d x)
 | own {p:Addr} {vs:yB} {xs:yx}:H p=some (.lst vs)->G p=none->H₀ p=none->DnAll G vs xs->SlOk pa H₀ G H (some (.ref p)) (.own xs)
 | pen:SlOk pa H₀ G H (some (.ref pa)) .pen
 | dic {p:Addr} {ks:List (aD×V)} {kvs:List (Int×PyData)}:H p=some (.dK ks)->G p=none->H₀ p=none->KD G ks kvs->SlOk pa H₀ G H (some (.ref p)) (.dic kvs)
structure Rl (PK:Pk) (pa:Addr) (yE H₀:Hp) (m:Nat) (σ:St) (ρ:List Sl) (G H:Hp):Prop where
 wd:Wd PK pa m G H
 st:Stp pa yE H₀ G H
 p0:∃ o,H₀ pa=some o
 sl:∀ (i:Nat) (s:Sl),ρ[i]?=some s->∃ o,σ[i]?=some o/\SlOk pa H₀ G H o s
 len:ρ.length=σ.length
 dj:∀ (i j:Nat) (xs ys:yx),i≠j->ρ[i]?=some (.own xs)->ρ[j]?=some (.own ys)->σ[i]?≠σ[j]?
 dj2:∀ (i j:Nat) (xs ys:List (Int×PyData)),i≠j->ρ[i]?=some (.dic xs)->ρ[j]?=some (.dic ys)->σ[i]?≠σ[j]?
section
variable {PK:Pk} {pa:Addr} {yE H₀ G H:Hp} {m:Nat} {σ:St} {ρ:List Sl}
theorem nk {α:Type} {l:List α} {k i:Nat} {x y:α} (h:(l.set k x)[i]?=some y) (hn:x≠y):k≠i/\l[i]?=some y:=by
 have hi:k≠i:=λe=>by
  subst e;have hl:k < l.length:=by
   have:=(uR.mp h).1
   rwa [vK] at this
  rw [vf hl] at h;exact hn (vc h)
 rw [u5 hi] at h;exact ⟨hi,h⟩
theorem Zex {α:Type} {T:α->Sl} {k:Nat} {x:Sl} {v:Option V} (dj:∀ (i j:Nat) (a b:α),i≠j->ρ[i]?=some (T a)->ρ[j]?=some (T b)->σ[i]?≠σ[j]?) (hn:∀ a,x≠T a) :
  ∀ (i j:Nat) (a b:α),i≠j->(ρ.set k x)[i]?=some (T a)->(ρ.set k x)[j]?=some (T b)->(σ.set k v)[i]?≠(σ.set k v)[j]?:=λi j a b hij h1 h2=>by
 obtain ⟨hi,h1⟩:=nk h1 (hn a);obtain ⟨hj,h2⟩:=nk h2 (hn b);rw [u5 hi,u5 hj];exact dj i j a b hij h1 h2
theorem Zew {α:Type} {T:α->Sl} {k:Nat} {x:Sl} (dj:∀ (i j:Nat) (a b:α),i≠j->ρ[i]?=some (T a)->ρ[j]?=some (T b)->σ[i]?≠σ[j]?) (hn:∀ a,x≠T a) :
  ∀ (i j:Nat) (a b:α),i≠j->(ρ.set k x)[i]?=some (T a)->(ρ.set k x)[j]?=some (T b)->σ[i]?≠σ[j]?:=λi j a b hij h1 h2 =>
 dj i j a b hij (nk h1 (hn a)).2 (nk h2 (hn b)).2
theorem SlOk.step {G' H':Hp} {o:Option V} {s:Sl} (k:SlOk pa H₀ G H o s) (hp0:∃ o,H₀ pa=some o) (st:Stp pa G H G' H'):SlOk pa H₀ G' H' o s:=by
 cases k with
 | un=>exact .un
 | d h=>exact .d (h.mono st.gs)
 | pen=>exact .pen
 | @own p vs xs h1 h2 h3 h4 =>
  have hne:p≠pa:=λe=>by
   obtain ⟨u,hu⟩:=hp0;rw [<- e,h3] at hu; cases hu
  refine .own (st.hk _ _ h1 hne) ?_ h3 (DnAll.mono st.gs h4);cases e:G' p with
  | none=>rfl
  | some u =>
   rcases st.gn p u e with z | z
   ·rw [h2] at z; cases z
   ·rw [h1] at z; cases z
 | @dic p ks kvs h1 h2 h3 h4 =>
  have hne:p≠pa:=λe=>by
   obtain ⟨u,hu⟩:=hp0;rw [<- e,h3] at hu; cases hu
  refine .dic (st.hk _ _ h1 hne) ?_ h3 (h4.mono st.gs);cases e:G' p with
  | none=>rfl
  | some u =>
   rcases st.gn p u e with z | z
   ·rw [h2] at z; cases z
   ·rw [h1] at z; cases z
theorem Rl.step {G' H':Hp} {m':Nat} (r:Rl PK pa yE H₀ m σ ρ G H) (s:Stp pa G H G' H') (w:Wd PK pa m' G' H'):Rl PK pa yE H₀ m' σ ρ G' H' :=
 ⟨w,r.st.trans s r.wd.some,r.p0,λi sl h=>let ⟨o,h1,h2⟩:=r.sl i sl h; ⟨o,h1,h2.step r.p0 s⟩,r.len,r.dj,r.dj2⟩
theorem Rl.set (r:Rl PK pa yE H₀ m σ ρ G H) {v:V} {x:PyData} (d:Dn G v x) (k:Nat):Rl PK pa yE H₀ m (σ.set k (some v)) (ρ.set k (.d x)) G H:=by
 refine ⟨r.wd,r.st,r.p0,λi s h=>?_,by rw [vK,vK]; exact r.len,λi j xs ys hij h1 h2=>?_,Zex r.dj2 λa h=>by cases h⟩
 ·by_cases e:k=i
  ·subst e;have hl:k < ρ.length:=by
    have:=(uR.mp h).1
    rwa [vK] at this
   rw [vf hl] at h;cases h;exact ⟨_,vf (by rw [<- r.len]; exact hl),.d d⟩
  ·rw [u5 e] at h ⊢;exact r.sl i s h
 ·have hi:k≠i:=λe=>by
   subst e;have hl:k < ρ.length:=by
    have:=(uR.mp h1).1
    rwa [vK] at this
   rw [vf hl] at h1; cases h1
  have hj:k≠j:=λe=>by
   subst e;have hl:k < ρ.length:=by
    have:=(uR.mp h2).1
    rwa [vK] at this
   rw [vf hl] at h2; cases h2
  rw [u5 hi] at h1 ⊢;rw [u5 hj] at h2 ⊢;exact r.dj i j xs ys hij h1 h2
theorem Rl.setO (r:Rl PK pa yE H₀ m σ ρ G H) {p:Addr} {vs:yB} {xs:yx} (h1:H p=some (.lst vs)) (h2:G p=none) (h3:H₀ p=none) (h4:DnAll G vs xs)
  (hd:∀ (i:Nat) (ys:yx),ρ[i]?=some (.own ys)->σ[i]?≠some (some (.ref p))) (k:Nat):Rl PK pa yE H₀ m (σ.set k (some (.ref p))) (ρ.set k (.own xs)) G H:=by
 have up:∀ {i:Nat} {s:Sl},(ρ.set k (.own xs))[i]?=some s->i=k->s=.own xs/\(σ.set k (some (V.ref p)))[i]?=some (some (.ref p)):=λ{i s} h e=>by
  subst e;have hl:i < ρ.length:=by
   have:=(uR.mp h).1
   rwa [vK] at this
  rw [vf hl] at h;cases h;exact ⟨rfl,vf (by rw [<- r.len]; exact hl)⟩
 refine ⟨r.wd,r.st,r.p0,λi s h=>?_,by rw [vK,vK]; exact r.len,λi j ys zs hij e1 e2=>?_,Zex r.dj2 λa h=>by cases h⟩
 ·by_cases e:i=k
  ·obtain ⟨e1,e2⟩:=up h e;subst e1;exact ⟨_,e2,.own h1 h2 h3 h4⟩
  ·rw [u5 (Ne.symm e)] at h ⊢;exact r.sl i s h
 ·by_cases ei:i=k
  ·have q:=(up e1 ei).2;have hj:k≠j:=λe=>hij (ei.trans e);rw [q];rw [u5 hj] at e2 ⊢;exact λz=>hd j zs e2 z.symm
  ·rw [u5 (Ne.symm ei)] at e1 ⊢;by_cases ej:j=k
   ·rw [(up e2 ej).2];exact hd i ys e1
   ·rw [u5 (Ne.symm ej)] at e2 ⊢;exact r.dj i j ys zs hij e1 e2
theorem Rl.h0 (r:Rl PK pa yE H₀ m σ ρ G H) {p:Addr} (hp:H p=none):H₀ p=none:=by
 cases e:H₀ p with
 | none=>rfl
 | some u =>
  by_cases hc:p=pa
  ·subst hc;obtain ⟨o,h⟩:=r.wd.some;rw [hp] at h; cases h
  ·rw [r.st.hk p u e hc] at hp; cases hp
theorem Rl.apart (r:Rl PK pa yE H₀ m σ ρ G H) {p:Addr} (hp:H p=none) (i:Nat) (ys:yx) (h:ρ[i]?=some (.own ys)):σ[i]?≠some (some (.ref p)):=λe=>by
 obtain ⟨o,h1,h2⟩:=r.sl i _ h;rw [e] at h1;cases h1;cases h2 with
 | own a _ _ _=>rw [hp] at a; cases a
theorem Rl.change (r:Rl PK pa yE H₀ m σ ρ G H) {k:Nat} {xs ys:yx} {p:Addr} {ws:yB} (hk:ρ[k]?=some (.own xs)) (hσ:σ[k]?=some (some (.ref p))) (d:DnAll G ws ys) :
  Rl PK pa yE H₀ m σ (ρ.set k (.own ys)) G (upd H p (.lst ws)):=by
 obtain ⟨o,h1,h2⟩:=r.sl k _ hk;rw [hσ] at h1;cases h1;cases h2 with
 | @own _ vs _ a1 a2 a3 a4 =>
  have hne:pa≠p:=λe=>by
   obtain ⟨u,hu⟩:=r.p0;rw [e,a3] at hu; cases hu
  have hl:k < ρ.length:=(uR.mp hk).1;refine ⟨⟨λb o h=>?_,r.wd.gpa,?_⟩,⟨r.st.gs,r.st.gn,λb o h hb=>?_⟩,r.p0,λi s h=>?_,by rw [vK]; exact r.len,λi j us ws hij e1 e2=>?_,Zew r.dj2 λa h=>by cases h⟩
  ·rw [ap (λe=>by subst e; rw [a2] at h; cases h)]
   exact r.wd.sub b o h
  ·obtain ⟨u,h,q⟩:=r.wd.pen;exact ⟨u,by rw [ap hne]; exact h,q⟩
  ·rw [ap (λe=>by subst e; rw [a3] at h; cases h)]
   exact r.st.hk b o h hb
  ·by_cases e:k=i
   ·subst e;rw [vf hl] at h;cases h;exact ⟨_,hσ,.own bq a2 a3 d⟩
   ·rw [u5 e] at h;obtain ⟨o,q1,q2⟩:=r.sl i s h;refine ⟨o,q1,?_⟩;cases q2 with
    | un=>exact .un
    | d z=>exact .d z
    | pen=>exact .pen
    | dic b1 b2 b3 b4=>exact .dic (by rw [ap (λe2=>by subst e2; rw [a1] at b1; cases b1)]; exact b1) b2 b3 b4
    | own b1 b2 b3 b4 =>
     refine .own ?_ b2 b3 b4;rw [ap]
     ·exact b1
     ·intro e2;subst e2;exact r.dj k i _ _ e hk h (by rw [hσ,q1])
  ·by_cases ei:k=i
   ·subst ei;rw [u5 hij] at e2;exact r.dj k j _ _ hij hk e2
   ·rw [u5 ei] at e1;by_cases ej:k=j
    ·subst ej;exact r.dj i k _ _ hij e1 hk
    ·rw [u5 ej] at e2;exact r.dj i j _ _ hij e1 e2
noncomputable def fz (k:Nat) (ρ:List Sl):List Sl:=match ρ[k]? with
 | some (.own xs)=>ρ.set k (.d (.list xs))
 | _=>ρ
theorem Rl.freeze (r:Rl PK pa yE H₀ m σ ρ G H) (k:Nat):∃ G',Sub G G'/\Rl PK pa yE H₀ m σ (fz k ρ) G' H:=by
 unfold fz
 split
 ·rename_i xs hk;obtain ⟨o,h1,h2⟩:=r.sl k _ hk;cases h2 with
  | @own p vs _ a1 a2 a3 a4 =>
   have hne:pa≠p:=λe=>by
    obtain ⟨u,hu⟩:=r.p0;rw [e,a3] at hu; cases hu
   have hl:k < ρ.length:=(uR.mp hk).1;have sb:Sub G (upd G p (.lst vs)):=Sub.new a2;refine ⟨upd G p (.lst vs),sb,r.wd.freeze a1 a2 hne,⟨λb o h=>sb b o (r.st.gs b o h),λb o h=>?_,r.st.hk⟩,r.p0,λi s h=>?_,by rw [vK]; exact r.len,λi j us ws hij e1 e2=>?_,Zew r.dj2 λa h=>by cases h⟩
   ·by_cases e:b=p
    ·subst e; exact .inr a3
    ·rw [ap e] at h; exact r.st.gn b o h
   ·by_cases e:k=i
    ·subst e;rw [vf hl] at h;cases h;exact ⟨_,h1,.d (.lst bq (DnAll.mono sb a4))⟩
    ·rw [u5 e] at h;obtain ⟨o,q1,q2⟩:=r.sl i s h;refine ⟨o,q1,?_⟩;cases q2 with
     | un=>exact .un
     | d z=>exact .d (z.mono sb)
     | pen=>exact .pen
     | dic b1 b2 b3 b4=>exact .dic b1 (by rw [ap (λe2=>by subst e2; rw [a1] at b1; cases b1)]; exact b2) b3 (b4.mono sb)
     | own b1 b2 b3 b4 =>
      refine .own b1 ?_ b3 (DnAll.mono sb b4);rw [ap]
      ·exact b2
      ·intro e2;subst e2;exact r.dj k i _ _ e hk h (by rw [h1,q1])
   ·have hi:k≠i:=λe=>by subst e; rw [vf hl] at e1; cases e1
    have hj:k≠j:=λe=>by subst e; rw [vf hl] at e2; cases e2
    rw [u5 hi] at e1;rw [u5 hj] at e2;exact r.dj i j _ _ hij e1 e2
 ·exact ⟨G,λ_ _ h=>h,r⟩
end
def TAe (PK:Pk) (i:List Sl->Tr PyData):TE:=λσ H Q=>∃ pa yE H₀ m ρ G,Rl PK pa yE H₀ m σ ρ G H/\(i ρ).ok m λm' x=>Kn PK pa m' G H x Q
def TAt (PK:Pk) (i:List Sl->Tr Bool):TT:=λσ H Q=>∃ pa yE H₀ m ρ G,Rl PK pa yE H₀ m σ ρ G H/\(i ρ).ok m λm' b=>∀ G' H',Stp pa G H G' H'->Wd PK pa m' G' H'->Q b H'
def TAd (PK:Pk) (i:List Sl->Tr yx):TA:=λσ H Q=>∃ pa yE H₀ m ρ G,Rl PK pa yE H₀ m σ ρ G H/\(i ρ).ok m λm' xs=>∀ vs G' H',Stp pa G H G' H'->Wd PK pa m' G' H'->DnAll G' vs xs->Q vs H'
def Ko1 (PK:Pk) (pa:Addr) (m:Nat) (G H:Hp) (xs:yx) (Q:VK):Prop:=∀ p vs G' H',Stp pa G H G' H'->Wd PK pa m G' H'->H p=none->G' p=none->H' p=some (.lst vs)->DnAll G' vs xs->Q (.ref p) H'
def eD (PK:Pk) (i:List Sl->Tr yx):TE:=λσ H Q=>∃ pa yE H₀ m ρ G,Rl PK pa yE H₀ m σ ρ G H/\(i ρ).ok m λm' xs=>Ko1 PK pa m' G H xs Q
inductive ArOk (pa:Addr) (G:Hp):V->Sl->Prop
 | d {v:V} {x:PyData}:Dn G v x->ArOk pa G v (.d x)
 | pen:ArOk pa G (.ref pa) .pen
inductive ArsOk (pa:Addr) (G:Hp):List V->List Sl->Prop
 | nil:ArsOk pa G [] []
 | cons {v:V} {vs:yB} {s:Sl} {ss:List Sl}:ArOk pa G v s->ArsOk pa G vs ss->ArsOk pa G (v::vs) (s::ss)
theorem ArOk.mono {pa:Addr} {G G':Hp} {v:V} {s:Sl} (h:ArOk pa G v s) (e:Sub G G'):ArOk pa G' v s:=by
 cases h with
 | d z=>exact .d (z.mono e)
 | pen=>exact .pen
theorem ArsOk.mono {pa:Addr} {G G':Hp} (e:Sub G G') {vs:yB} {ss:List Sl} (h:ArsOk pa G vs ss):ArsOk pa G' vs ss:=by
 induction h with
 | nil=>exact .nil
 | cons h t ih=>exact .cons (h.mono e) ih
theorem ArsOk.length {pa:Addr} {G:Hp} {vs:yB} {ss:List Sl} (h:ArsOk pa G vs ss):vs.length=ss.length:=by
 induction h with
 | nil=>rfl
 | cons h t ih=>exact congrArg (·+1) ih
def TAa (PK:Pk) (i:List Sl->Tr (List Sl)):TA:=λσ H Q=>∃ pa yE H₀ m ρ G,Rl PK pa yE H₀ m σ ρ G H/\(i ρ).ok m λm' as=>∀ vs G' H',Stp pa G H G' H'->Wd PK pa m' G' H'->ArsOk pa G' vs as->Q vs H'
inductive Re where
 | d (x:PyData) | own (xs:yx)
noncomputable def Re.val:Re->PyData
 | .d x=>x
 | .own xs=>.list xs
@[simp] theorem Re.val_d (x:PyData):(Re.d x).val=x:=rfl
@[simp] theorem Re.val_own (xs:yx):(Re.own xs).val=.list xs:=rfl
inductive Ou where
 | next (ρ:List Sl) | ret (r:Re) | brk (ρ:List Sl) | cont (ρ:List Sl)
abbrev yn:=List Sl->Tr PyData
abbrev yo:=List Sl->Tr (List PyData)
abbrev yp:=List Sl->Tr Bool
abbrev yq:=List Sl->Tr Ou
abbrev yr:=List Sl->Tr Re
abbrev yt:=List PyData->List Sl->Option (List Sl)
abbrev yu:=PyData->List Sl->Option (List Sl)
abbrev yD:=List Sl
noncomputable def Zqu (H₀ G H:Hp) (v:V):Re->Prop
 | .d x=>Dn G v x
 | .own xs=>∃ p vs,v=.ref p/\H p=some (.lst vs)/\G p=none/\H₀ p=none/\DnAll G vs xs
def Kr (PK:Pk) (pa:Addr) (m:Nat) (yE H₀:Hp) (r:Re) (Q:VK):Prop:=∀ v G H,Stp pa yE H₀ G H->Wd PK pa m G H->Zqu H₀ G H v r->Q v H
noncomputable def Ko (PK:Pk) (pa:Addr) (yE H₀ Gs:Hp) (D:Ends) (m:Nat):Ou->Prop
 | .next ρ=>∀ σ G H,Sub Gs G->Rl PK pa yE H₀ m σ ρ G H->D.nx σ H
 | .ret r=>Kr PK pa m yE H₀ r D.rt
 | .brk ρ=>∀ σ G H,Sub Gs G->Rl PK pa yE H₀ m σ ρ G H->D.bk σ H
 | .cont ρ=>∀ σ G H,Sub Gs G->Rl PK pa yE H₀ m σ ρ G H->D.ct σ H
def bF (PK:Pk) (i:yq):TS:=λD σ H=>∃ pa yE H₀ m ρ G,Rl PK pa yE H₀ m σ ρ G H/\(i ρ).ok m (Ko PK pa yE H₀ G D)
theorem PE.imp {X:Cx} {e:Expr} {t t':TE} (h:PE X e t) (q:∀ σ H Q,t' σ H Q->t σ H Q):PE X e t':=λpins s σ H Q I z=>h pins s σ H Q I (q σ H Q z)
theorem PT.imp {X:Cx} {e:Expr} {t t':TT} (h:PT X e t) (q:∀ σ H Q,t' σ H Q->t σ H Q):PT X e t':=λpins s σ H Q I z=>h pins s σ H Q I (q σ H Q z)
theorem PW.imp {X:Cx} {e:Expr} {t t':TT} (h:PW X e t) (q:∀ σ H Q,t' σ H Q->t σ H Q):PW X e t':=λwh pins s σ H Q I z=>h wh pins s σ H Q I (q σ H Q z)
theorem PA.imp {X:Cx} {e:List Expr} {t t':TA} (h:PA X e t) (q:∀ σ H Q,t' σ H Q->t σ H Q):PA X e t':=λpos pins s σ H Q I z=>h pos pins s σ H Q I (q σ H Q z)
theorem PS.imp {X:Cx} {e:Stmt} {t t':TS} (h:PS X e t) (q:∀ D σ H,t' D σ H->t D σ H):PS X e t':=λpins s σ H D I z=>h pins s σ H D I (q D σ H z)
theorem PSs.imp {X:Cx} {e:List Stmt} {t t':TS} (h:PSs X e t) (q:∀ D σ H,t' D σ H->t D σ H):PSs X e t':=λpins s σ H D I z=>h pins s σ H D I (q D σ H z)
variable {PK:Pk} {X:Cx} {a b c e:Expr} {es:List Expr} {pos:Pos} {i j l:yn}
theorem TAe.then {σ:St} {H:Hp} {β:Type} {k:PyData->Tr β} {Z:Nat->β->Prop} {Q:VK} {pa:Addr} {yE H₀ G:Hp} {m:Nat} {ρ:yD} (R:Rl PK pa yE H₀ m σ ρ G H) (h:((i ρ).bind k).ok m Z)
  (hq:∀ m1 x v G1 H1,Stp pa G H G1 H1->Wd PK pa m1 G1 H1->Rl PK pa yE H₀ m1 σ ρ G1 H1->Dn G1 v x->(k x).ok m1 Z->Q v H1):TAe PK i σ H Q:=by
 refine ⟨pa,yE,H₀,m,ρ,G,R,Tr.ok_mono (Tr.ok_bind.mp h) λm1 x hx v G1 H1 s1 w1 d1=>?_⟩;exact hq m1 x v G1 H1 s1 w1 (R.step s1 w1) d1 hx
noncomputable def aa (k:Nat):yn:=λρ=>match ρ[k]? with
 | some (.d x)=>.ret x
 | _=>.fail
noncomputable def aC (d:PyData):yn:=λ_=>.ret d
theorem ac {k:Nat} (h:PE X e (eS k)):PE X e (TAe PK (aa k)):=h.imp λσ H Q hz0=>by
 obtain ⟨pa,yE,H₀,m,ρ,G,R,q⟩:=hz0;unfold aa at q
 split at q
 ·rename_i x hx;obtain ⟨o,h1,h2⟩:=R.sl k _ hx;cases h2 with
  | d z=>exact ⟨_,h1,Kn.here q R.wd z⟩
 ·exact q.elim
theorem mz {v:V} {d:PyData} (h:PE X e (tC v)) (hd:∀ G,Dn G v d):PE X e (TAe PK (aC d)):=h.imp λσ H Q hz0=>by
 obtain ⟨pa,yE,H₀,m,ρ,G,R,q⟩:=hz0;exact Kn.here q R.wd (hd G)
theorem aA {n:Int} {k pos}:PE X (.Constant (.int n) k pos) (TAe PK (aC (.int n))):=mz cq λ_=>.int n
theorem eA {n:Bool} {k pos}:PE X (.Constant (.bool n) k pos) (TAe PK (aC (.bool n))):=mz ZiX λ_=>.bl n
theorem Zqf {k pos}:PE X (.Constant .none k pos) (TAe PK (aC .none)):=mz ZcF λ_=>.non
theorem jF {x:Str} {k pos}:PE X (.Constant (.str x) k pos) (TAe PK (aC (.str x))):=mz cX λ_=>.str x
theorem bO {x:Str} {n:Int} (hg:Gl X x) (h:∃ t,X.mg x=some (.int n t)) (hd:(x == ("__debug__":Str))=false:=by decide):PE X (.Name x pos) (TAe PK (aC (.int n))):=mz (ZiQ hg h hd) λ_=>.int n
def cA (r:R2) (f:yv):Prop:=∀ (PK:Pk) (pa:Addr) (m:Nat) (G H:Hp) (x y:V) (dx dy dz:PyData) (Q:VK),Wd PK pa m G H->Dn G x dx->Dn G y dy->f dx dy=some dz->Kn PK pa m G H dz Q->r x y H Q
noncomputable def ae (f:yv) (i j:yn):yn:=λρ=>(i ρ).bind λx=>(j ρ).bind λy=>Tr.of (f x y)
theorem pN {r:R2} {f:yv} (hv:cA r f):∀ σ H Q,TAe PK (ae f i j) σ H Q->iS r (TAe PK i) (TAe PK j) σ H Q:=by
 rintro σ H Q ⟨pa,yE,H₀,m,ρ,G,R,q⟩;refine TAe.then R q λm1 x v G1 H1 s1 w1 R1 d1 q1=>?_;refine TAe.then R1 q1 λm2 y u G2 H2 s2 w2 R2 d2 q2=>?_;obtain ⟨z,hz,k⟩:=Tr.ok_of q2;exact hv PK pa m2 G2 H2 v u x y z Q w2 (d1.mono s2.gs) d2 hz (Kn.later k (s1.trans s2 w1.some) w2.some)
theorem au {op:Operator} {r:R2} {f:yv} (ho:OpR X (binaryOp op) r) (hv:cA r f) (ha:PE X a (TAe PK i)) (hb:PE X b (TAe PK j)):PE X (.BinOp a op b pos) (TAe PK (ae f i j)) :=
 (b9 ho ha hb).imp (pN hv)
theorem my {op:CmpOp} {r:R2} {f:yv} (ho:OpR X (compareOp op) r) (hv:cA r f) (ha:PE X a (TAe PK i)) (hb:PE X b (TAe PK j)) (hm:behindInMarks op b=false):PE X (.Compare a [op] [b] pos) (TAe PK (ae f i j)) :=
 (ZiT ho ha hb hm).imp (pN hv)
theorem ZfD {r:R2} {f:yv} (hr:IxR X r) (hv:cA r f) (ha:PE X a (TAe PK i)) (hb:PE X b (TAe PK j)) (hs:pS b):PE X (.Subscript a b pos) (TAe PK (ae f i j)) :=
 (lE hr ha hb hs).imp (pN hv)
theorem aR {r:R2} {f:yv} (hr:IxR X r) (hv:cA r f) (ha:PE X a (TAe PK i)) (hb:PE X b (TAe PK j)) (hs:pS b:=by intro _ _; rfl):PE X (.Subscript a b pos) (TAe PK (ae f i j)):=ZfD hr hv ha hb hs
noncomputable def iR:PyData->Option Bool
 | .bool b=>some b
 | _=>none
@[simp] theorem Zq5 (b:Bool):iR (.bool b)=some b:=rfl
noncomputable def bE (i:yn):yp:=λρ=>(i ρ).bind λx=>Tr.of (iR x)
theorem ZfE:∀ σ H Q,TAt PK (bE i) σ H Q->ni (TAe PK i) σ H Q:=by
 rintro σ H Q ⟨pa,yE,H₀,m,ρ,G,R,q⟩;refine TAe.then R q λm1 x v G1 H1 s1 w1 R1 d1 q1=>?_;obtain ⟨b,hb,k⟩:=Tr.ok_of q1;cases d1 <;> simp only [iR] at hb <;> cases hb;exact ⟨_,rfl,k G1 H1 s1 w1⟩
theorem Zgy {t t':TE} (h:∀ σ H Q,t' σ H Q->t σ H Q):∀ σ H Q,ni t' σ H Q->ni t σ H Q:=λσ H Q z=>h σ H _ z
theorem cv {op:CmpOp} {r:R2} {f:yv} (ho:OpR X (compareOp op) r) (hv:cA r f) (ha:PE X a (TAe PK i)) (hb:PE X b (TAe PK j)) (hm:behindInMarks op b=false):PT X (.Compare a [op] [b] pos) (TAt PK (bE (ae f i j))) :=
 (lz ho ha hb hm).imp λσ H Q z=>Zgy (pN hv) σ H Q (ZfE σ H Q z)
theorem ZpU (h:PE X e (TAe PK i)) (he:∀ whole,isTrue e X.env whole=(do let v <- whole; standAt e.pos; holding [v] (truthy v)):=by intro _; rfl):PT X e (TAt PK (bE i)):=(Zcr h he).imp λσ H Q z=>ZfE σ H Q z
noncomputable def Zat:PyData->Option Bool
 | .bool b=>some b
 | .int n=>some (n != 0)
 | .none=>some false
 | .list xs=>some (!xs.isEmpty)
 | .tuple xs=>some (!xs.isEmpty)
 | _=>none
noncomputable def fj (i:yn):yp:=λρ=>(i ρ).bind λx=>Tr.of (Zat x)
theorem DnAll.isEmpty {H:Hp} {vs:yB} {ds:yx} (h:DnAll H vs ds):vs.isEmpty=ds.isEmpty:=by
 cases h <;> rfl
theorem gm (h:PE X e (TAe PK i)) (he:∀ whole,isTrue e X.env whole=(do let v <- whole; standAt e.pos; holding [v] (truthy v)):=by intro _; rfl):PT X e (TAt PK (fj i)):=(Zin h he).imp λσ H Q hz0=>by
 obtain ⟨pa,yE,H₀,m,ρ,G,R,q⟩:=hz0;refine TAe.then R q λm1 x v G1 H1 s1 w1 R1 d1 q1=>?_;obtain ⟨b,hb,k⟩:=Tr.ok_of q1;have fin:=k G1 H1 s1 w1;cases d1 with
 | non=>cases hb; exact ⟨_,rfl,fin⟩
 | bl b=>cases hb; exact ⟨_,rfl,fin⟩
 | int n=>cases hb; exact ⟨_,rfl,fin⟩
 | str _=>cases hb
 | tup h1 h2=>cases hb; exact ⟨_,.inr (.inl ⟨_,SqT.of (w1.sub _ _ h1),rfl⟩),by rw [h2.isEmpty]; exact fin⟩
 | lst h1 h2=>cases hb; exact ⟨_,.inl ⟨_,SqL.of (w1.sub _ _ h1),rfl⟩,by rw [h2.isEmpty]; exact fin⟩
 | dct _ _=>cases hb
noncomputable def pP (i j:yp):yp:=λρ=>(i ρ).bind λx=>if x=true then j ρ else .ret false
noncomputable def g6 (i j:yp):yp:=λρ=>(i ρ).bind λx=>if x=true then .ret true else j ρ
noncomputable def fM (i:yp):yp:=λρ=>(i ρ).bind λx=>.ret (!x)
variable {p q:yp} {rest:List Expr}
theorem TAt.then {σ:St} {H:Hp} {β:Type} {k:Bool->Tr β} {Z:Nat->β->Prop} {Q:Bool->Hp->Prop} {pa:Addr} {yE H₀ G:Hp} {m:Nat} {ρ:yD} (R:Rl PK pa yE H₀ m σ ρ G H) (h:((p ρ).bind k).ok m Z)
  (hq:∀ m1 x G1 H1,Stp pa G H G1 H1->Wd PK pa m1 G1 H1->Rl PK pa yE H₀ m1 σ ρ G1 H1->(k x).ok m1 Z->Q x H1):TAt PK p σ H Q:=by
 refine ⟨pa,yE,H₀,m,ρ,G,R,Tr.ok_mono (Tr.ok_bind.mp h) λm1 x hx G1 H1 s1 w1=>?_⟩;exact hq m1 x G1 H1 s1 w1 (R.step s1 w1) hx
theorem Zfl {yE H₀ G H G1 H1:Hp} {m:Nat} {σ:St} {ρ:yD} {pa:Addr} {Q:Bool->Hp->Prop} (R1:Rl PK pa yE H₀ m σ ρ G1 H1) (s1:Stp pa G H G1 H1) (h:(q ρ).ok m λm' b=>∀ G' H',Stp pa G H G' H'->Wd PK pa m' G' H'->Q b H'):TAt PK q σ H1 Q :=
 ⟨pa,yE,H₀,m,ρ,G1,R1,Tr.ok_mono h λm2 b k G2 H2 s2 w2=>k G2 H2 (s1.trans s2 R1.wd.some) w2⟩
theorem uo {yE H₀ G H G1 H1:Hp} {m:Nat} {σ:St} {ρ:yD} {pa:Addr} {Q:VK} (R1:Rl PK pa yE H₀ m σ ρ G1 H1) (s1:Stp pa G H G1 H1) (h:(i ρ).ok m λm' x=>Kn PK pa m' G H x Q):TAe PK i σ H1 Q :=
 ⟨pa,yE,H₀,m,ρ,G1,R1,Tr.ok_mono h λm2 b k=>Kn.later k s1 R1.wd.some⟩
theorem Zfi (ha:PT X a (TAt PK p)):PW X (.BoolOp .And [a] pos) (TAt PK p):=Zcp ha
theorem kI (ha:PT X a (TAt PK p)):PW X (.BoolOp .Or [a] pos) (TAt PK p):=Zil ha
theorem Zfj (ha:PT X a (TAt PK p)) (hb:PW X (.BoolOp .And (b::rest) pos) (TAt PK q)):PW X (.BoolOp .And (a::b::rest) pos) (TAt PK (pP p q)):=(Zcq ha hb).imp λσ H Q hz0=>by
 obtain ⟨pa,yE,H₀,m,ρ,G,R,z⟩:=hz0;refine TAt.then R z λm1 x G1 H1 s1 w1 R1 q1=>?_;cases x with
 | true=>rw [if_pos rfl] at q1 ⊢; exact Zfl R1 s1 q1
 | false=>rw [if_neg u3] at q1 ⊢; exact q1 G1 H1 s1 w1
theorem jD (ha:PT X a (TAt PK p)) (hb:PW X (.BoolOp .Or (b::rest) pos) (TAt PK q)):PW X (.BoolOp .Or (a::b::rest) pos) (TAt PK (g6 p q)):=(Zim ha hb).imp λσ H Q hz0=>by
 obtain ⟨pa,yE,H₀,m,ρ,G,R,z⟩:=hz0;refine TAt.then R z λm1 x G1 H1 s1 w1 R1 q1=>?_;cases x with
 | true=>rw [if_pos rfl] at q1 ⊢; exact q1 G1 H1 s1 w1
 | false=>rw [if_neg u3] at q1 ⊢; exact Zfl R1 s1 q1
theorem iH (h:PW X e (TAt PK p)):PT X e (TAt PK p):=h.pt
theorem gX (ha:PT X a (TAt PK p)):PT X (.UnaryOp .Not a pos) (TAt PK (fM p)):=(Zio ha).imp λσ H Q hz0=>by
 obtain ⟨pa,yE,H₀,m,ρ,G,R,z⟩:=hz0;refine TAt.then R z λm1 x G1 H1 s1 w1 R1 q1=>?_;exact q1 G1 H1 s1 w1
noncomputable def jK (i j:yn):yn:=λρ=>(bE i ρ).bind λx=>if x=true then j ρ else .ret (.bool false)
noncomputable def ZfG (i:yn):yn:=λρ=>(bE i ρ).bind λx=>.ret (.bool (!x))
theorem TAe.thenB {σ:St} {H:Hp} {β:Type} {k:Bool->Tr β} {Z:Nat->β->Prop} {Q:VK} {pa:Addr} {yE H₀ G:Hp} {m:Nat} {ρ:yD} (R:Rl PK pa yE H₀ m σ ρ G H) (h:((bE i ρ).bind k).ok m Z)
  (hq:∀ m1 c G1 H1,Stp pa G H G1 H1->Wd PK pa m1 G1 H1->Rl PK pa yE H₀ m1 σ ρ G1 H1->(k c).ok m1 Z->Q (.bl c) H1):TAe PK i σ H Q:=by
 unfold bE at h;rw [Tr.bind_assoc] at h;refine TAe.then R h λm1 x v G1 H1 s1 w1 R1 d1 q1=>?_;rw [Tr.ok_bind] at q1;obtain ⟨c,hb,q1⟩:=Tr.ok_of q1;cases d1 <;> simp only [iR] at hb <;> cases hb;exact hq m1 _ G1 H1 s1 w1 R1 q1
theorem pC {op} (h:PE X a (TAe PK i)):PE X (.BoolOp op [a] pos) (TAe PK i):=ZcE h
theorem mB (ha:PE X a (TAe PK i)) (hb:PE X (.BoolOp .And (b::rest) pos) (TAe PK j)):PE X (.BoolOp .And (a::b::rest) pos) (TAe PK (jK i j)):=(ZcH ha hb).imp λσ H Q hz0=>by
 obtain ⟨pa,yE,H₀,m,ρ,G,R,z⟩:=hz0;refine TAe.thenB R z λm1 x G1 H1 s1 w1 R1 q1=>⟨x,rfl,?_⟩;cases x with
 | true=>rw [if_pos rfl] at q1 ⊢; exact uo R1 s1 q1
 | false=>rw [if_neg u3] at q1 ⊢; exact (Kn.later q1 s1 w1.some).here w1 (.bl false)
theorem Zqe (ha:PE X a (TAe PK i)):PE X (.UnaryOp .Not a pos) (TAe PK (ZfG i)):=(ZiM ha).imp λσ H Q hz0=>by
 obtain ⟨pa,yE,H₀,m,ρ,G,R,z⟩:=hz0;refine TAe.thenB R z λm1 x G1 H1 s1 w1 R1 q1=>⟨x,rfl,?_⟩;exact (Kn.later q1 s1 w1.some).here w1 (.bl _)
noncomputable def uy (p:yp) (i j:yn):yn:=λρ=>(p ρ).bind λx=>if x=true then i ρ else j ρ
theorem Zqg (hc:PT X c (TAt PK p)) (ha:PE X a (TAe PK i)) (hb:PE X b (TAe PK j)):PE X (.IfExp c a b pos) (TAe PK (uy p i j)):=(ZiP hc ha hb).imp λσ H Q hz0=>by
 obtain ⟨pa,yE,H₀,m,ρ,G,R,z⟩:=hz0;refine TAt.then R z λm1 x G1 H1 s1 w1 R1 q1=>?_;cases x with
 | true=>rw [if_pos rfl] at q1 ⊢; exact uo R1 s1 q1
 | false=>rw [if_neg u3] at q1 ⊢; exact uo R1 s1 q1
variable {is:yo}
noncomputable def aq:yo:=λ_=>.ret []
noncomputable def ah (i:yn) (is:yo):yo:=λρ=>(i ρ).bind λx=>(is ρ).bind λxs=>.ret (x::xs)
theorem aF:PA X [] (TAd PK aq):=bM.imp λσ H Q hz0=>by
 obtain ⟨pa,yE,H₀,m,ρ,G,R,z⟩:=hz0;exact z [] G H .refl R.wd .nil
theorem TAd.then {σ:St} {H:Hp} {β:Type} {k:List PyData->Tr β} {Z:Nat->β->Prop} {Q:List V->Hp->Prop} {pa:Addr} {yE H₀ G:Hp} {m:Nat} {ρ:yD} (R:Rl PK pa yE H₀ m σ ρ G H) (h:((is ρ).bind k).ok m Z)
  (hq:∀ m1 xs vs G1 H1,Stp pa G H G1 H1->Wd PK pa m1 G1 H1->Rl PK pa yE H₀ m1 σ ρ G1 H1->DnAll G1 vs xs->(k xs).ok m1 Z->Q vs H1):TAd PK is σ H Q:=by
 refine ⟨pa,yE,H₀,m,ρ,G,R,Tr.ok_mono (Tr.ok_bind.mp h) λm1 x hx v G1 H1 s1 w1 d1=>?_⟩;exact hq m1 x v G1 H1 s1 w1 (R.step s1 w1) d1 hx
theorem ai (ha:PE X e (TAe PK i)) (hr:PA X es (TAd PK is)) (hs:starEach (e::es) X.env=(false,eval e X.env)::starEach es X.env:=by rfl):PA X (e::es) (TAd PK (ah i is)):=(aV ha hr hs).imp λσ H Q hz0=>by
 obtain ⟨pa,yE,H₀,m,ρ,G,R,z⟩:=hz0;refine TAe.then R z λm1 x v G1 H1 s1 w1 R1 d1 q1=>?_;refine TAd.then R1 q1 λm2 xs vs G2 H2 s2 w2 R2 d2 q2=>?_;exact q2 _ _ _ (s1.trans s2 w1.some) w2 (.cons (d1.mono s2.gs) d2)
noncomputable def small (n:Nat):Bool:=decide (n<=sizeLine)
noncomputable def cj (is:yo):yn:=λρ=>(is ρ).bind λxs=>if small xs.length=true then .ret (.tuple xs) else .fail
noncomputable def bU (is:yo):yn:=λρ=>(is ρ).bind λxs=>.ret (.list xs)
noncomputable def di (is:yo):yo:=λρ=>(is ρ).bind λxs=>if small xs.length=true then .ret xs else .fail
theorem eY {α:Type} {c:Bool} {t:Tr α} {m:Nat} {Q:Nat->α->Prop} (h:(if c=true then t else .fail).ok m Q):c=true/\t.ok m Q:=by
 cases c with
 | true=>exact ⟨rfl,h⟩
 | false=>exact h.elim
theorem cD {x1} (h:PA X es (TAd PK is)):PE X (.Tuple es x1 pos) (TAe PK (cj is)):=(rO h).imp λσ H Q hz0=>by
 obtain ⟨pa,yE,H₀,m,ρ,G,R,z⟩:=hz0;refine TAd.then R z λm1 xs vs G1 H1 s1 w1 R1 d1 q1=>?_;obtain ⟨hs,k⟩:=eY q1;exact ⟨by rw [d1.length]; exact of_decide_eq_true hs,λp hp=>(Kn.later k s1 w1.some).tup w1 d1 hp⟩
theorem Ko1.new {pa:Addr} {m:Nat} {G H:Hp} {xs:yx} {vs:yB} {Q:VK} {p:Addr} (k:Ko1 PK pa m G H xs Q) (w:Wd PK pa m G H) (d:DnAll G vs xs) (hp:H p=none):Q (.ref p) (upd H p (.lst vs)):=by
 obtain ⟨w1,s1⟩:=w.own (o:=.lst vs) hp;exact k p vs G _ s1 w1 hp (w.gnone hp) bq d
theorem Ko1.later {pa:Addr} {m:Nat} {G H G1 H1:Hp} {xs:yx} {Q:VK} (k:Ko1 PK pa m G H xs Q) (s:Stp pa G H G1 H1) (hp:∃ o,H1 pa=some o):Ko1 PK pa m G1 H1 xs Q:=λp vs G' H' s' w' h1 h2 h3 h4=>by
 refine k p vs G' H' (s.trans s' hp) w' ?_ h2 h3 h4;cases e:H p with
 | none=>rfl
 | some u =>
  by_cases hc:p=pa
  ·subst hc;obtain ⟨o,z⟩:=hp;rw [h1] at z; cases z
  ·rw [s.hk p u e hc] at h1; cases h1
theorem dO (h:PA X es (TAd PK is)):PE X (.List es pos) (eD PK (di is)):=(ZcG h).imp λσ H Q hz0=>by
 obtain ⟨pa,yE,H₀,m,ρ,G,R,z⟩:=hz0;refine TAd.then R z λm1 xs vs G1 H1 s1 w1 R1 d1 q1=>?_;obtain ⟨hs,k⟩:=eY q1;exact ⟨by rw [d1.length]; exact of_decide_eq_true hs,λp hp=>(Ko1.later k s1 w1.some).new w1 d1 hp⟩
theorem Ko1.of {pa:Addr} {m:Nat} {G H:Hp} {xs:yx} {Q:VK} (k:Kn PK pa m G H (.list xs) Q) (hp:∃ o,H pa=some o):Ko1 PK pa m G H xs Q:=λp vs G' H' s w h1 h2 h3 h4=>by
 have hne:pa≠p:=λe=>by
  obtain ⟨o,z⟩:=hp;rw [e,h1] at z; cases z
 have sb:Sub G' (upd G' p (.lst vs)):=Sub.new h2;refine k _ (upd G' p (.lst vs)) H' ⟨λb o h=>sb b o (s.gs b o h),λb o h=>?_,s.hk⟩ (w.freeze h3 h2 hne) (.lst bq (DnAll.mono sb h4));by_cases e:b=p
 ·subst e; exact .inr h1
 ·rw [ap e] at h; exact s.gn b o h
theorem cE (h:PE X e (eD PK is)):PE X e (TAe PK (bU is)):=h.imp λσ H Q hz0=>by
 obtain ⟨pa,yE,H₀,m,ρ,G,R,z⟩:=hz0;refine ⟨pa,yE,H₀,m,ρ,G,R,Tr.ok_mono (Tr.ok_bind.mp z) λm1 xs k=>Ko1.of k R.wd.some⟩
def dR (r:List V->Hp->VK->Prop) (f:List PyData->Option PyData):Prop:=∀ (PK:Pk) (pa:Addr) (m:Nat) (G H:Hp) (vs:yB) (ds:yx) (d:PyData) (Q:VK),Wd PK pa m G H->DnAll G vs ds->f ds=some d->Kn PK pa m G H d Q->r vs H Q
def uB (r:List V->Hp->VK->Prop) (f:List PyData->Option yx):Prop:=∀ (PK:Pk) (pa:Addr) (m:Nat) (G H:Hp) (vs:yB) (ds:yx) (d:yx) (Q:VK),Wd PK pa m G H->DnAll G vs ds->f ds=some d->Ko1 PK pa m G H d Q->r vs H Q
noncomputable def bh (f:List PyData->Option PyData) (is:yo):yn:=λρ=>(is ρ).bind λxs=>Tr.of (f xs)
noncomputable def pM (f:List PyData->Option yx) (is:yo):yo:=λρ=>(is ρ).bind λxs=>Tr.of (f xs)
theorem Zqq {r:List V->Hp->VK->Prop} {f:List PyData->Option PyData} (hv:dR r f):∀ σ H Q,TAe PK (bh f is) σ H Q->fq r (TAd PK is) σ H Q:=by
 rintro σ H Q ⟨pa,yE,H₀,m,ρ,G,R,z⟩;refine TAd.then R z λm1 xs vs G1 H1 s1 w1 R1 d1 q1=>?_;obtain ⟨d,hd,k⟩:=Tr.ok_of q1;exact hv PK pa m1 G1 H1 vs xs d Q w1 d1 hd (Kn.later k s1 w1.some)
theorem Zqp {r:List V->Hp->VK->Prop} {f:List PyData->Option yx} (hv:uB r f):∀ σ H Q,eD PK (pM f is) σ H Q->fq r (TAd PK is) σ H Q:=by
 rintro σ H Q ⟨pa,yE,H₀,m,ρ,G,R,z⟩;refine TAd.then R z λm1 xs vs G1 H1 s1 w1 R1 d1 q1=>?_;obtain ⟨d,hd,k⟩:=Tr.ok_of q1;exact hv PK pa m1 G1 H1 vs xs d Q w1 d1 hd (Ko1.later k s1 w1.some)
theorem bI {t:TA} {r:List V->Hp->VK->Prop} {f:List PyData->Option PyData} (h:PE X e (fq r (TAd PK is))) (hv:dR r f):PE X e (TAe PK (bh f is)):=h.imp (Zqq hv)
theorem Zp3 {t:TA} {r:List V->Hp->VK->Prop} {f:List PyData->Option yx} (h:PE X e (fq r (TAd PK is))) (hv:uB r f):PE X e (eD PK (pM f is)):=h.imp (Zqp hv)
variable {as:List Sl->Tr yD}
noncomputable def ak:List Sl->Tr yD:=λ_=>.ret []
noncomputable def ad (i:yn) (as:List Sl->Tr yD):List Sl->Tr yD:=λρ=>(i ρ).bind λx=>(as ρ).bind λxs=>.ret (.d x::xs)
noncomputable def cg (k:Nat) (as:List Sl->Tr yD):List Sl->Tr yD:=λρ=>match ρ[k]? with
 | some .pen=>(as ρ).bind λxs=>.ret (.pen::xs)
 | _=>.fail
theorem aB:PA X [] (TAa PK ak):=bM.imp λσ H Q hz0=>by
 obtain ⟨pa,yE,H₀,m,ρ,G,R,z⟩:=hz0;exact z [] G H .refl R.wd .nil
theorem TAa.then {σ:St} {H:Hp} {β:Type} {k:List Sl->Tr β} {Z:Nat->β->Prop} {Q:List V->Hp->Prop} {pa:Addr} {yE H₀ G:Hp} {m:Nat} {ρ:yD} (R:Rl PK pa yE H₀ m σ ρ G H) (h:((as ρ).bind k).ok m Z)
  (hq:∀ m1 xs vs G1 H1,Stp pa G H G1 H1->Wd PK pa m1 G1 H1->Rl PK pa yE H₀ m1 σ ρ G1 H1->ArsOk pa G1 vs xs->(k xs).ok m1 Z->Q vs H1):TAa PK as σ H Q:=by
 refine ⟨pa,yE,H₀,m,ρ,G,R,Tr.ok_mono (Tr.ok_bind.mp h) λm1 x hx v G1 H1 s1 w1 d1=>?_⟩;exact hq m1 x v G1 H1 s1 w1 (R.step s1 w1) d1 hx
theorem af (ha:PE X e (TAe PK i)) (hr:PA X es (TAa PK as)) (hs:starEach (e::es) X.env=(false,eval e X.env)::starEach es X.env:=by rfl):PA X (e::es) (TAa PK (ad i as)):=(aV ha hr hs).imp λσ H Q hz0=>by
 obtain ⟨pa,yE,H₀,m,ρ,G,R,z⟩:=hz0;refine TAe.then R z λm1 x v G1 H1 s1 w1 R1 d1 q1=>?_;refine TAa.then R1 q1 λm2 xs vs G2 H2 s2 w2 R2 d2 q2=>?_;exact q2 _ _ _ (s1.trans s2 w1.some) w2 (.cons (.d (d1.mono s2.gs)) d2)
theorem dh {k:Nat} (ha:PE X e (eS k)) (hr:PA X es (TAa PK as)) (hs:starEach (e::es) X.env=(false,eval e X.env)::starEach es X.env:=by rfl):PA X (e::es) (TAa PK (cg k as)):=(aV ha hr hs).imp λσ H Q hz0=>by
 obtain ⟨pa,yE,H₀,m,ρ,G,R,z⟩:=hz0;unfold cg at z
 split at z
 ·rename_i hk;obtain ⟨o,h1,h2⟩:=R.sl k _ hk;cases h2;refine ⟨_,h1,?_⟩;refine TAa.then R z λm2 xs vs G2 H2 s2 w2 R2 d2 q2=>?_;exact q2 _ _ _ s2 w2 (.cons .pen d2)
 ·exact z.elim
def aSp (PK:Pk) (n:Nat) (f:yr):Sp:=λvs H Q _=>vs.length=n/\∃ pa m G as,Wd PK pa m G H/\ArsOk pa G vs as/\(f as).ok m λm' r=>Kr PK pa m' G H r Q
noncomputable def av (f:yr) (as:List Sl->Tr yD):yr:=λρ=>(as ρ).bind f
noncomputable def ay (f:yr):yn:=λρ=>(f ρ).bind λr=>.ret r.val
def mJ (PK:Pk) (i:yr):TE:=λσ H Q=>∃ pa yE H₀ m ρ G,Rl PK pa yE H₀ m σ ρ G H/\(i ρ).ok m λm' r=>Kr PK pa m' G H r Q
theorem Kr.later {pa:Addr} {m:Nat} {G H G1 H1:Hp} {r:Re} {Q:VK} (k:Kr PK pa m G H r Q) (s:Stp pa G H G1 H1) (hp:∃ o,H1 pa=some o):Kr PK pa m G1 H1 r Q:=λv G' H' s' w' d=>by
 refine k v G' H' (s.trans s' hp) w' ?_;cases r with
 | d x=>exact d
 | own xs =>
  obtain ⟨p,vs,e,h1,h2,h3,h4⟩:=d;refine ⟨p,vs,e,h1,h2,?_,h4⟩;cases e:H p with
  | none=>rfl
  | some u =>
   by_cases hc:p=pa
   ·subst hc;obtain ⟨o,z⟩:=hp;rw [h3] at z; cases z
   ·rw [s.hk p u e hc] at h3; cases h3
theorem Kr.of {pa:Addr} {m:Nat} {G H:Hp} {r:Re} {Q:VK} (k:Kn PK pa m G H r.val Q) (hp:∃ o,H pa=some o):Kr PK pa m G H r Q:=λv G' H' s w d=>by
 cases r with
 | d x=>exact k v G' H' s w d
 | own xs =>
  obtain ⟨p,vs,rfl,h1,h2,h3,h4⟩:=d;exact Ko1.of k hp p vs G' H' s w h3 h2 h1 h4
theorem aI {f:yr} (h:PE X e (mJ PK f)):PE X e (TAe PK (ay f)):=h.imp (by
 intro σ H Q z;obtain ⟨pa,yE,H₀,m,ρ,G,R,z⟩:=z;exact ⟨pa,yE,H₀,m,ρ,G,R,Tr.ok_mono (Tr.ok_bind.mp z) λm1 r k=>Kr.of k R.wd.some⟩)
structure ACal (PK:Pk) (P:Program) (w:World) (K:ym) (mg:yC) (base:Heap) (x:Str) (k:Nat) (ps:yA) (f:yr):Prop where
 cal:Callee P w K mg base x k ps (aSp PK ps.length f)
 len:∀ as m Z,(f as).ok m Z->as.length=ps.length
theorem gZ {x:Str} {k:Nat} {ps:yA} {f:yr} {pp:Pos} (C:ACal PK X.prog X.w X.K X.mg X.base x k ps f) (hr:Room k X.A) (hg:Gl X x) (ha:PA X (e::es) (TAa PK as))
  (hdb:(x == ("__debug__":Str))=false:=by decide)
  (he:starEach (e::es) X.env=(false,eval e X.env)::starEach es X.env:=by rfl) (hpl:(backTo pos (starEach es X.env)).any (·.1)=false:=by rfl):PE X (.Call (.Name x pp) (e::es) [] pos) (mJ PK (av f as)) :=
 (nK C.cal hr hg ha hdb he hpl).imp λσ H Q hz0=>by
  obtain ⟨pa,yE,H₀,m,ρ,G,R,z⟩:=hz0;refine TAa.then R z λm1 xs vs G1 H1 s1 w1 R1 d1 q1=>?_;show aSp PK ps.length f (vs++[]) H1 Q E0;rw [vo];exact ⟨by rw [d1.length]; exact C.len _ _ _ q1,pa,m1,G1,xs,w1,d1,Tr.ok_mono q1 λm2 r k=>Kr.later k s1 w1.some⟩
theorem aJ {x:Str} {k n:Nat} {ps:yA} {f:yr} {pp:Pos} (C:ACal PK X.prog X.w X.K X.mg X.base x k ps f) (hr:Room n X.A) (ha:PA X (e::es) (TAa PK as)) (hk:k<=n:=by decide) (hg:Gl X x:=by rfl) (hdb:(x == ("__debug__":Str))=false:=by decide) (he:starEach (e::es) X.env=(false,eval e X.env)::starEach es X.env:=by rfl) (hpl:(backTo pos (starEach es X.env)).any (·.1)=false:=by rfl):PE X (.Call (.Name x pp) (e::es) [] pos) (mJ PK (av f as)):=gZ C (hr.mono hk) hg ha hdb he hpl
variable {PK:Pk} {X:Cx} {a b c e:Expr} {es:List Expr} {pos:Pos} {i j l:yn} {is:yo} {as:List Sl->Tr yD} {f:yr} {p q:yp} {st:Stmt} {sts:List Stmt} {s t u:yq}
noncomputable def ao (s t:yq):yq:=λρ=>(s ρ).bind λo=>match o with
 | .next ρ'=>t ρ'
 | o=>.ret o
noncomputable def cy:yq:=λρ=>.ret (.next ρ)
theorem Ko.later {pa:Addr} {yE H₀ Gs G:Hp} {D:Ends} {m:Nat} {o:Ou} (k:Ko PK pa yE H₀ Gs D m o) (sb:Sub Gs G):Ko PK pa yE H₀ G D m o:=by
 cases o with
 | next ρ=>exact λσ G' H s R=>k σ G' H (λb o h=>s b o (sb b o h)) R
 | ret r=>exact k
 | brk ρ=>exact λσ G' H s R=>k σ G' H (λb o h=>s b o (sb b o h)) R
 | cont ρ=>exact λσ G' H s R=>k σ G' H (λb o h=>s b o (sb b o h)) R
theorem Sub.refl {G:Hp}:Sub G G:=λ_ _ h=>h
theorem Sub.trans {G G1 G2:Hp} (a:Sub G G1) (b:Sub G1 G2):Sub G G2:=λc o h=>b c o (a c o h)
theorem cU:PSs X [] (bF PK cy):=i0.imp λD σ H hz0=>by
 obtain ⟨pa,yE,H₀,m,ρ,G,R,z⟩:=hz0;exact z σ G H .refl R
theorem Zqo:∀ D σ H,bF PK (ao s t) D σ H->Zax (bF PK s) (bF PK t) D σ H:=by
 rintro D σ H ⟨pa,yE,H₀,m,ρ,G,R,z⟩;refine ⟨pa,yE,H₀,m,ρ,G,R,Tr.ok_mono (Tr.ok_bind.mp z) λm1 o k=>?_⟩;cases o with
 | next ρ'=>exact λσ' G' H' sb R'=>⟨pa,yE,H₀,m1,ρ',G',R',Tr.ok_mono k λ_ _ k'=>Ko.later k' sb⟩
 | ret r=>exact k
 | brk ρ'=>exact k
 | cont ρ'=>exact k
theorem aw (h1:PS X st (bF PK s)) (h2:PSs X sts (bF PK t)):PSs X (st::sts) (bF PK (ao s t)):=(cG h1 h2).imp Zqo
theorem aK (h1:PS X st (bF PK s)):PSs X [st] (bF PK s):=eI h1
noncomputable def ux:yq:=λ_=>.fail
theorem Zfr:PS X st (bF PK ux):=λ_ _ _ _ _ _ h=>by
 obtain ⟨pa,yE,H₀,m,ρ,G,R,z⟩:=h;exact z.elim
noncomputable def kO (i:yn):yq:=λρ=>(i ρ).bind λ_=>.ret (.next ρ)
theorem pq (he:PE X e (TAe PK i)) (hs:swapsWith e none pos.line X.env=pure false:=by rfl):PS X (.Expr e pos) (bF PK (kO i)):=(i6 he hs).imp λD σ H hz0=>by
 obtain ⟨pa,yE,H₀,m,ρ,G,R,z⟩:=hz0;refine TAe.then R z λm1 x v G1 H1 s1 w1 R1 d1 q1=>?_;exact q1 σ G1 H1 s1.gs R1
noncomputable def bu (i:yn):yq:=λρ=>(i ρ).bind λx=>.ret (.ret (.d x))
theorem bA (he:PE X e (TAe PK i)):PS X (.Return (some e) pos) (bF PK (bu i)):=(eV he).imp λD σ H hz0=>by
 obtain ⟨pa,yE,H₀,m,ρ,G,R,z⟩:=hz0;refine TAe.then R z λm1 x v G1 H1 s1 w1 R1 d1 q1=>?_;exact q1 v G1 H1 R1.st w1 d1
noncomputable def uw (is:yo):yq:=λρ=>(is ρ).bind λx=>.ret (.ret (.own x))
theorem ZpY (he:PE X e (eD PK is)):PS X (.Return (some e) pos) (bF PK (uw is)):=(eV he).imp λD σ H hz0=>by
 obtain ⟨pa,yE,H₀,m,ρ,G,R,z⟩:=hz0;refine ⟨pa,yE,H₀,m,ρ,G,R,Tr.ok_mono (Tr.ok_bind.mp z) λm1 xs k p vs G1 H1 s1 w1 h1 h2 h3 h4=>?_⟩;exact k (.ref p) G1 H1 (R.st.trans s1 R.wd.some) w1 ⟨p,vs,rfl,h3,h2,R.h0 h1,h4⟩
noncomputable def iJ (f:yr):yq:=λρ=>(f ρ).bind λr=>.ret (.ret r)
theorem kJ (he:PE X e (mJ PK f)):PS X (.Return (some e) pos) (bF PK (iJ f)):=(eV he).imp (by
 intro D σ H z;obtain ⟨pa,yE,H₀,m,ρ,G,R,z⟩:=z;exact ⟨pa,yE,H₀,m,ρ,G,R,Tr.ok_mono (Tr.ok_bind.mp z) λm1 r k=>Kr.later k R.st R.wd.some⟩)
noncomputable def gt (k:Nat):yq:=λρ=>match ρ[k]? with
 | some (.d x)=>.ret (.ret (.d x))
 | some (.own xs)=>.ret (.ret (.own xs))
 | _=>.fail
theorem ph {k:Nat} (he:PE X e (eS k)):PS X (.Return (some e) pos) (bF PK (gt k)):=(eV he).imp λD σ H hz0=>by
 obtain ⟨pa,yE,H₀,m,ρ,G,R,z⟩:=hz0;unfold gt at z
 split at z
 ·rename_i x hx;obtain ⟨o,h1,h2⟩:=R.sl k _ hx;cases h2 with
  | d d1=>exact ⟨_,h1,z _ G H R.st R.wd d1⟩
 ·rename_i xs hx;obtain ⟨o,h1,h2⟩:=R.sl k _ hx;cases h2 with
  | own a1 a2 a3 a4=>exact ⟨_,h1,z _ G H R.st R.wd ⟨_,_,rfl,a1,a2,a3,a4⟩⟩
 ·exact z.elim
noncomputable def cz (p:yp) (s t:yq):yq:=λρ=>(p ρ).bind λx=>if x=true then s ρ else t ρ
theorem cV {xs ys:List Stmt} (hc:PT X c (TAt PK p)) (ha:PSs X xs (bF PK s)) (hb:PSs X ys (bF PK t)):PS X (.If c xs ys pos) (bF PK (cz p s t)):=(i5 hc ha hb).imp λD σ H hz0=>by
 obtain ⟨pa,yE,H₀,m,ρ,G,R,z⟩:=hz0;refine TAt.then R z λm1 x G1 H1 s1 w1 R1 q1=>?_;cases x with
 | true=>rw [if_pos rfl] at q1 ⊢; exact ⟨pa,yE,H₀,m1,ρ,G1,R1,Tr.ok_mono q1 λ_ _ k'=>Ko.later k' s1.gs⟩
 | false=>rw [if_neg u3] at q1 ⊢; exact ⟨pa,yE,H₀,m1,ρ,G1,R1,Tr.ok_mono q1 λ_ _ k'=>Ko.later k' s1.gs⟩
noncomputable def aX (k:Nat) (i:yn):yq:=λρ=>(i ρ).bind λx=>.ret (.next (ρ.set k (.d x)))
theorem bf {k:Nat} (h:PS X st (ft (TAe PK i) (gj k))):PS X st (bF PK (aX k i)):=h.imp λD σ H hz0=>by
 obtain ⟨pa,yE,H₀,m,ρ,G,R,z⟩:=hz0;refine TAe.then R z λm1 x v G1 H1 s1 w1 R1 d1 q1=>?_;exact q1 _ G1 H1 s1.gs (R1.set d1 k)
noncomputable def jI (k:Nat) (is:yo):yq:=λρ=>(is ρ).bind λx=>.ret (.next (ρ.set k (.own x)))
theorem mq {k:Nat} (h:PS X st (ft (eD PK is) (gj k))):PS X st (bF PK (jI k is)):=h.imp λD σ H hz0=>by
 obtain ⟨pa,yE,H₀,m,ρ,G,R,z⟩:=hz0;refine ⟨pa,yE,H₀,m,ρ,G,R,Tr.ok_mono (Tr.ok_bind.mp z) λm1 xs k' p vs G1 H1 s1 w1 h1 h2 h3 h4=>?_⟩;exact k' _ G1 H1 s1.gs ((R.step s1 w1).setO h3 h2 (R.h0 h1) h4 (λn ys e=>R.apart h1 n ys e) k)
noncomputable def kP (f:yv) (k:Nat) (i:yn):yq:=λρ=>(aa k ρ).bind λx=>(i ρ).bind λy=>(Tr.of (f x y)).bind λz=>.ret (.next (ρ.set k (.d z)))
theorem uf {k:Nat} {r:R2} {g:yv} (hv:cA r g) (h:PS X st (ZaH k (TAe PK i) r)):PS X st (bF PK (kP g k i)):=h.imp λD σ H hz0=>by
 obtain ⟨pa,yE,H₀,m,ρ,G,R,z⟩:=hz0;unfold kP aa at z
 split at z
 ·rename_i x hx;obtain ⟨o,h1,h2⟩:=R.sl k _ hx;cases h2 with
  | d d0 =>
   refine ⟨_,h1,?_⟩;refine TAe.then R z λm1 y v G1 H1 s1 w1 R1 d1 q1=>?_;rw [Tr.ok_bind] at q1;obtain ⟨w,hw,q1⟩:=Tr.ok_of q1;refine hv PK pa m1 G1 H1 _ v x y w _ w1 (d0.mono s1.gs) d1 hw λu G2 H2 s2 w2 d2=>?_;exact q1 _ G2 H2 (s1.gs.trans s2.gs) ((R1.step s2 w2).set d2 k)
 ·exact z.elim
noncomputable def iL (k:Nat) (i:yn):yq:=λρ=>match ρ[k]? with
 | some (.own xs)=>(i ρ).bind λx=>if small (xs.length+1)=true then .ret (.next (ρ.set k (.own (xs++[x])))) else .fail
 | _=>.fail
theorem DnAll.snoc {H:Hp} {vs:yB} {ds:yx} {v:V} {d:PyData} (h:DnAll H vs ds) (h1:Dn H v d):DnAll H (vs++[v]) (ds++[d]):=h.append (.cons h1 .nil)
theorem mr {k:Nat} {K:ym} {st:Stmt} (h:PS X st (qp (tBM K "list" Zcj (eS k) (eE (TAe PK i) bb)))):PS X st (bF PK (iL k i)):=h.imp λD σ H hz0=>by
 obtain ⟨pa,yE,H₀,m,ρ,G,R,z⟩:=hz0;unfold iL at z
 split at z
 ·rename_i xs hx;obtain ⟨o,h1,h2⟩:=R.sl k _ hx;cases h2 with
  | @own p vs _ a1 a2 a3 a4 =>
   refine ⟨_,h1,.inl ⟨rfl,_,SqL.of a1⟩,?_⟩;refine TAe.then R z λm1 x v G1 H1 s1 w1 R1 d1 q1=>?_;obtain ⟨hs,q1⟩:=eY q1;obtain ⟨o,h1',h2⟩:=R1.sl k _ hx;rw [h1] at h1';cases h1';cases h2 with
   | @own _ vs1 _ b1 b2 b3 b4 =>
    have hs':xs.length+1<=sizeLine:=of_decide_eq_true hs;refine ⟨p,vs1,v,rfl,rfl,b1,by rw [b4.length]; omega,?_⟩
    exact q1 σ G1 _ s1.gs (R1.change hx h1 (b4.snoc d1))
 ·exact z.elim
theorem DnAll.set {H:Hp}:∀ {vs:yB} {ds:yx} {v:V} {d:PyData} (n:Nat),DnAll H vs ds->Dn H v d->DnAll H (vs.set n v) (ds.set n d)
 | _,_,_,_,_,.nil,_=>.nil
 | _,_,_,_,0,.cons _ t,h=>.cons h t
 | _,_,_,_,n+1,.cons g t,h=>.cons g (DnAll.set n t h)
noncomputable def kM (k:Nat) (n i:yn):yq:=λρ=>(i ρ).bind λx=>match ρ[k]? with
 | some (.own xs)=>(n ρ).bind λy=>match y with
  | .int y=>(Tr.of (cT xs.length y)).bind λt=>.ret (.next (ρ.set k (.own (xs.set t x))))
  | _=>.fail
 | _=>.fail
theorem ue {k:Nat} {n:yn} (h:PS X st (ft (TAe PK i) (ZdT (eS k) (TAe PK n) rh))):PS X st (bF PK (kM k n i)):=h.imp λD σ H hz0=>by
 obtain ⟨pa,yE,H₀,m,ρ,G,R,z⟩:=hz0;refine TAe.then R z λm1 x v G1 H1 s1 w1 R1 d1 q1=>?_
 split at q1
 ·rename_i xs hx;obtain ⟨o,h1,h2⟩:=R1.sl k _ hx;cases h2 with
  | @own p vs _ a1 a2 a3 a4 =>
   refine ⟨_,h1,?_⟩;refine TAe.then R1 q1 λm2 y u G2 H2 s2 w2 R2 d2 q2=>?_;obtain ⟨o,h1',h2⟩:=R2.sl k _ hx;rw [h1] at h1';cases h1';cases h2 with
   | @own _ vs2 _ b1 b2 b3 b4 =>
    cases d2 with
    | int y =>
     rw [Tr.ok_bind] at q2;obtain ⟨n',hn,q2⟩:=Tr.ok_of q2;refine ⟨p,vs2,y,n',rfl,rfl,b1,by rw [b4.length]; exact hn,?_⟩
     exact q2 σ G2 _ (s1.gs.trans s2.gs) (R2.change hx h1 (b4.set n' (d1.mono s2.gs)))
    | _=>exact q2.elim
 ·exact q1.elim
theorem DnAll.reverse {H:Hp} {vs:yB} {ds:yx} (h:DnAll H vs ds):DnAll H vs.reverse ds.reverse:=by
 induction vs generalizing ds with
 | nil=>cases h; exact .nil
 | cons v vs ih=>cases h with | cons r t=>rw [xm,xm]; exact DnAll.append (ih t) (.cons r .nil)
noncomputable def pI (k:Nat):yq:=λρ=>match ρ[k]? with
 | some (.own xs)=>.ret (.next (ρ.set k (.own xs.reverse)))
 | _=>.fail
theorem ZpX {k:Nat} {K:ym} (h:PS X st (qp (ZaE K "list" Zb2 (eS k)))):PS X st (bF PK (pI k)):=h.imp λD σ H hz0=>by
 obtain ⟨pa,yE,H₀,m,ρ,G,R,z⟩:=hz0;unfold pI at z
 split at z
 ·rename_i xs hx;obtain ⟨o,h1,h2⟩:=R.sl k _ hx;cases h2 with
  | @own p vs _ a1 a2 a3 a4 =>
   refine ⟨_,h1,.inl ⟨rfl,_,SqL.of a1⟩,p,vs,rfl,rfl,a1,?_⟩;exact z σ G _ .refl (R.change hx h1 a4.reverse)
 ·exact z.elim
noncomputable def kN (k:Nat) (s:yq):yq:=λρ=>s (fz k ρ)
theorem pj {k:Nat} (h:PS X st (bF PK s)):PS X st (bF PK (kN k s)):=h.imp λD σ H hz0=>by
 obtain ⟨pa,yE,H₀,m,ρ,G,R,z⟩:=hz0;obtain ⟨G',sb,R'⟩:=R.freeze k;exact ⟨pa,yE,H₀,m,_,G',R',Tr.ok_mono z λ_ _ k'=>Ko.later k' sb⟩
def gu (PK:Pk) (g:yu):TG:=λv σ H Q=>∃ pa yE H₀ m ρ G x ρ',Rl PK pa yE H₀ m σ ρ G H/\Dn G v x/\g x ρ=some ρ'/\∀ σ',Rl PK pa yE H₀ m σ' ρ' G H->Q σ' H
noncomputable def pQ (PK:Pk) (g:yt):hI:=λvs σ H Q=>∃ pa yE H₀ m ρ G xs ρ',Rl PK pa yE H₀ m σ ρ G H/\DnAll G vs xs/\g xs ρ=some ρ'/\∀ σ',Rl PK pa yE H₀ m σ' ρ' G H->Q σ' H
theorem PG.imp {tg:Expr} {t t':TG} (h:PG X tg t) (q:∀ v σ H Q,t' v σ H Q->t v σ H Q):PG X tg t':=λpins s σ H v u Q I r z=>h pins s σ H v u Q I r (q v σ H Q z)
theorem PGs.imp {tg:List Expr} {t t':hI} (h:PGs X tg t) (q:∀ v σ H Q,t' v σ H Q->t v σ H Q):PGs X tg t':=λpins s σ H v u Q I r z=>h pins s σ H v u Q I r (q v σ H Q z)
noncomputable def aj (k:Nat):yu:=λx ρ=>some (ρ.set k (.d x))
theorem aO {k:Nat} (h:PG X e (gj k)):PG X e (gu PK (aj k)):=h.imp λv σ H Q hz0=>by
 obtain ⟨pa,yE,H₀,m,ρ,G,x,ρ',R,d,e,q⟩:=hz0;cases e;exact q _ (R.set d k)
noncomputable def br:yt:=λxs ρ=>match xs with
 | []=>some ρ
 | _=>none
noncomputable def az (g:yu) (gs:yt):yt:=λxs ρ=>match xs with
 | x::xs=>(g x ρ).bind λρ'=>gs xs ρ'
 | []=>none
theorem cL:PGs X [] (pQ PK br):=ZiC.imp λvs σ H Q hz0=>by
 obtain ⟨pa,yE,H₀,m,ρ,G,xs,ρ',R,d,e,q⟩:=hz0;cases d with
 | nil=>cases e; exact ⟨rfl,q _ R⟩
 | cons _ _=>cases e
theorem aZ {g:yu} {gs:yt} (h1:PG X e (gu PK g)) (h2:PGs X es (pQ PK gs))
  (hs:(assignEach (e::es) X.env).map (·.2)=assign e X.env::(assignEach es X.env).map (·.2):=by rfl):PGs X (e::es) (pQ PK (az g gs)):=(ZiD h1 h2 hs).imp λvs σ H Q hz0=>by
 obtain ⟨pa,yE,H₀,m,ρ,G,xs,ρ',R,d,e,q⟩:=hz0;cases d with
 | nil=>cases e
 | cons d1 d2 =>
  have e':(g _ ρ).bind (λρ'=>gs _ ρ')=some ρ':=e;cases h:g _ ρ with
  | none=>rw [h] at e'; cases e'
  | some ρ1 =>
   rw [h] at e';exact ⟨_,_,rfl,pa,yE,H₀,m,ρ,G,_,ρ1,R,d1,h,λσ1 R1=>⟨pa,yE,H₀,m,ρ1,G,_,ρ',R1,d2,e',q⟩⟩
noncomputable def bv (gs:yt):yu:=λx ρ=>match x with
 | .tuple xs=>gs xs ρ
 | _=>none
def oR (n:Nat) (gs:yt):Prop:=∀ xs ρ ρ',gs xs ρ=some ρ'->xs.length=n
theorem cI:oR 0 br:=λxs ρ ρ' h=>by cases xs with | nil=>rfl | cons _ _=>cases h
theorem aY {n:Nat} {g:yu} {gs:yt} (h:oR n gs):oR (n+1) (az g gs):=λxs ρ ρ' e=>by
 cases xs with
 | nil=>cases e
 | cons x xs =>
  have e':(g x ρ).bind (λρ'=>gs xs ρ')=some ρ':=e;cases h1:g x ρ with
  | none=>rw [h1] at e'; cases e'
  | some ρ1 =>
   rw [h1] at e';exact congrArg (·+1) (h xs ρ1 ρ' e')
theorem cM {k:Nat} {gs:yt} {n:Nat} (hc:X.calm=true) (h:PGs X es (pQ PK gs)) (hl:oR n gs)
  (hn:(assignEach es X.env).length=n:=by rfl) (hst:(assignEach es X.env).findIdx? (·.1)=none:=by rfl):PG X (.Tuple es k pos) (gu PK (bv gs)):=(ZiE hc h hn hst).imp λv σ H Q hz0=>by
 obtain ⟨pa,yE,H₀,m,ρ,G,x,ρ',R,d,e,q⟩:=hz0;cases d with
 | tup h1 h2=>exact ⟨_,_,rfl,SqT.of (R.wd.sub _ _ h1),by rw [h2.length]; exact hl _ _ _ e,pa,yE,H₀,m,ρ,G,_,ρ',R,h2,e,q⟩
 | _=>cases e
noncomputable def eP (g:yu) (i:yn):yq:=λρ=>(i ρ).bind λx=>(Tr.of (g x ρ)).bind λρ'=>.ret (.next ρ')
theorem fK {g:yu} (h:PS X st (ft (TAe PK i) (gu PK g))):PS X st (bF PK (eP g i)):=h.imp λD σ H hz0=>by
 obtain ⟨pa,yE,H₀,m,ρ,G,R,z⟩:=hz0;refine TAe.then R z λm1 x v G1 H1 s1 w1 R1 d1 q1=>?_;rw [Tr.ok_bind] at q1;obtain ⟨ρ',hg,q1⟩:=Tr.ok_of q1;exact ⟨pa,yE,H₀,m1,ρ,G1,x,ρ',R1,d1,hg,λσ' R'=>q1 σ' G1 H1 s1.gs R'⟩
noncomputable def mE (k n:Nat) (is:yo):yq:=λρ=>(is ρ).bind λxs=>match xs with
 | [x,y]=>.ret (.next ((ρ.set k (.d x)).set n (.d y)))
 | _=>.fail
theorem Zfq {k n:Nat} (h:PS X st (Zaz k n (TAd PK is))):PS X st (bF PK (mE k n is)):=h.imp λD σ H hz0=>by
 obtain ⟨pa,yE,H₀,m,ρ,G,R,z⟩:=hz0;refine TAd.then R z λm1 xs vs G1 H1 s1 w1 R1 d1 q1=>?_
 split at q1
 ·cases d1 with
  | cons e1 d1 =>
   cases d1 with
   | cons e2 d1 =>
    cases d1;exact ⟨_,_,rfl,q1 _ G1 H1 s1.gs ((R1.set e1 k).set e2 n)⟩
 ·exact q1.elim
def jM (PK:Pk) (pa:Addr) (J:It) (G:Hp) (xs:yx):Prop:=∀ m G2 H2,Sub G G2->Wd PK pa m G2 H2 ->
 (∀ (n:Nat) (d:PyData),xs[n]?=some d->J.go n H2/\∀ x H3,J.yld n H2 x H3->∃ G3,Stp pa G2 H2 G3 H3/\Wd PK pa m G3 H3/\Dn G3 x d)/\J.stop xs.length H2
def fm (PK:Pk) (is:yo):TI:=λσ H R=>∃ pa yE H₀ m ρ G,Rl PK pa yE H₀ m σ ρ G H/\(is ρ).ok m λm' xs=>∀ J G' H',Stp pa G H G' H'->Wd PK pa m' G' H'->jM PK pa J G' xs->R J H'
theorem PI.imp {tg iter:Expr} {t t':TI} (h:PI X tg iter t) (q:∀ σ H R,t' σ H R->t σ H R):PI X tg iter t':=λpins s σ H R I z=>h pins s σ H R I (q σ H R z)
noncomputable def cb (g:yu) (s:yq):List PyData->List Sl->Tr Ou
 | [],ρ=>.ret (.next ρ)
 | x::xs,ρ=>(Tr.of (g x ρ)).bind λρ1=>(s ρ1).bind λo=>match o with
  | .next ρ2=>cb g s xs ρ2
  | .cont ρ2=>cb g s xs ρ2
  | .brk ρ2=>.ret (.next ρ2)
  | .ret r=>.ret (.ret r)
noncomputable def eB (is:yo) (g:yu) (s:yq):yq:=λρ=>(is ρ).bind λxs=>cb g s xs ρ
theorem fh {tg iter:Expr} {body:List Stmt} {g:yu} (hp:PassesOwn (model X.prog X.w) X.A X.env X.xe) (hc:X.calm=true) (hi:PI X tg iter (fm PK is)) (hg:PG X tg (gu PK g)) (hb:PSs X body (bF PK s))
  (hs:∀ x,foldedSetIterable iter X.env x=pure x:=by intro _; rfl):PS X (.For tg iter body [] pos) (bF PK (eB is g s)):=(Ziu hp hc hi hg hb hs).imp λD σ H hz0=>by
 obtain ⟨pa,yE,H₀,m,ρ,G,R,z⟩:=hz0;refine ⟨pa,yE,H₀,m,ρ,G,R,Tr.ok_mono (Tr.ok_bind.mp z) λm1 xs k J G1 H1 s1 w1 jo=>?_⟩
 let W:Nat->Nat->St->Hp->Prop:=λn mm σ H=>mm=xs.length - n/\n<=xs.length/\∃ m ρ G,Sub G1 G/\Rl PK pa yE H₀ m σ ρ G H/\(cb g s (xs.drop n) ρ).ok m (Ko PK pa yE H₀ G1 D)
 refine ⟨W,⟨xs.length,rfl,wf _,m1,ρ,G1,λ_ _ h=>h,R.step s1 w1,Tr.ok_mono k λ_ _ k'=>Ko.later k' s1.gs⟩,?_⟩;rintro n mm σ2 H2 ⟨rfl,hn,m2,ρ2,G2,sb,R2,k2⟩;obtain ⟨j1,j2⟩:=jo m2 G2 H2 sb R2.wd;by_cases hlt:n < xs.length
 ·have hx:xs[n]?=some xs[n]:=by simp [hlt]
  obtain ⟨jg,jy⟩:=j1 n _ hx;refine .inr ⟨jg,W (n+1) (xs.length - (n+1)),λσ' H' h'=>⟨_,by omega,h'⟩,λx H3 y=>?_⟩
  obtain ⟨G3,s3,w3,d3⟩:=jy x H3 y;rw [vR hlt] at k2;unfold cb at k2;rw [Tr.ok_bind] at k2;obtain ⟨ρ3,hg3,k3⟩:=Tr.ok_of k2;refine ⟨pa,yE,H₀,m2,ρ2,G3,_,ρ3,R2.step s3 w3,d3,hg3,λσ4 R4=>?_⟩;refine ⟨pa,yE,H₀,m2,ρ3,G3,R4,Tr.ok_mono (Tr.ok_bind.mp k3) λm5 o ko=>?_⟩;have again:∀ ρ5,(cb g s (xs.drop (n+1)) ρ5).ok m5 (Ko PK pa yE H₀ G1 D)->∀ σ5 G5 H5,Sub G3 G5->Rl PK pa yE H₀ m5 σ5 ρ5 G5 H5->W (n+1) (xs.length - (n+1)) σ5 H5:=λρ5 k5 σ5 G5 H5 sb5 R5 =>
   ⟨rfl,hlt,m5,ρ5,G5,(sb.trans s3.gs).trans sb5,R5,k5⟩
  cases o with
  | next ρ5=>exact again ρ5 ko
  | cont ρ5=>exact again ρ5 ko
  | brk ρ5=>exact λσ5 G5 H5 sb5 R5=>ko σ5 G5 H5 ((sb.trans s3.gs).trans sb5) R5
  | ret r=>exact ko
 ·have e:n=xs.length:=by omega
  subst e;refine .inl ⟨j2,?_⟩;rw [xv] at k2;exact k2 σ2 G2 H2 sb R2
variable {PK:Pk} {X:Cx} {a b c e:Expr} {es:List Expr} {pos:Pos} {i j l:yn} {is:yo} {as:List Sl->Tr yD} {f:yr} {p q:yp} {st:Stmt} {sts:List Stmt} {s t u:yq}
noncomputable def cN (p:yp) (s:yq):Nat->List Sl->Tr Ou
 | 0,_=>.fail
 | n+1,ρ=>(p ρ).bind λb=>if b=true then (s ρ).bind λo=>match o with
   | .next ρ2=>cN p s n ρ2
   | .cont ρ2=>cN p s n ρ2
   | .brk ρ2=>.ret (.next ρ2)
   | .ret r=>.ret (.ret r)
  else .ret (.next ρ)
theorem ud {body:List Stmt} (n:Nat) (hp:PassesOwn (model X.prog X.w) X.A X.env X.xe) (hc:PT X c (TAt PK p)) (hb:PSs X body (bF PK s)):PS X (.While c body [] pos) (bF PK (cN p s n)):=(Zir hp hc hb).imp λD σ H hz0=>by
 obtain ⟨pa,yE,H₀,m,ρ,G,R,z⟩:=hz0
 let W:Nat->St->Hp->Prop:=λn σ H=>∃ m ρ G1,Sub G G1/\Rl PK pa yE H₀ m σ ρ G1 H/\(cN p s n ρ).ok m (Ko PK pa yE H₀ G D)
 refine ⟨W,⟨n,m,ρ,G,.refl,R,z⟩,?_⟩;rintro n σ2 H2 ⟨m2,ρ2,G2,sb,R2,k2⟩;cases n with
 | zero=>exact k2.elim
 | succ n =>
  unfold cN at k2;refine TAt.then R2 k2 λm3 x G3 H3 s3 w3 R3 k3=>?_;cases x with
  | false =>
   rw [if_neg u3] at k3 ⊢;exact k3 σ2 G3 H3 (sb.trans s3.gs) R3
  | true =>
   rw [if_pos rfl] at k3 ⊢;refine ⟨W n,λσ' H' h=>⟨n,by omega,h⟩,pa,yE,H₀,m3,ρ2,G3,R3,Tr.ok_mono (Tr.ok_bind.mp k3) λm4 o ko=>?_⟩
   have again:∀ ρ5,(cN p s n ρ5).ok m4 (Ko PK pa yE H₀ G D)->∀ σ5 G5 H5,Sub G3 G5->Rl PK pa yE H₀ m4 σ5 ρ5 G5 H5->W n σ5 H5:=λρ5 k5 σ5 G5 H5 sb5 R5 =>
    ⟨m4,ρ5,G5,(sb.trans s3.gs).trans sb5,R5,k5⟩
   cases o with
   | next ρ5=>exact again ρ5 ko
   | cont ρ5=>exact again ρ5 ko
   | brk ρ5=>exact λσ5 G5 H5 sb5 R5=>ko σ5 G5 H5 ((sb.trans s3.gs).trans sb5) R5
   | ret r=>exact ko
noncomputable def t4:Sl->Sl
 | .own _=>.un
 | .dic _=>.un
 | s=>s
noncomputable def blk (n:Nat) (ix:List Nat) (ρ:yD):yD:=List.replicate n .un++ix.map λj=>t4 ((ρ[j]?).getD .un)
theorem Rl.blk {pa:Addr} {yE H₀ G H:Hp} {m:Nat} {σ:St} {ρ:yD} (R:Rl PK pa yE H₀ m σ ρ G H) (n:Nat) (ix:List Nat):Rl PK pa yE H₀ m (dB n ix σ) (blk n ix ρ) G H:=by
 have key:∀ (k:Nat) (s:Sl),(L2.blk n ix ρ)[k]?=some s->(∃ o,(dB n ix σ)[k]?=some o/\SlOk pa H₀ G H o s)/\(∀ xs,s≠.own xs)/\∀ xs,s≠.dic xs:=λk s h=>by
  unfold L2.blk at h;unfold dB;by_cases hk:k < n
  ·rw [vp (by simpa using hk),vn,if_pos hk] at h
   rw [vp (by simpa using hk),vn,if_pos hk]
   cases h;exact ⟨⟨_,rfl,.un⟩,(λxs h=>by cases h),λxs h=>by cases h⟩
  ·rw [vA (by simpa using wT hk),vE,uT] at h
   rw [vA (by simpa using wT hk),vE,uT]
   cases hj:ix[k - n]? with
   | none=>rw [hj] at h; cases h
   | some j =>
    rw [hj] at h;have h':t4 ((ρ[j]?).getD .un)=s:=vc h;subst h';show (∃ o,some ((σ[j]?).getD none)=some o/\_)/\_;cases hr:ρ[j]? with
    | none=>exact ⟨⟨_,rfl,.un⟩,(λxs h=>by cases h),λxs h=>by cases h⟩
    | some s' =>
     obtain ⟨o,h1,h2⟩:=R.sl j s' hr;rw [h1];cases h2 with
     | un=>exact ⟨⟨_,rfl,.un⟩,(λxs h=>by cases h),λxs h=>by cases h⟩
     | d z=>exact ⟨⟨_,rfl,.d z⟩,(λxs h=>by cases h),λxs h=>by cases h⟩
     | own _ _ _ _=>exact ⟨⟨_,rfl,.un⟩,(λxs h=>by cases h),λxs h=>by cases h⟩
     | dic _ _ _ _=>exact ⟨⟨_,rfl,.un⟩,(λxs h=>by cases h),λxs h=>by cases h⟩
     | pen=>exact ⟨⟨_,rfl,.pen⟩,(λxs h=>by cases h),λxs h=>by cases h⟩
 refine ⟨R.wd,R.st,R.p0,λk s h=>(key k s h).1,?_,λk n' xs ys _ h1 _=>absurd rfl ((key k _ h1).2.1 xs),λk n' xs ys _ h1 _=>absurd rfl ((key k _ h1).2.2 xs)⟩;unfold L2.blk dB;simp
def iM (n:Nat) (g:yu):Prop:=∀ x ρ ρ',g x ρ=some ρ'->ρ'.length=ρ.length/\∀ k,n<=k->ρ'[k]?=ρ[k]?
def pR (n:Nat) (g:yt):Prop:=∀ x ρ ρ',g x ρ=some ρ'->ρ'.length=ρ.length/\∀ k,n<=k->ρ'[k]?=ρ[k]?
theorem cQ {n k:Nat} (h:k < n):iM n (aj k):=λx ρ ρ' e=>by
 cases e;exact ⟨vK,λj hj=>u5 (by omega)⟩
theorem j7 {n:Nat}:pR n br:=λx ρ ρ' e=>by
 cases x with
 | nil=>cases e; exact ⟨rfl,λ_ _=>rfl⟩
 | cons _ _=>cases e
theorem eW {n:Nat} {g:yu} {gs:yt} (h1:iM n g) (h2:pR n gs):pR n (az g gs):=λx ρ ρ' e=>by
 cases x with
 | nil=>cases e
 | cons x xs =>
  have e':(g x ρ).bind (λρ'=>gs xs ρ')=some ρ':=e;cases h:g x ρ with
  | none=>rw [h] at e'; cases e'
  | some ρ1 =>
   rw [h] at e';obtain ⟨a1,a2⟩:=h1 x ρ ρ1 h;obtain ⟨b1,b2⟩:=h2 xs ρ1 ρ' e';exact ⟨b1.trans a1,λk hk=>(b2 k hk).trans (a2 k hk)⟩
theorem j6 {n:Nat} {gs:yt} (h2:pR n gs):iM n (bv gs):=λx ρ ρ' e=>by
 cases x with
 | tuple xs=>exact h2 xs ρ ρ' e
 | _=>cases e
noncomputable def bG (h:PyData->Tr PyData):List PyData->Tr yx
 | []=>.ret []
 | x::xs=>(h x).bind λy=>(bG h xs).bind λys=>.ret (y::ys)
noncomputable def db (is:yo) (n:Nat) (ix:List Nat) (g:yu) (el:yn):yo:=λρ =>
 (is ρ).bind λxs=>if small xs.length=true then bG (λx=>(Tr.of (g x (blk n ix ρ))).bind el) xs else .fail
theorem Rl.weak {pa:Addr} {yE H₀ G H:Hp} {m:Nat} {σ:St} {ρ ρ':yD} (R:Rl PK pa yE H₀ m σ ρ' G H) (hl:ρ'.length=ρ.length) (h:∀ (k:Nat) (s:Sl),ρ[k]?=some s->s=.un\/ρ'[k]?=some s):Rl PK pa yE H₀ m σ ρ G H:=by
 refine ⟨R.wd,R.st,R.p0,λk s hk=>?_,hl.symm.trans R.len,λk n xs ys hkn h1 h2=>?_,λk n xs ys hkn h1 h2=>?_⟩
 ·rcases h k s hk with e | e
  ·subst e;have hlt:k < σ.length:=by
    rw [<- R.len,hl];exact (uR.mp hk).1
   exact ⟨σ[k],by simp [hlt],.un⟩
  ·exact R.sl k s e
 ·rcases h k _ h1 with e | e
  ·cases e
  ·rcases h n _ h2 with e' | e'
   ·cases e'
   ·exact R.dj k n xs ys hkn e e'
 ·rcases h k _ h1 with e | e
  ·cases e
  ·rcases h n _ h2 with e' | e'
   ·cases e'
   ·exact R.dj2 k n xs ys hkn e e'
theorem Zdp {n:Nat} {ix:List Nat} {g:yu} (hn:iM n g):∀ σ H Q,eD PK (db is n ix g i) σ H Q->kX (fm PK is) n ix (λ_=>gu PK g) (λ_=>TAe PK i) σ H Q:=by
 rintro σ H Q ⟨pa,yE,H₀,m,ρ,G,R,z⟩;refine ⟨pa,yE,H₀,m,ρ,G,R,Tr.ok_mono (Tr.ok_bind.mp z) λm1 xs k J G1 H1 s1 w1 jo=>λB=>?_⟩;obtain ⟨hs,k⟩:=eY k;have hs:xs.length<=sizeLine:=of_decide_eq_true hs
 let el:PyData->Tr PyData:=λx=>(Tr.of (g x (blk n ix ρ))).bind i
 let W:Nat->Nat->St->List V->Hp->Prop:=λk mm τ ys H2=>mm=xs.length - k/\k<=xs.length/\ys.length=k/\∃ m G2 ds,Sub G1 G2/\Stp pa G H G2 H2/\Rl PK pa yE H₀ m τ (blk n ix ρ) G2 H2 /\
  DnAll G2 ys ds/\(bG el (xs.drop k)).ok m λm' zs=>Ko1 PK pa m' G H (ds++zs) Q
 refine ⟨W,⟨xs.length,rfl,wf _,rfl,m1,G1,[],.refl,s1,(R.step s1 w1).blk n ix,.nil,k⟩,?_⟩;rintro k mm τ ys H2 ⟨rfl,hk,hy,m2,G2,ds,sb,st2,R2,dn,k2⟩;obtain ⟨j1,j2⟩:=jo m2 G2 H2 sb R2.wd;by_cases hlt:k < xs.length
 ·have hx:xs[k]?=some xs[k]:=by simp [hlt]
  obtain ⟨jg,jy⟩:=j1 k _ hx;refine .inr ⟨jg,by omega,λx H3 y=>?_⟩
  obtain ⟨G3,s3,w3,d3⟩:=jy x H3 y;rw [vR hlt] at k2;unfold bG at k2;rw [Tr.ok_bind,Tr.ok_bind] at k2;obtain ⟨ρ3,hg3,k3⟩:=Tr.ok_of k2;refine ⟨pa,yE,H₀,m2,_,G3,_,ρ3,R2.step s3 w3,d3,hg3,λτ4 R4=>?_⟩;refine ⟨pa,yE,H₀,m2,ρ3,G3,R4,Tr.ok_mono k3 λm5 yd k5=>?_⟩;intro v G5 H5 s5 w5 d5;have s35:=s3.trans s5 w3.some;obtain ⟨pl,pk⟩:=hn _ _ _ hg3;refine ⟨xs.length - (k+1),by omega,rfl,hlt,by rw [vF,hy]; rfl,m5,G5,ds++[yd],sb.trans s35.gs,st2.trans s35 R2.wd.some,?_,(DnAll.mono s35.gs dn).snoc d5,?_⟩
  ·refine (R4.step s5 w5).weak pl λq sl hq=>?_;by_cases hqn:q < n
   ·left
    unfold blk at hq;rw [vp (by simpa using hqn),vn,if_pos hqn] at hq
    cases hq
    rfl
   ·right
    rw [pk q (wT hqn)];exact hq
  ·refine Tr.ok_mono (Tr.ok_bind.mp k5) λm6 zs k6=>?_;rw [wy];exact k6
 ·have e:k=xs.length:=by omega
  subst e;refine .inl ⟨j2,λp v H' hp ev eH=>?_⟩;subst ev eH;rw [xv] at k2;have k2':Ko1 PK pa m2 G H (ds++[]) Q:=k2;rw [vo] at k2';exact (Ko1.later k2' st2 R2.wd.some).new R2.wd dn hp
theorem fi {n:Nat} {ix:List Nat} {g:yu} (h:PE X e (kX (fm PK is) n ix (λ_=>gu PK g) (λ_=>TAe PK i))) (hn:iM n g):PE X e (eD PK (db is n ix g i)):=h.imp (Zdp hn)
theorem ZgT {te te':TE} {g:TG} (h:∀ σ H Q,te' σ H Q->te σ H Q):∀ D σ H,ft te' g D σ H->ft te g D σ H:=λD σ H z=>h σ H _ z
noncomputable def mf:Ou->Tr Re
 | .next _=>.ret (.d .none)
 | .ret r=>.ret r
 | _=>.fail
noncomputable def bg (n k:Nat) (s:yq):yr:=λas=>if decide (as.length=n)=true then (s (as++List.replicate k .un)).bind mf else .fail
theorem Rl.start {pa:Addr} {G H:Hp} {m:Nat} {N:yA} {vs:yB} {as:yD} {k:Nat} (w:Wd PK pa m G H) (ar:ArsOk pa G vs as) (hk:N.length - vs.length=k):Rl PK pa G H m (L2.start N vs) (as++List.replicate k .un) G H:=by
 have key:∀ {vs:yB} {as:yD},ArsOk pa G vs as->∀ (q:Nat) (s:Sl),as[q]?=some s->(∃ o,(vs.map some)[q]?=some o/\SlOk pa H G H o s)/\(∀ xs,s≠.own xs)/\∀ xs,s≠.dic xs:=by
  intro vs as h
  induction h with
  | nil=>intro q s h; simp at h
  | cons h1 h2 ih =>
   intro q s h;cases q with
   | zero =>
    simp at h;subst h;cases h1 with
    | d z=>exact ⟨⟨_,rfl,.d z⟩,(λxs h=>by cases h),λxs h=>by cases h⟩
    | pen=>exact ⟨⟨_,rfl,.pen⟩,(λxs h=>by cases h),λxs h=>by cases h⟩
   | succ q =>
    obtain ⟨⟨o,p1,p2⟩,p3⟩:=ih q s (by simpa using h)
    exact ⟨⟨o,by simpa using p1,p2⟩,p3⟩
 have hl:=ar.length;have key2:∀ (q:Nat) (s:Sl),(as++List.replicate k .un)[q]?=some s->(∃ o,(L2.start N vs)[q]?=some o/\SlOk pa H G H o s)/\(∀ xs,s≠.own xs)/\∀ xs,s≠.dic xs:=λq s h=>by
  unfold L2.start;by_cases hq:q < as.length
  ·rw [vp hq] at h;rw [vp (by rw [uO,hl]; exact hq)]
   exact key ar q s h
  ·rw [vA (by omega),vn] at h
   rw [vA (by rw [uO]; omega),vn,uO,hl]
   split at h
   ·rename_i hq2;cases h;rw [if_pos (by omega)]
    exact ⟨⟨_,rfl,.un⟩,(λxs h=>by cases h),λxs h=>by cases h⟩
   ·cases h
 refine ⟨w,.refl,w.some,λq s h=>(key2 q s h).1,?_,λq n xs ys _ h1 _=>absurd rfl ((key2 q _ h1).2.1 xs),λq n xs ys _ h1 _=>absurd rfl ((key2 q _ h1).2.2 xs)⟩;unfold L2.start;simp [hl,hk];omega
theorem bL {P:Program} {w:World} {K:ym} {mg:yC} {base:Heap} {x:Str} {N ps:yA} {kk k:Nat} (D:Def K mg x st ps) (S:FnScope N ps (aG st)) (hk:N.length - ps.length=k)
  (hbody:∀ (f:Addr) (cdv:Value) (A:Around) (outer:List Env) (sh:Shared) (H:Hp) (E:XK),Room kk (A.deeper (envOfC x (aG st) sh.heap.objs.size f cdv)) ->
   PSs (cK dH P w K mg base N x (aG st) f cdv A outer sh H E).nox (dA st) (bF PK s)):ACal PK P w K mg base x (kk+1) ps (bg ps.length k s):=by
 have len:∀ as m Z,(bg ps.length k s as).ok m Z->as.length=ps.length:=λas m Z h=>by
  unfold bg at h;exact of_decide_eq_true (eY h).1
 refine ⟨D.ok S (λvs H Q E h=>h.1) λf cdv A outer sh H vs Q E hr hsp=>?_,len⟩;obtain ⟨hv,pa,m,G,as,wd,ar,z⟩:=hsp;refine ⟨_,hbody f cdv A outer sh H E hr,?_⟩;unfold bg at z;obtain ⟨_,z⟩:=eY z;refine ⟨pa,G,H,m,_,G,Rl.start wd ar (by rw [hv]; exact hk),Tr.ok_mono (Tr.ok_bind.mp z) λm1 o ko=>?_⟩
 cases o with
 | next ρ=>exact λσ G1 H1 sb R1=>ko .non G1 H1 R1.st R1.wd .non
 | ret r=>exact ko
 | brk ρ=>exact ko.elim
 | cont ρ=>exact ko.elim
theorem ZiA {tg l:Expr} {tl:TE} (hl:PE X l tl):PI X tg l (λσ H R=>tl σ H λx H1=>∃ a,x=.ref a/\((∃ xs,SqL X.K H1 a xs/\R (uK X.K a) H1)\/(∃ xs,SqT X.K H1 a xs/\R (uJ X.K a) H1))):=by
 intro pins s σ H R I h;refine thn (hl pins s σ H _ I h) λv s1 hz0=>?_;obtain ⟨x,H1,I1,r1,q1⟩:=hz0;obtain ⟨a,e,q⟩:=q1;subst e;cases r1;rcases q with ⟨xs,hq,q⟩ | ⟨xs,hq,q⟩
 ·obtain ⟨its,rv,p,hz⟩:=I1.list hq;refine wpAny_pyIter_list p.isList ?_;refine ⟨s1.heap.objs.size,[s1.heap.objs.size],_,_,H1,rfl,I1.kept (t':=s1.toks) λb o e=>uN _ e,Zgk a _,⟨_,uS _ rfl,rfl,rfl⟩,λb hb=>?_,q⟩;have e:b=s1.heap.objs.size:=by simpa using hb
  subst e;exact I1.fpOk (uQ _) (I1.hok.fresh (uQ _))
 ·obtain ⟨its,rv,p,hz⟩:=I1.tuple hq;refine wpAny_pyIter_tuple (show s1.heap.IsTuple a its.toArray from p) ?_
  refine ⟨s1.heap.objs.size,[s1.heap.objs.size],_,_,H1,rfl,I1.kept (t':=s1.toks) λb o e=>uN _ e,Zgh a _,⟨_,uS _ rfl,rfl,rfl⟩,λb hb=>?_,q⟩;have e:b=s1.heap.objs.size:=by simpa using hb
  subst e;exact I1.fpOk (uQ _) (I1.hok.fresh (uQ _))
theorem DnAll.get {H:Hp}:∀ {vs:yB} {ds:yx} (n:Nat) {d:PyData},DnAll H vs ds->ds[n]?=some d->∃ v,vs[n]?=some v/\Dn H v d
 | _,_,_,_,.nil,e=>by simp at e
 | _,_,0,_,.cons g t,e=>by simp at e; subst e; exact ⟨_,rfl,g⟩
 | _,_,n+1,_,.cons g t,e=>by
  obtain ⟨v,h1,h2⟩:=DnAll.get n t (by simpa using e)
  exact ⟨v,by simpa using h1,h2⟩
theorem ZkC {K:ym} {pa a:Addr} {G:Hp} {vs:yB} {xs:yx} (h:G a=some (.lst vs)) (d:DnAll G vs xs):jM PK pa (uK K a) G xs:=λm G2 H2 sb w=>by
 have hq:SqL K H2 a vs:=SqL.of (w.sub _ _ (sb _ _ h));refine ⟨λn x hx=>?_,vs,hq,by rw [d.length]; exact uQ _⟩
 obtain ⟨v,hv,dv⟩:=d.get n hx;refine ⟨⟨vs,v,hq,hv⟩,λy H3 hz0=>?_⟩;obtain ⟨e,hy⟩:=hz0;subst e;have:=hy vs hq;rw [hv] at this;cases this;exact ⟨G2,.refl,w,dv.mono sb⟩
theorem ZkA {K:ym} {pa a:Addr} {G:Hp} {vs:yB} {xs:yx} (h:G a=some (.tup vs)) (d:DnAll G vs xs):jM PK pa (uJ K a) G xs:=λm G2 H2 sb w=>by
 have hq:SqT K H2 a vs:=SqT.of (w.sub _ _ (sb _ _ h));refine ⟨λn x hx=>?_,vs,hq,by rw [d.length]; exact uQ _⟩
 obtain ⟨v,hv,dv⟩:=d.get n hx;refine ⟨⟨vs,v,hq,hv⟩,λy H3 hz0=>?_⟩;obtain ⟨e,hy⟩:=hz0;subst e;have:=hy vs hq;rw [hv] at this;cases this;exact ⟨G2,.refl,w,dv.mono sb⟩
noncomputable def gb:PyData->Option yx
 | .list xs=>some xs
 | .tuple xs=>some xs
 | _=>none
@[simp] theorem Zq8 (xs:yx):gb (.list xs)=some xs:=rfl
@[simp] theorem Zq7 (xs:yx):gb (.tuple xs)=some xs:=rfl
noncomputable def fk (i:yn):yo:=λρ=>(i ρ).bind λx=>Tr.of (gb x)
theorem gq {tg l:Expr} (hl:PE X l (TAe PK i)):PI X tg l (fm PK (fk i)):=(ZiA hl).imp λσ H R0 hz0=>by
 obtain ⟨pa,yE,H₀,m,ρ,G,R,z⟩:=hz0;refine TAe.then R z λm1 x v G1 H1 s1 w1 R1 d1 q1=>?_;obtain ⟨xs,hx,q1⟩:=Tr.ok_of q1;cases d1 with
 | lst h1 h2=>cases hx; exact ⟨_,rfl,.inl ⟨_,SqL.of (w1.sub _ _ h1),q1 _ G1 H1 s1 w1 (ZkC h1 h2)⟩⟩
 | tup h1 h2=>cases hx; exact ⟨_,rfl,.inr ⟨_,SqT.of (w1.sub _ _ h1),q1 _ G1 H1 s1 w1 (ZkA h1 h2)⟩⟩
 | _=>cases hx
noncomputable def aH (lo hi:Int):yx:=(aL lo (hi - lo).toNat).map PyData.int
theorem Zdx {pa:Addr} {G:Hp} {lo:Int} {n:Nat}:jM PK pa (jN lo n) G ((aL lo n).map PyData.int):=λm G2 H2 sb w=>by
 refine ⟨λk x hx=>?_,by show n<=_; rw [uO,gG]; exact uQ _⟩
 have hk:k < n:=by
  have:=(uR.mp hx).1
  rwa [uO,gG] at this
 refine ⟨hk,λy H3 hz0=>?_⟩;obtain ⟨e1,e2⟩:=hz0;subst e1 e2;have:x=.int (lo+k):=by
  unfold aL at hx;simp [hk] at hx;exact hx.symm
 subst this;exact ⟨G2,.refl,w,.int _⟩
noncomputable def fE (n:Int):Bool:=decide (-(2 ^ 62)<=n/\n < 2 ^ 62)
noncomputable def lp:List PyData->Option yx
 | [.int n]=>if fE n=true then some (aH 0 n) else none
 | _=>none
noncomputable def jZ:List PyData->Option yx
 | [.int k,.int n]=>if (fE k && fE n)=true then some (aH k n) else none
 | _=>none
noncomputable def g0 (is:yo):yo:=λρ=>(is ρ).bind λxs=>Tr.of (lp xs)
noncomputable def uv (is:yo):yo:=λρ=>(is ρ).bind λxs=>Tr.of (jZ xs)
theorem Zh2 {G:Hp} {vs:yB} {xs ys:yx} (d:DnAll G vs xs) (h:lp xs=some ys):∃ n:Int,vs=[.int n]/\-(2 ^ 62)<=n/\n < 2 ^ 62/\ys=aH 0 n:=by
 unfold lp at h
 split at h
 ·rename_i n
  split at h
  ·rename_i hn;cases h;cases d with
   | cons d1 d2 =>
    cases d2;cases d1;have:=of_decide_eq_true hn;exact ⟨n,rfl,this.1,this.2,rfl⟩
  ·cases h
 ·cases h
theorem ZbP {G:Hp} {vs:yB} {xs ys:yx} (d:DnAll G vs xs) (h:jZ xs=some ys):∃ k n:Int,vs=[.int k,.int n]/\(-(2 ^ 62)<=k/\k < 2 ^ 62/\-(2 ^ 62)<=n/\n < 2 ^ 62)/\ys=aH k n:=by
 unfold jZ at h
 split at h
 ·rename_i k n
  split at h
  ·rename_i hn;cases h;cases d with
   | cons d1 d2 =>
    cases d2 with
    | cons d2 d3 =>
     cases d3;cases d1;cases d2;rw [vm] at hn;have h1:=of_decide_eq_true hn.1;have h2:=of_decide_eq_true hn.2;exact ⟨k,n,rfl,⟨h1.1,h1.2,h2.1,h2.2⟩,rfl⟩
  ·cases h
 ·cases h
theorem kK {tg e:Expr} (h:PI X tg e (ZdM (TAd PK is))):PI X tg e (fm PK (g0 is)):=h.imp λσ H R0 hz0=>by
 obtain ⟨pa,yE,H₀,m,ρ,G,R,z⟩:=hz0;refine TAd.then R z λm1 xs vs G1 H1 s1 w1 R1 d1 q1=>?_;obtain ⟨ys,hy,q1⟩:=Tr.ok_of q1;obtain ⟨n,e,h1,h2,rfl⟩:=Zh2 d1 hy;refine ⟨n,e,h1,h2,?_⟩;have q:=q1 (jN 0 n.toNat) G1 H1 s1 w1;unfold aH at q;rw [Int.sub_zero] at q;exact q Zdx
theorem Zqa {tg e:Expr} (h:PI X tg e (ZdL (TAd PK is))):PI X tg e (fm PK (uv is)):=h.imp λσ H R0 hz0=>by
 obtain ⟨pa,yE,H₀,m,ρ,G,R,z⟩:=hz0;refine TAd.then R z λm1 xs vs G1 H1 s1 w1 R1 d1 q1=>?_;obtain ⟨ys,hy,q1⟩:=Tr.ok_of q1;obtain ⟨k,n,e,h1,rfl⟩:=ZbP d1 hy;exact ⟨k,n,e,h1,q1 (jN k (n - k).toNat) G1 H1 s1 w1 Zdx⟩
variable {PK:Pk} {X:Cx} {a b c e:Expr} {es:List Expr} {pos:Pos} {i j l:yn} {is:yo}
noncomputable def fit (n:Int):Bool:=decide (n.natAbs < 2 ^ 8000)
noncomputable def aS:yv
 | .int m,.int n=>some (.int (m+n))
 | .tuple xs,.tuple ys=>if (!xs.isEmpty && small (xs.length+ys.length))=true then some (.tuple (xs++ys)) else none
 | .list xs,.list ys=>if small (xs.length+ys.length)=true then some (.list (xs++ys)) else none
 | _,_=>none
noncomputable def Zck (K:ym):R2:=λx y H Q=>dW (λi j=>.int (i+j)) x y H Q\/Zch K x y H Q\/Zci x y H Q
theorem bz:OpR X (binaryOp .Add) (Zck X.K):=io.or (Zjf.or Zjg)
theorem bx {K:ym}:cA (Zck K) aS:=λPK pa m G H x y dx dy dz Q w hx hy hz k=>by
 unfold aS at hz
 split at hz
 ·cases hz; cases hx; cases hy;exact .inl ⟨_,_,rfl,rfl,k.here w (.int _)⟩
 ·rename_i xs ys
  split at hz
  ·rename_i hc;rw [vm] at hc;have h1:xs.isEmpty=false:=by simpa using hc.1
   have h2:xs.length+ys.length<=sizeLine:=of_decide_eq_true hc.2;cases hz;cases hx with
   | tup a1 a2 =>
    cases hy with
    | tup b1 b2 =>
     refine .inr (.inl ⟨_,_,_,_,rfl,rfl,SqT.of (w.sub _ _ a1),SqT.of (w.sub _ _ b1),?_,by rw [a2.length,b2.length]; exact h2,λe=>?_,λe p hp=>k.tup w (a2.append b2) hp⟩)
     ·intro e;rw [<- a2.isEmpty,e] at h1;cases h1
     ·subst e;cases b2;refine k.here w ?_;rw [vo];exact .tup a1 a2
  ·cases hz
 ·rename_i xs ys
  split at hz
  ·rename_i hc;have h2:xs.length+ys.length<=sizeLine:=of_decide_eq_true hc;cases hz;cases hx with
   | lst a1 a2 =>
    cases hy with
    | lst b1 b2=>exact .inr (.inr ⟨_,_,_,_,rfl,rfl,w.sub _ _ a1,w.sub _ _ b1,by rw [a2.length,b2.length]; exact h2,λp hp=>k.lst w (a2.append b2) hp⟩)
  ·cases hz
 ·cases hz
noncomputable def bZ:yv
 | .int m,.int n=>some (.int (m - n))
 | _,_=>none
theorem cP:cA (dW λi j=>.int (i - j)) bZ:=λPK pa m G H x y dx dy dz Q w hx hy hz k=>by
 unfold bZ at hz
 split at hz
 ·cases hz; cases hx; cases hy;exact ⟨_,_,rfl,rfl,k.here w (.int _)⟩
 ·cases hz
theorem DnAll.rep {H:Hp} {vs:yB} {ds:yx} (h:DnAll H vs ds):∀ k:Nat,DnAll H (List.replicate k vs).flatten (List.replicate k ds).flatten
 | 0=>.nil
 | k+1=>by
  rw [u6,u6,vG,vG];exact h.append (h.rep k)
noncomputable def Zb9 (K:ym):R2:=λx y H Q=>rI CMulG (λi j=>.int (i * j)) x y H Q\/rj K x y H Q\/rl x y H Q
theorem bW:OpR X (binaryOp .Mult) (Zb9 X.K):=Zja.or (ZcQ.or ZcS)
noncomputable def bD:yv
 | .int m,.int n=>if (fit m && fit n)=true then some (.int (m * n)) else none
 | .tuple xs,.int n=>if (decide (1 < n) && decide (n<=1000) && !xs.isEmpty && decide (xs.length<=1000))=true then some (.tuple (List.replicate n.toNat xs).flatten) else none
 | .list xs,.int n=>if (decide (-(2 ^ 63)<=n) && decide (n < 2 ^ 63) && small (xs.length * n.toNat))=true then some (.list (List.replicate n.toNat xs).flatten) else none
 | _,_=>none
theorem bV {K:ym}:cA (Zb9 K) bD:=λPK pa m G H x y dx dy dz Q w hx hy hz k=>by
 unfold bD at hz
 split at hz
 ·split at hz
  ·rename_i hc;rw [vm] at hc;cases hz; cases hx; cases hy;exact .inl ⟨_,_,rfl,rfl,⟨of_decide_eq_true hc.1,of_decide_eq_true hc.2⟩,k.here w (.int _)⟩
  ·cases hz
 ·split at hz
  ·rename_i hc;simp only [vm,decide_eq_true_eq,wz] at hc;cases hz; cases hy;cases hx with
   | tup a1 a2 =>
    refine .inr (.inl ⟨_,_,_,rfl,rfl,SqT.of (w.sub _ _ a1),hc.1.1.1,hc.1.1.2,?_,by rw [a2.length]; exact hc.2,λp hp=>k.tup w (a2.rep _) hp⟩)
    intro e;have:=hc.1.2;rw [<- a2.isEmpty,e] at this;cases this
  ·cases hz
 ·split at hz
  ·rename_i hc;simp only [vm,decide_eq_true_eq] at hc;cases hz; cases hy;cases hx with
   | lst a1 a2=>exact .inr (.inr ⟨_,_,_,rfl,rfl,w.sub _ _ a1,hc.1.1,hc.1.2,by rw [a2.length]; exact of_decide_eq_true hc.2,λp hp=>k.lst w (a2.rep _) hp⟩)
  ·cases hz
 ·cases hz
noncomputable def gk:yv
 | .int m,.int n=>if (decide (n≠0) && fit n)=true then some (.int (m.fdiv n)) else none
 | _,_=>none
theorem kT:cA (rI ZfR λi j=>.int (i.fdiv j)) gk:=λPK pa m G H x y dx dy dz Q w hx hy hz k=>by
 unfold gk at hz
 split at hz
 ·split at hz
  ·rename_i hc;rw [vm] at hc;cases hz; cases hx; cases hy;exact ⟨_,_,rfl,rfl,⟨of_decide_eq_true hc.1,of_decide_eq_true hc.2⟩,k.here w (.int _)⟩
  ·cases hz
 ·cases hz
noncomputable def lN:yv
 | .int m,.int n=>if decide (n≠0)=true then some (.int (m.fmod n)) else none
 | _,_=>none
theorem Zf4:cA (rI (λ_ j=>j≠0) λi j=>.int (i.fmod j)) lN:=λPK pa m G H x y dx dy dz Q w hx hy hz k=>by
 unfold lN at hz
 split at hz
 ·split at hz
  ·rename_i hc;cases hz; cases hx; cases hy;exact ⟨_,_,rfl,rfl,of_decide_eq_true hc,k.here w (.int _)⟩
  ·cases hz
 ·cases hz
noncomputable def rJ:yv
 | .int m,.int n=>if (decide (0<=n) && decide (n<=1000000) && decide (m.natAbs < 2 ^ 64))=true then some (.int (m ^ n.toNat)) else none
 | _,_=>none
theorem Zf3:cA (rI ZfQ λi j=>.int (i ^ j.toNat)) rJ:=λPK pa m G H x y dx dy dz Q w hx hy hz k=>by
 unfold rJ at hz
 split at hz
 ·split at hz
  ·rename_i hc;simp only [vm,decide_eq_true_eq] at hc;cases hz; cases hx; cases hy;exact ⟨_,_,rfl,rfl,⟨hc.1.1,hc.1.2,hc.2⟩,k.here w (.int _)⟩
  ·cases hz
 ·cases hz
noncomputable def fN (i:yn):yn:=λρ=>(i ρ).bind λx=>match x with
 | .int n=>.ret (.int (-n))
 | _=>.fail
theorem iI (ha:PE X a (TAe PK i)):PE X (.UnaryOp .USub a pos) (TAe PK (fN i)):=(ZiL Zge ha).imp λσ H Q hz0=>by
 obtain ⟨pa,yE,H₀,m,ρ,G,R,z⟩:=hz0;refine TAe.then R z λm1 x v G1 H1 s1 w1 R1 d1 q1=>?_;cases d1 with
 | int n=>exact ⟨n,rfl,(Kn.later q1 s1 w1.some).here w1 (.int _)⟩
 | _=>exact q1.elim
noncomputable def c6 (f:Int->Int->Bool):yv
 | .int m,.int n=>some (.bool (f m n))
 | _,_=>none
theorem dI {f:Int->Int->Bool}:cA (dW λi j=>.bl (f i j)) (c6 f):=λPK pa m G H x y dx dy dz Q w hx hy hz k=>by
 unfold c6 at hz
 split at hz
 ·cases hz; cases hx; cases hy;exact ⟨_,_,rfl,rfl,k.here w (.bl _)⟩
 ·cases hz
noncomputable def dg:yv
 | .str m,.str n=>some (.bool (m == n))
 | x,y=>if (SeqAt.shaped x && SeqAt.shaped y)=true then some (.bool (PyData.eqv x y)) else none
noncomputable def dq:yv
 | .str m,.str n=>some (.bool (!(m == n)))
 | x,y=>if (SeqAt.shaped x && SeqAt.shaped y)=true then some (.bool (!PyData.eqv x y)) else none
noncomputable def Zcf:R2:=λx y H Q=>rEq x y H Q\/∃ d e,Dn H x d/\Dn H y e/\SeqAt.shaped d=true/\SeqAt.shaped e=true/\Q (.bl (PyData.eqv d e)) H
noncomputable def Zb7:R2:=λx y H Q=>rNe x y H Q\/∃ d e,Dn H x d/\Dn H y e/\SeqAt.shaped d=true/\SeqAt.shaped e=true/\Q (.bl (!PyData.eqv d e)) H
theorem im {k:Nat} (hr:Room k X.A):OpR X (compareOp .Eq) Zcf:=Zje.or (Zjd hr)
theorem gK {k:Nat} (hr:Room k X.A):OpR X (compareOp .NotEq) Zb7:=Zi9.or (Zi8 hr)
theorem hY:cA Zcf dg:=λPK pa m G H x y dx dy dz Q w hx hy hz k=>by
 unfold dg at hz
 split at hz
 ·cases hz; cases hx; cases hy;exact .inl ⟨rfl,by rw [oZ]; exact k.here w (.bl _)⟩
 ·split at hz
  ·rename_i hc;rw [vm] at hc;cases hz;exact .inr ⟨_,_,hx.mono w.sub,hy.mono w.sub,hc.1,hc.2,k.here w (.bl _)⟩
  ·cases hz
theorem gw:cA Zb7 dq:=λPK pa m G H x y dx dy dz Q w hx hy hz k=>by
 unfold dq at hz
 split at hz
 ·cases hz; cases hx; cases hy;exact .inl ⟨rfl,by rw [oZ]; exact k.here w (.bl _)⟩
 ·split at hz
  ·rename_i hc;rw [vm] at hc;cases hz;exact .inr ⟨_,_,hx.mono w.sub,hy.mono w.sub,hc.1,hc.2,k.here w (.bl _)⟩
  ·cases hz
noncomputable def aE:yv
 | .list xs,.int n=>bp xs n
 | .tuple xs,.int n=>bp xs n
 | _,_=>none
theorem DnAll.at {H:Hp} {vs:yB} {ds:yx} {n:Int} {d:PyData} (h:DnAll H vs ds) (e:bp ds n=some d):∃ v,bp vs n=some v/\Dn H v d:=by
 unfold bp at e ⊢;rw [<- h.length] at e;cases hn:cT vs.length n with
 | none=>rw [hn] at e; cases e
 | some j =>
  rw [hn] at e;exact h.get j e
theorem aP {K:ym}:cA (rIx K) aE:=λPK pa m G H x y dx dy dz Q w hx hy hz k=>by
 unfold aE at hz
 split at hz
 ·cases hy;cases hx with
  | lst a1 a2 =>
   obtain ⟨v,h1,h2⟩:=a2.at hz;exact .inl ⟨_,_,_,v,rfl,rfl,SqL.of (w.sub _ _ a1),h1,k.here w h2⟩
 ·cases hy;cases hx with
  | tup a1 a2 =>
   obtain ⟨v,h1,h2⟩:=a2.at hz;exact .inr (.inl ⟨_,_,_,v,rfl,rfl,SqT.of (w.sub _ _ a1),h1,k.here w h2⟩)
 ·cases hz
noncomputable def dt:List PyData->Option PyData
 | [.list xs]=>some (.int xs.length)
 | [.tuple xs]=>some (.int xs.length)
 | _=>none
theorem fQ {K:ym}:dR (λxs H Q=>∃ p ys,xs=[.ref p]/\(SqL K H p ys\/SqT K H p ys)/\Q (.int ys.length) H) dt:=λPK pa m G H vs ds d Q w hv hd k=>by
 unfold dt at hd
 split at hd
 ·cases hd;cases hv with
  | cons h1 h2 =>
   cases h2;cases h1 with
   | lst a1 a2=>exact ⟨_,_,rfl,.inl (SqL.of (w.sub _ _ a1)),by rw [a2.length]; exact k.here w (.int _)⟩
 ·cases hd;cases hv with
  | cons h1 h2 =>
   cases h2;cases h1 with
   | tup a1 a2=>exact ⟨_,_,rfl,.inr (SqT.of (w.sub _ _ a1)),by rw [a2.length]; exact k.here w (.int _)⟩
 ·cases hd
noncomputable def pE (n:Int):Int:=if n < 0 then -n else n
noncomputable def mC:List PyData->Option PyData
 | [.int n]=>some (.int (pE n))
 | _=>none
theorem Zan:dR (λxs H Q=>∃ i,xs=[.int i]/\Q (.int (if i < 0 then -i else i)) H) mC:=λPK pa m G H vs ds d Q w hv hd k=>by
 unfold mC at hd
 split at hd
 ·cases hd;cases hv with
  | cons h1 h2=>cases h2; cases h1; exact ⟨_,rfl,k.here w (.int _)⟩
 ·cases hd
noncomputable def cS (m n:Int):Int:=if n > m then n else m
noncomputable def iw (m n:Int):Int:=if n < m then n else m
noncomputable def jj:List PyData->Option PyData
 | [.int m,.int n]=>some (.int (cS m n))
 | _=>none
noncomputable def lO:List PyData->Option PyData
 | [.int m,.int n]=>some (.int (iw m n))
 | _=>none
theorem qg:dR (λxs H Q=>∃ i j,xs=[.int i,.int j]/\Q (.int (if j > i then j else i)) H) jj:=λPK pa m G H vs ds d Q w hv hd k=>by
 unfold jj at hd
 split at hd
 ·cases hd;cases hv with
  | cons h1 h2=>cases h2 with | cons h2 h3=>cases h3; cases h1; cases h2; exact ⟨_,_,rfl,k.here w (.int _)⟩
 ·cases hd
theorem Zf7:dR (λxs H Q=>∃ i j,xs=[.int i,.int j]/\Q (.int (if j < i then j else i)) H) lO:=λPK pa m G H vs ds d Q w hv hd k=>by
 unfold lO at hd
 split at hd
 ·cases hd;cases hv with
  | cons h1 h2=>cases h2 with | cons h2 h3=>cases h3; cases h1; cases h2; exact ⟨_,_,rfl,k.here w (.int _)⟩
 ·cases hd
noncomputable def ma:List PyData->Option PyData
 | [.int n]=>some (.int n)
 | [.bool n]=>some (.int (if n then 1 else 0))
 | _=>none
theorem Zal:dR (λxs H Q=>(∃ i,xs=[.int i]/\Q (.int i) H)\/∃ k,xs=[.bl k]/\Q (.int (if k then 1 else 0)) H) ma:=λPK pa m G H vs ds d Q w hv hd k=>by
 unfold ma at hd
 split at hd
 ·cases hd;cases hv with
  | cons h1 h2=>cases h2; cases h1; exact .inl ⟨_,rfl,k.here w (.int _)⟩
 ·cases hd;cases hv with
  | cons h1 h2=>cases h2; cases h1; exact .inr ⟨_,rfl,k.here w (.int _)⟩
 ·cases hd
noncomputable def gy:List PyData->Option PyData
 | [.list xs]=>some (.tuple xs)
 | [.tuple xs]=>some (.tuple xs)
 | _=>none
theorem kU {K:ym}:dR (λxs H Q=>∃ p ys,xs=[.ref p]/\((SqL K H p ys/\∀ l,H l=none->Q (.ref l) (upd H l (.tup ys)))\/(SqT K H p ys/\Q (.ref p) H))) gy:=λPK pa m G H vs ds d Q w hv hd k=>by
 unfold gy at hd
 split at hd
 ·cases hd;cases hv with
  | cons h1 h2 =>
   cases h2;cases h1 with
   | lst a1 a2=>exact ⟨_,_,rfl,.inl ⟨SqL.of (w.sub _ _ a1),λp hp=>k.tup w a2 hp⟩⟩
 ·cases hd;cases hv with
  | cons h1 h2 =>
   cases h2;cases h1 with
   | tup a1 a2=>exact ⟨_,_,rfl,.inr ⟨SqT.of (w.sub _ _ a1),k.here w (.tup a1 a2)⟩⟩
 ·cases hd
noncomputable def lZ:List PyData->Option yx
 | [.list xs]=>some xs
 | [.tuple xs]=>some xs
 | _=>none
theorem Zga {K:ym}:uB (λxs H Q=>∃ p ys,xs=[.ref p]/\(SqL K H p ys\/SqT K H p ys)/\∀ l,H l=none->Q (.ref l) (upd H l (.lst ys))) lZ:=λPK pa m G H vs ds d Q w hv hd k=>by
 unfold lZ at hd
 split at hd
 ·cases hd;cases hv with
  | cons h1 h2 =>
   cases h2;cases h1 with
   | lst a1 a2=>exact ⟨_,_,rfl,.inl (SqL.of (w.sub _ _ a1)),λp hp=>k.new w a2 hp⟩
 ·cases hd;cases hv with
  | cons h1 h2 =>
   cases h2;cases h1 with
   | tup a1 a2=>exact ⟨_,_,rfl,.inr (SqT.of (w.sub _ _ a1)),λp hp=>k.new w a2 hp⟩
 ·cases hd
noncomputable def eR:PyData->String
 | .none=>"NoneType"
 | .bool _=>"bool"
 | .int _=>"int"
 | .str _=>"str"
 | .list _=>"list"
 | .tuple _=>"tuple"
 | .dict _=>"dict"
theorem Dn.ty {K:ym} {G H:Hp} (sb:Sub G H) {v:V} {d:PyData} (h:Dn G v d):TyOf K H v (.type (eR d)):=by
 cases h with
 | non=>exact .non
 | bl b=>exact .bl b
 | int i=>exact .int i
 | str x=>exact .str x
 | tup h _=>exact .tup (sb _ _ h)
 | lst h _=>exact .lst (sb _ _ h)
 | dct h _=>exact h.elim (λh=>.dK (sb _ _ h)) λ⟨o,h⟩=>.frzD (sb _ _ h)
noncomputable def ge (T:String) (t:String):Bool:=decide (t=T) || (decide (T="int") && decide (t="bool"))
noncomputable def g9 (T:String) (i:yn):yn:=λρ=>(i ρ).bind λx=>.ret (.bool (ge T (eR x)))
def ZdC (T:String):Prop:=T="int"\/T="bool"\/T="str"\/T="list"\/T="tuple"\/T="dict"
theorem Zkp {K:ym} {T:String} (h:ZdC T) (d:PyData):PySem.W.kitOne K (.type (eR d)) (.type T)=some (ge T (eR d)):=by
 rcases h with rfl | rfl | rfl | rfl | rfl | rfl <;> cases d <;> rfl
theorem jG {T:String} {tc:TE} (hT:ZdC T) (htc:tc=tC (.ty T)) (h:PE X e (fq (λxs H Q=>∃ x T t b,xs=[x,.ty T]/\TyOf X.K H x t/\PySem.W.kitOne X.K t (.type T)=some b/\Q (.bl b) H) (eE (TAe PK i) (eE tc bb)))):PE X e (TAe PK (g9 T i)):=h.imp λσ H Q hz0=>by
 obtain ⟨pa,yE,H₀,m,ρ,G,R,z⟩:=hz0;subst htc;refine TAe.then R z λm1 x v G1 H1 s1 w1 R1 d1 q1=>?_;exact ⟨v,T,_,_,rfl,d1.ty w1.sub,Zkp hT x,(Kn.later q1 s1 w1.some).here w1 (.bl _)⟩
noncomputable def fH (xs:yx) (lo hi:Option Int):yx:=(xs.drop (HT.aM xs.length 0 lo)).take (HT.aM xs.length xs.length hi - HT.aM xs.length 0 lo)
theorem DnAll.take {H:Hp}:∀ {vs:yB} {ds:yx} (n:Nat),DnAll H vs ds->DnAll H (vs.take n) (ds.take n)
 | _,_,0,_=>.nil
 | _,_,_+1,.nil=>.nil
 | _,_,n+1,.cons r t=>.cons r (DnAll.take n t)
theorem DnAll.drop {H:Hp}:∀ {vs:yB} {ds:yx} (n:Nat),DnAll H vs ds->DnAll H (vs.drop n) (ds.drop n)
 | _,_,0,r=>r
 | _,_,_+1,.nil=>.nil
 | _,_,n+1,.cons r t=>DnAll.drop n t
theorem DnAll.cut {H:Hp} {vs:yB} {ds:yx} (h:DnAll H vs ds) (lo hi:Option Int):DnAll H (fg vs lo hi) (fH ds lo hi):=by
 unfold fg fH;rw [h.length];exact (h.drop _).take _
abbrev fL:=List Sl->Tr (Option Int)
noncomputable def pJ:fL:=λ_=>.ret none
noncomputable def mF (i:yn):fL:=λρ=>(i ρ).bind λx=>match x with
 | .int n=>.ret (some n)
 | _=>.fail
noncomputable def TAp (PK:Pk) (i:fL):TO:=λσ H Q=>∃ pa yE H₀ m ρ G,Rl PK pa yE H₀ m σ ρ G H/\(i ρ).ok m λm' x=>∀ G' H',Stp pa G H G' H'->Wd PK pa m' G' H'->Q x H'
theorem PO.imp {e:Option Expr} {t t':TO} (h:PO X e t) (q:∀ σ H Q,t' σ H Q->t σ H Q):PO X e t':=λpins s σ H Q I z=>h pins s σ H Q I (q σ H Q z)
theorem Zfy:PO X none (TAp PK pJ):=Zcx.imp λσ H Q hz0=>by
 obtain ⟨pa,yE,H₀,m,ρ,G,R,z⟩:=hz0;exact z G H .refl R.wd
theorem Zfx (h:PE X e (TAe PK i)):PO X (some e) (TAp PK (mF i)):=(Zcw h).imp λσ H Q hz0=>by
 obtain ⟨pa,yE,H₀,m,ρ,G,R,z⟩:=hz0;refine TAe.then R z λm1 x v G1 H1 s1 w1 R1 d1 q1=>?_;cases d1 with
 | int n=>exact ⟨n,rfl,q1 G1 H1 s1 w1⟩
 | _=>exact q1.elim
theorem ZkT {prog:Program} {w:World} {A:Around} {E:yw} {s:Shared} {t sl:Addr} {items:Array Value} {vl vu:Value} {lo hi:Option Int} {Q:yw} (ht:IsTup s.heap t items) (hs:s.heap.IsSliceOf sl vl vu .none) (pl:IsPart vl lo) (pu:IsPart vu hi)
  (hw:HT.aM items.size 0 lo=0/\HT.aM items.size items.size hi=items.size) (h:Q (.ref t) s):wpAny (model prog w) A (getItem (.ref t) (.ref sl)) Q E s:=by
 obtain ⟨os,hos,hcs,hds⟩:=id hs;have hTs:s.TypeIs (.ref sl) "slice":=⟨os,hos,hcs⟩;unfold getItem
 try with_reducible refine wpAny_holding ?_
 first | refine wpAny_bind (wpAny_pure ?_) | skip
 refine wpAny_bind (wpAny_sequenceKey ht.typeIs (by decide) ?_)
 refine wpAny_bind (wpAny_callSpecial?_slot (name:=Str.ofString "__getitem__") ht.typeIs wm
  (wpAny_call_entry wm ht.typeIs entry_tuple_getitem ?_ (args_tuple_getitem _ _)))
 show wpAny _ _ (Builtin.Tuple.tupleItemsOf (.ref t) >>= _) _ _ s;refine wpAny_bind (tupleItemsOf_ ht ?_);refine wpAny_bind (wpAny_typeOf hTs ?_);rw [if_pos (by decide)]
 refine wpAny_bind (HT.Za1 hs pl pu ?_);have hyes:(((HT.aM items.size 0 lo:Nat):Int) == 0 && (1:Int) == 1 && (HT.aM items.size items.size hi - HT.aM items.size 0 lo) == items.size)=true:=by
  rw [hw.1,hw.2];simp
 show wpAny _ _ (if (((HT.aM items.size 0 lo:Nat):Int) == 0 && (1:Int) == 1 && (HT.aM items.size items.size hi - HT.aM items.size 0 lo) == items.size)=true then _ else _) _ _ s
 rw [if_pos hyes];refine wpAny_bind (m:=Builtin.Tuple.tupleIsExact (.ref t)) ?_;unfold Builtin.Tuple.tupleIsExact;refine wpAny_bind (wpAny_typeOf ht.typeIs ?_);refine wpAny_pure ?_;rw [if_pos (by decide)]
 refine wpAny_bind (wpAny_rule ?_);exact wpAny_pure ⟨_,rfl,wpAny_pure h⟩
noncomputable def ZbZ (K:ym):V->Option Int->Option Int->Hp->VK->Prop:=λx lo hi H Q=>∃ a xs,x=.ref a/\SqT K H a xs/\(HT.aM xs.length 0 lo=0/\HT.aM xs.length xs.length hi=xs.length)/\Q (.ref a) H
theorem Zhd:SlR X (ZbZ X.K):=by
 intro pins s σ H x v vl vu lo hi sl Q I rx hs pl pu h;obtain ⟨a,xs,rfl,hx,hw,q⟩:=h;cases rx;obtain ⟨its,r,ht,hz⟩:=I.tuple hx;have hlen:its.toArray.size=xs.length:=by rw [uW]; exact r.length.symm
 refine ⟨"tuple",_,PyProof.Rows.slot_tuple_getitem.lookup,ht.typeIs,?_⟩;exact ZkT ht hs pl pu (by rw [hlen]; exact hw) ⟨.ref a,H,I,rfl,q⟩
noncomputable def Zig (K:ym):V->Option Int->Option Int->Hp->VK->Prop:=λx lo hi H Q=>Zb1 K x lo hi H Q\/Zb0 K x lo hi H Q\/ZbZ K x lo hi H Q
theorem Zhf:SlR X (Zig X.K):=Za2.or (Zhe.or Zhd)
noncomputable def Za0 (x:PyData) (lo hi:Option Int):Option PyData:=match x with
 | .list xs=>some (.list (fH xs lo hi))
 | .tuple xs=>some (.tuple (fH xs lo hi))
 | _=>none
noncomputable def pG (i:yn) (p q:fL):yn:=λρ=>(i ρ).bind λx=>(p ρ).bind λlo=>(q ρ).bind λhi=>Tr.of (Za0 x lo hi)
theorem TAp.then {p:fL} {σ:St} {H:Hp} {β:Type} {k:Option Int->Tr β} {Z:Nat->β->Prop} {Q:Option Int->Hp->Prop} {pa:Addr} {yE H₀ G:Hp} {m:Nat} {ρ:yD} (R:Rl PK pa yE H₀ m σ ρ G H) (h:((p ρ).bind k).ok m Z)
  (hq:∀ m1 x G1 H1,Stp pa G H G1 H1->Wd PK pa m1 G1 H1->Rl PK pa yE H₀ m1 σ ρ G1 H1->(k x).ok m1 Z->Q x H1):TAp PK p σ H Q:=by
 refine ⟨pa,yE,H₀,m,ρ,G,R,Tr.ok_mono (Tr.ok_bind.mp h) λm1 x hx G1 H1 s1 w1=>?_⟩;exact hq m1 x G1 H1 s1 w1 (R.step s1 w1) hx
theorem ZfC {p q:fL} {lo hi:Option Expr} {p2:Pos} (he:PE X e (TAe PK i)) (hl:PO X lo (TAp PK p)) (hu:PO X hi (TAp PK q)):PE X (.Subscript e (.Slice lo hi none p2) pos) (TAe PK (pG i p q)):=(ZcD Zhf he hl hu).imp λσ H Q hz0=>by
 obtain ⟨pa,yE,H₀,m,ρ,G,R,z⟩:=hz0;refine TAe.then R z λm1 x v G1 H1 s1 w1 R1 d1 q1=>?_;refine TAp.then R1 q1 λm2 lo G2 H2 s2 w2 R2 q2=>?_;refine TAp.then R2 q2 λm3 hi G3 H3 s3 w3 R3 q3=>?_;obtain ⟨d,hd,k⟩:=Tr.ok_of q3;have s13:=(s1.trans s2 w1.some).trans s3 w2.some;have k':=Kn.later k s13 w3.some;have d3:=d1.mono (s2.gs.trans s3.gs);cases d3 with
 | lst a1 a2=>cases hd; exact .inl ⟨_,_,rfl,SqL.of (w3.sub _ _ a1),λp hp=>k'.lst w3 (a2.cut lo hi) hp⟩
 | @tup a xs ds a1 a2 =>
  cases hd;by_cases hw:HT.aM xs.length 0 lo=0/\HT.aM xs.length xs.length hi=xs.length
  ·refine .inr (.inr ⟨_,_,rfl,SqT.of (w3.sub _ _ a1),hw,k'.here w3 ?_⟩);have e:fH ds lo hi=ds:=by
    unfold fH;rw [<- a2.length,hw.1,hw.2];simp;rw [a2.length];exact xT
   rw [e];exact .tup a1 a2
  ·exact .inr (.inl ⟨_,_,rfl,SqT.of (w3.sub _ _ a1),hw,λp hp=>k'.tup w3 (a2.cut lo hi) hp⟩)
 | _=>cases hd
theorem DnAll.range {H:Hp} (lo:Int) (n:Nat):DnAll H (fx lo n) ((aL lo n).map PyData.int):=by
 rw [Zid];exact DnAll.ints _
noncomputable def ll (lo hi:Int):Bool:=fE lo && fE hi && decide ((hi - lo).toNat<=1000)
noncomputable def lj:List PyData->Option yx
 | [.int lo,.int hi]=>if ll lo hi=true then some (aH lo hi) else none
 | _=>none
theorem ZhZ {G:Hp} {vs:yB} {xs ys:yx} (d:DnAll G vs xs) (h:lj xs=some ys):∃ k n:Int,vs=[.int k,.int n]/\(-(2 ^ 62)<=k/\k < 2 ^ 62/\-(2 ^ 62)<=n/\n < 2 ^ 62/\(n - k).toNat<=1000)/\ys=aH k n:=by
 unfold lj at h
 split at h
 ·split at h
  ·rename_i hn;cases h;cases d with
   | cons d1 d2 =>
    cases d2 with
    | cons d2 d3 =>
     cases d3;cases d1;cases d2;unfold ll at hn;rw [vm,vm] at hn;have h1:=of_decide_eq_true hn.1.1;have h2:=of_decide_eq_true hn.1.2;exact ⟨_,_,rfl,⟨h1.1,h1.2,h2.1,h2.2,of_decide_eq_true hn.2⟩,rfl⟩
  ·cases h
 ·cases h
def ZgA (t:TA):TE:=fq (λxs H Q=>∃ a lo hi,xs=[.ref a]/\H a=some (.rng lo hi)/\-(2 ^ 62)<=lo/\lo < 2 ^ 62/\-(2 ^ 62)<=hi/\hi < 2 ^ 62/\(hi - lo).toNat<=1000/\∀ p,H p=none->Q (.ref p) (upd H p (.tup (fx lo (hi - lo).toNat))))
 (eE (fq (λxs H Q=>∃ i j:Int,xs=[.int i,.int j]/\∀ p,H p=none->Q (.ref p) (upd H p (.rng i j))) t) bb)
noncomputable def uu (is:yo):yn:=λρ=>(is ρ).bind λxs=>(Tr.of (lj xs)).bind λys=>.ret (.tuple ys)
theorem Zqd (h:PE X e (ZgA (TAd PK is))):PE X e (TAe PK (uu is)):=h.imp λσ H Q hz0=>by
 obtain ⟨pa,yE,H₀,m,ρ,G,R,z⟩:=hz0;refine TAd.then R z λm1 xs vs G1 H1 s1 w1 R1 d1 q1=>?_;rw [Tr.ok_bind] at q1;obtain ⟨ys,hy,k⟩:=Tr.ok_of q1;obtain ⟨lo,hi,rfl,⟨b1,b2,b3,b4,b5⟩,rfl⟩:=ZhZ d1 hy;refine ⟨lo,hi,rfl,λp hp=>?_⟩;obtain ⟨w2,s2⟩:=w1.own (o:=.rng lo hi) hp;refine ⟨p,lo,hi,rfl,bq,b1,b2,b3,b4,b5,λq hq=>?_⟩;exact (Kn.later k (s1.trans s2 w1.some) w2.some).tup w2 (DnAll.range _ _) hq
noncomputable def ints?:List PyData->Option yy
 | []=>some []
 | .int n::xs=>(ints? xs).bind λns=>some (n::ns)
 | _=>none
@[simp] theorem ints?_map:∀ ns:yy,ints? (ns.map PyData.int)=some ns
 | []=>rfl
 | n::ns=>by rw [uX,ints?,ints?_map ns]; rfl
theorem DnAll.ints_inv {H:Hp} {vs:yB} {ds:yx} {ns:yy} (a:DnAll H vs ds) (h:ints? ds=some ns):vs=ns.map V.int/\ds=ns.map PyData.int:=by
 induction vs generalizing ds ns with
 | nil=>cases a; cases h; exact ⟨rfl,rfl⟩
 | cons v vs ih =>
  cases a with
  | cons g t =>
   cases g with
   | int n =>
    unfold ints? at h;rename_i ds;cases e:ints? ds with
    | none=>rw [e] at h; cases h
    | some ms =>
     rw [e] at h;cases h;obtain ⟨h1,h2⟩:=ih t e;exact ⟨by rw [h1]; rfl,by rw [h2]; rfl⟩
   | _=>unfold ints? at h; cases h
section
variable {prog:Program} {w:World} {A:Around} {E:yw} {s:Shared}
def ItAt (b:Bool) (h:Heap) (it a:Addr) (k:Nat):Prop:=match b with
 | true=>h.IsListIter it a k
 | false=>h.IsTupleIter it a k
def SqAt (b:Bool) (h:Heap) (a:Addr) (items:Array Value):Prop:=match b with
 | true=>h.IsList a items
 | false=>h.IsTuple a items
theorem ItAt.at {b:Bool} {h h':Heap} {it a:Addr} {k:Nat} (x:ItAt b h it a k) (e:∀ o,h.get? it=some o->h'.get? it=some o):ItAt b h' it a k:=by
 cases b with
 | true=>exact Heap.IsListIter.at x e
 | false=>obtain ⟨o,ho,r⟩:=(show h.IsTupleIter it a k from x); exact ⟨o,e o ho,r⟩
theorem SqAt.at {b:Bool} {h h':Heap} {a:Addr} {items:Array Value} (x:SqAt b h a items) (e:∀ o,h.get? a=some o->h'.get? a=some o):SqAt b h' a items:=by
 cases b with
 | true=>exact Heap.IsList.at x e
 | false=>exact Heap.IsTuple.at x e
theorem ItAt.there {b:Bool} {h:Heap} {it a:Addr} {k:Nat} (x:ItAt b h it a k):∃ o,h.get? it=some o/\∀ v,o.data≠.cell v:=by
 cases b with
 | true=>obtain ⟨o,ho,_,hd⟩:=(show h.IsListIter it a k from x); exact ⟨o,ho,λv z=>by rw [hd] at z; cases z⟩
 | false=>obtain ⟨o,ho,_,hd⟩:=(show h.IsTupleIter it a k from x); exact ⟨o,ho,λv z=>by rw [hd] at z; cases z⟩
theorem Zjy {it l:Addr} {i:Nat} {items:Array Value} {x:Value} {Q:yw} (hit:s.heap.IsTupleIter it l i) (hl:s.heap.IsTuple l items) (hx:items[i]?=some x)
  (hQ:∀ h',h'.IsTupleIter it l (i+1)->Heap.SameBut it s.heap h'->Q x { s with heap:=h' }):wpAny (model prog w) A (Builtin.SmallTypes.nextOf (.ref it)) Q E s:=by
 obtain ⟨o,ho,hc,hd⟩:=id hit; obtain ⟨ol,hol,_,nl,hdl⟩:=hl;unfold Builtin.SmallTypes.nextOf;refine wpAny_bind (wpAny_callSpecial?_slot (name:=Str.ofString "__next__") hit.typeIs wL (wpAny_call_entry wL hit.typeIs F.entry_tuple_iterator_next ?_ (F.args_tuple_iterator_next_1 _)));show wpAny _ _ (field (.ref it) 0 >>= _) _ _ s; refine wpAny_bind (wpAny_field ho hd (x:=.ref l) rfl ?_);show wpAny _ _ (if (Value.ref l == Value.none)=true then _ else _) _ _ s; rw [if_neg (show ¬ ((Value.ref l == Value.none)=true) from u3)]
 show wpAny _ _ (field (.ref it) 1 >>= _) _ _ s; refine wpAny_bind (wpAny_field ho hd (x:=.int i 0) rfl ?_);show wpAny _ _ (seqItems? (.ref l) >>= _) _ _ s; refine wpAny_bind (wpAny_seqItems hol hdl ?_); simp only [vH,hx];refine wpAny_bind (wpAny_setField ho hd (by simp) (wpAny_pure ⟨x,rfl,wpAny_pure (hQ _ ⟨_,wo _ ho (xM (wA hd _)),(Obj.cls_mapFields ..).trans hc,?_⟩ (wR ..))⟩))
 rw [wA hd]; simp [rawInt]
theorem Zjz {it l:Addr} {i:Nat} {items:Array Value} {Q:yw} (hh:A.handled=none) (hit:s.heap.IsTupleIter it l i) (hl:s.heap.IsTuple l items) (hx:items[i]?=none)
  (hE:∀ h' e,Heap.ExtBut it s.heap h'->(∃ o,h'.get? e=some o/\o.cls=.type "StopIteration")->E (.ref e) { s with heap:=h' }):wpAny (model prog w) A (Builtin.SmallTypes.nextOf (.ref it)) Q E s:=by
 obtain ⟨o,ho,hc,hd⟩:=id hit; obtain ⟨ol,hol,_,nl,hdl⟩:=hl;unfold Builtin.SmallTypes.nextOf;refine wpAny_bind (wpAny_callSpecial?_slot (name:=Str.ofString "__next__") hit.typeIs wL (wpAny_call_entry wL hit.typeIs F.entry_tuple_iterator_next ?_ (F.args_tuple_iterator_next_1 _)));show wpAny _ _ (field (.ref it) 0 >>= _) _ _ s; refine wpAny_bind (wpAny_field ho hd (x:=.ref l) rfl ?_);show wpAny _ _ (if (Value.ref l == Value.none)=true then _ else _) _ _ s; rw [if_neg (show ¬ ((Value.ref l == Value.none)=true) from u3)]
 show wpAny _ _ (field (.ref it) 1 >>= _) _ _ s; refine wpAny_bind (wpAny_field ho hd (x:=.int i 0) rfl ?_);show wpAny _ _ (seqItems? (.ref l) >>= _) _ _ s; refine wpAny_bind (wpAny_seqItems hol hdl ?_); simp only [vH,hx];refine wpAny_bind (wpAny_rule (wpAny_bind (wpAny_setField ho hd (by simp) ?_))); show wpAny _ _ (newExc (.type "StopIteration") [] >>= _) _ _ _
 refine wpAny_bind ?_; simp only [newExc,newTuple]; refine wpAny_bind (wpAny_newObj_type ?_ (by size_fits))
 refine wpAny_bind (m:=firstArgMember _ _) (wpAny_of_eq (a:=Value.none) (by first | rfl | (simp only [firstArgMember]; rfl)) ?_); refine wpAny_newObj_type ?_ (by size_fits); simp only [raiseNew]
 refine wpAny_bind (wpAny_handled ?_); first | rw [show A.in1.handled=none from hh] | rw [hh]
 refine wpAny_bind (wpAny_pure (wpAny_throw (hE _ _ (((wR ..).extBut.push _).push _) ⟨_,uS _ rfl,rfl⟩)))
theorem nY {b:Bool} {it l:Addr} {i:Nat} {items:Array Value} {x:Value} {Q:yw} (hit:ItAt b s.heap it l i) (hl:SqAt b s.heap l items) (hx:items[i]?=some x)
  (hQ:∀ h',ItAt b h' it l (i+1)->Heap.SameBut it s.heap h'->Q x { s with heap:=h' }):wpAny (model prog w) A (Builtin.SmallTypes.nextOf (.ref it)) Q E s:=by
 cases b with
 | true=>exact wpAny_nextOf_list_item hit hl hx hQ
 | false=>exact Zjy hit hl hx hQ
theorem rZ {b:Bool} {it l:Addr} {i:Nat} {items:Array Value} {Q:yw} (hh:A.handled=none) (hit:ItAt b s.heap it l i) (hl:SqAt b s.heap l items) (hx:items[i]?=none)
  (hE:∀ h' e,Heap.ExtBut it s.heap h'->(∃ o,h'.get? e=some o/\o.cls=.type "StopIteration")->E (.ref e) { s with heap:=h' }):wpAny (model prog w) A (Builtin.SmallTypes.nextOf (.ref it)) Q E s:=by
 cases b with
 | true=>exact wpAny_nextOf_list_end hh hit hl hx hE
 | false=>exact Zjz hh hit hl hx hE
theorem ItAt.bt {b:Bool} {h h':Heap} {it a c:Addr} {k:Nat} (x:ItAt b h it a k) (e:Heap.ExtBut c h h') (n:it≠c):ItAt b h' it a k:=x.at λo q=>e it o n q
theorem SqAt.bt {b:Bool} {h h':Heap} {a c:Addr} {items:Array Value} (x:SqAt b h a items) (e:Heap.ExtBut c h h') (n:a≠c):SqAt b h' a items:=x.at λo q=>e a o n q
theorem ZfS {b1 b2:Bool} {z TI TO i1 i2 l1 l2:Addr} {k1 k2:Nat} {xs ys:Array Value} {x y a b:Value} {Q:yw} (D:ZipApart z TI TO i1 i2 l1 l2)
  (hz:IsZip s.heap z TI TO .none) (hTI:IsPair s.heap TI (.ref i1) (.ref i2)) (hTO:IsPair s.heap TO a b) (h1:ItAt b1 s.heap i1 l1 k1) (h2:ItAt b2 s.heap i2 l2 k2) (hl1:SqAt b1 s.heap l1 xs) (hl2:SqAt b2 s.heap l2 ys) (hx:xs[k1]?=some x) (hy:ys[k2]?=some y)
  (hQ:∀ h',IsZip h' z TI TO (rawInt s.heap.objs.size)->IsPair h' TO x y->ItAt b1 h' i1 l1 (k1+1)->ItAt b2 h' i2 l2 (k2+1)->IsPair h' s.heap.objs.size x y ->
   (∀ c o,c≠z->c≠TO->c≠i1->c≠i2->s.heap.get? c=some o->h'.get? c=some o)->Q (.ref s.heap.objs.size) { s with heap:=h' }) :
  wpAny (model prog w) A (Builtin.«zip.__next__» ⟨[.ref z],[]⟩) (λfin s'=>∃ v,fin=.done (.ret v)/\Q v s') E s:=by
 show wpAny _ _ (field (.ref z) 2 >>= _) _ _ _; refine wpAny_bind (wpAny_field hz rfl (x:=.bool false) rfl ?_);show wpAny _ _ (field (.ref z) 3 >>= _) _ _ _; refine wpAny_bind (wpAny_field hz rfl (x:=.ref TI) rfl ?_); refine wpAny_bind (wpAny_seqItems hTI rfl ?_);show wpAny _ _ (Builtin.SmallTypes.ownedTupleIsFree (.ref z) >>= _) _ _ _; refine wpAny_bind ?_; unfold Builtin.SmallTypes.ownedTupleIsFree;refine wpAny_bind (wpAny_field hz rfl (x:=.none) rfl (wpAny_pure ?_)); simp only [if_true]; refine wpAny_bind (wpAny_rule ?_); refine wpAny_bind (wpAny_field hz rfl (x:=.ref TO) rfl ?_);refine wpAny_bind (wpAny_setField_rec hz (by simp) λg1 hz1 e1=>?_); replace hz1:IsZip g1 z TI TO .ellipsis:=hz1
 refine wpAny_bind ?_; simp only [List.zipIdx_cons,List.zipIdx_nil,xG,xH]; refine wpAny_bind (wpAny_bind (wpAny_onRaise ?_));show wpAny _ _ (Builtin.SmallTypes.nextOf (.ref i1) >>= _) _ _ _; refine wpAny_bind (nY (h1.bt e1.extBut D.i1z) (hl1.bt e1.extBut D.l1z) hx λg2 t1 e2=>wpAny_pure ?_);have p2:IsPair g2 TO a b:=e2.extBut _ _ D.TOi1 (e1.extBut _ _ D.TOz hTO);refine wpAny_bind (wpAny_seqItems p2 rfl ?_); refine wpAny_bind (wpAny_updateSeq_pair p2 λg3 p3 e3=>?_); replace p3:IsPair g3 TO x b:=p3;refine wpAny_bind (wpAny_letGo (wpAny_pure ?_)); refine wpAny_bind (wpAny_bind (wpAny_onRaise ?_));show wpAny _ _ (Builtin.SmallTypes.nextOf (.ref i2) >>= _) _ _ _;refine wpAny_bind (nY (((h2.bt e1.extBut D.i2z).bt e2.extBut D.i12.symm).bt e3.extBut D.TOi2.symm) (((hl2.bt e1.extBut D.l2z).bt e2.extBut D.l2i1).bt e3.extBut D.l2TO) hy λg4 t2 e4=>wpAny_pure ?_);have p4:IsPair g4 TO x b:=e4.extBut _ _ D.TOi2 p3;refine wpAny_bind (wpAny_seqItems p4 rfl ?_); refine wpAny_bind (wpAny_updateSeq_pair p4 λg5 p5 e5=>?_); replace p5:IsPair g5 TO x y:=p5;refine wpAny_bind (wpAny_letGo (wpAny_pure (wpAny_pure ?_))); refine wpAny_bind (wpAny_seqItems p5 rfl ?_); refine wpAny_bind (wpAny_newTuple ?_);have hsz:g5.objs.size=s.heap.objs.size:=by rw [e5.1,e4.1,e3.1,e2.1,e1.1]
 have z5:IsZip g5 z TI TO .ellipsis:=e5.extBut _ _ D.TOz.symm (e4.extBut _ _ D.i2z.symm (e3.extBut _ _ D.TOz.symm (e2.extBut _ _ D.i1z.symm hz1)));have k5:∀ c o,c≠z->c≠TO->c≠i1->c≠i2->s.heap.get? c=some o->g5.get? c=some o:=λc o c1 c2 c3 c4 q=>e5.extBut _ _ c2 (e4.extBut _ _ c4 (e3.extBut _ _ c2 (e2.extBut _ _ c3 (e1.extBut _ _ c1 q))));have u1:ItAt b1 g5 i1 l1 (k1+1):=((t1.bt e3.extBut D.TOi1.symm).bt e4.extBut D.i12).bt e5.extBut D.TOi1.symm;have u2:ItAt b2 g5 i2 l2 (k2+1):=t2.bt e5.extBut D.TOi2.symm;have zlt:z < g5.objs.size:=uY z5;show wpAny _ _ (Builtin.SmallTypes.ownedTupleHandOut (.ref z) (.ref g5.objs.size) >>= _) _ _ _; refine wpAny_bind ?_; unfold Builtin.SmallTypes.ownedTupleHandOut;have z6:IsZip (g5.push { cls:=.type "tuple",data:=.seq #[x,y] }) z TI TO .ellipsis:=uN _ z5;refine wpAny_bind (wpAny_setField_rec z6 (by simp) λg7 z7 e7=>?_); replace z7:IsZip g7 z TI TO (rawInt g5.objs.size):=z7
 refine wpAny_setField_rec z7 (by simp) λg8 z8 e8=>?_; replace z8:IsZip g8 z TI TO (rawInt g5.objs.size):=z8
 have up:∀ c o,c≠z->g5.get? c=some o->g8.get? c=some o:=λc o c1 q=>e8.extBut _ _ c1 (e7.extBut _ _ c1 (uN _ q));have t8:IsPair g8 g5.objs.size x y:=e8.extBut _ _ (vO zlt) (e7.extBut _ _ (vO zlt) (uS _ rfl));rw [hsz] at z8 t8;refine wpAny_pure ⟨_,rfl,?_⟩; show Q (.ref g5.objs.size) _; rw [hsz];exact hQ g8 z8 (up _ _ D.TOz p5) (u1.at λo q=>up _ o D.i1z q) (u2.at λo q=>up _ o D.i2z q) t8 λc o c1 c2 c3 c4 q=>up c o c1 (k5 c o c1 c2 c3 c4 q)
theorem ZfT {b1 b2:Bool} {z TI TO i1 i2 l1 l2:Addr} {k1 k2:Nat} {xs ys:Array Value} {a b:Value} {Q:Fin->Shared->Prop} (hh:A.handled=none) (D:ZipApart z TI TO i1 i2 l1 l2)
  (hz:IsZip s.heap z TI TO .none) (hTI:IsPair s.heap TI (.ref i1) (.ref i2)) (hTO:IsPair s.heap TO a b) (h1:ItAt b1 s.heap i1 l1 k1) (h2:ItAt b2 s.heap i2 l2 k2) (hl1:SqAt b1 s.heap l1 xs) (hl2:SqAt b2 s.heap l2 ys) (hend:xs[k1]?=none\/ys[k2]?=none)
  (hE:∀ h' e,(∀ c o,c≠z->c≠TO->c≠i1->c≠i2->s.heap.get? c=some o->h'.get? c=some o)->(∃ o,h'.get? e=some o/\o.cls=.type "StopIteration")->E (.ref e) { s with heap:=h' }) :
  wpAny (model prog w) A (Builtin.«zip.__next__» ⟨[.ref z],[]⟩) Q E s:=by
 show wpAny _ _ (field (.ref z) 2 >>= _) _ _ _; refine wpAny_bind (wpAny_field hz rfl (x:=.bool false) rfl ?_);show wpAny _ _ (field (.ref z) 3 >>= _) _ _ _; refine wpAny_bind (wpAny_field hz rfl (x:=.ref TI) rfl ?_); refine wpAny_bind (wpAny_seqItems hTI rfl ?_);show wpAny _ _ (Builtin.SmallTypes.ownedTupleIsFree (.ref z) >>= _) _ _ _; refine wpAny_bind ?_; unfold Builtin.SmallTypes.ownedTupleIsFree;refine wpAny_bind (wpAny_field hz rfl (x:=.none) rfl (wpAny_pure ?_)); simp only [if_true]; refine wpAny_bind (wpAny_rule ?_); refine wpAny_bind (wpAny_field hz rfl (x:=.ref TO) rfl ?_);refine wpAny_bind (wpAny_setField_rec hz (by simp) λg1 hz1 e1=>?_); replace hz1:IsZip g1 z TI TO .ellipsis:=hz1
 refine wpAny_bind ?_; simp only [List.zipIdx_cons,List.zipIdx_nil,xG,xH]; refine wpAny_bind (wpAny_bind (wpAny_onRaise ?_));show wpAny _ _ (Builtin.SmallTypes.nextOf (.ref i1) >>= _) _ _ _;cases hx:xs[k1]? with
 | none =>
  refine wpAny_bind (rZ hh (h1.bt e1.extBut D.i1z) (hl1.bt e1.extBut D.l1z) hx λg2 e e2 he=>?_);obtain ⟨oe,hoe,hce⟩:=he;have z2:IsZip g2 z TI TO .ellipsis:=e2 _ _ D.i1z.symm hz1;have ne:e≠z:=λq=>by subst q; rw [z2] at hoe; cases hoe; simp at hce
  exact wpAny_setField_rec z2 (by simp) λg3 _ e3=>hE g3 e (λc o c1 _ c3 _ q=>e3.extBut _ _ c1 (e2 _ _ c3 (e1.extBut _ _ c1 q))) ⟨oe,e3.extBut _ _ ne hoe,hce⟩
 | some x =>
  have hy:ys[k2]?=none:=by rcases hend with h | h; rw [hx] at h; cases h; exact h
  refine wpAny_bind (nY (h1.bt e1.extBut D.i1z) (hl1.bt e1.extBut D.l1z) hx λg2 t1 e2=>wpAny_pure ?_);have p2:IsPair g2 TO a b:=e2.extBut _ _ D.TOi1 (e1.extBut _ _ D.TOz hTO);refine wpAny_bind (wpAny_seqItems p2 rfl ?_); refine wpAny_bind (wpAny_updateSeq_pair p2 λg3 p3 e3=>?_);refine wpAny_bind (wpAny_letGo (wpAny_pure ?_)); refine wpAny_bind (wpAny_bind (wpAny_onRaise ?_));show wpAny _ _ (Builtin.SmallTypes.nextOf (.ref i2) >>= _) _ _ _;refine wpAny_bind (rZ hh (((h2.bt e1.extBut D.i2z).bt e2.extBut D.i12.symm).bt e3.extBut D.TOi2.symm) (((hl2.bt e1.extBut D.l2z).bt e2.extBut D.l2i1).bt e3.extBut D.l2TO) hy λg4 e e4 he=>?_);obtain ⟨oe,hoe,hce⟩:=he;have z4:IsZip g4 z TI TO .ellipsis:=e4 _ _ D.i2z.symm (e3.extBut _ _ D.TOz.symm (e2.extBut _ _ D.i1z.symm hz1));have ne:e≠z:=λq=>by subst q; rw [z4] at hoe; cases hoe; simp at hce
  exact wpAny_setField_rec z4 (by simp) λg5 _ e5=>hE g5 e (λc o c1 c2 c3 c4 q=>e5.extBut _ _ c1 (e4 _ _ c4 (e3.extBut _ _ c2 (e2.extBut _ _ c3 (e1.extBut _ _ c1 q))))) ⟨oe,e5.extBut _ _ ne hoe,hce⟩
noncomputable def dZ (b:Bool) (l:Addr):Obj:=match b with
 | true=>{ cls:=.type "list_iterator",data:=.fields #[.ref l,.int 0 0] }
 | false=>{ cls:=.type "tuple_iterator",data:=.fields #[.ref l,.int 0 0] }
theorem gH {b:Bool} {l:Addr} {items:Array Value} {Q:yw} (hl:SqAt b s.heap l items) (hQ:Q (.ref s.heap.objs.size) { s with heap:=s.heap.push (dZ b l) }):wpAny (model prog w) A (pyIter (.ref l)) Q E s:=by
 cases b with
 | true=>exact wpAny_pyIter_list hl hQ
 | false=>exact wpAny_pyIter_tuple hl hQ
theorem SqAt.push {b:Bool} {h:Heap} {l:Addr} {items:Array Value} (x:SqAt b h l items) (o:Obj):SqAt b (h.push o) l items:=x.at λ_ q=>uN _ q
theorem jw {b:Bool} {h:Heap} {it l:Addr} (e:h.get? it=some (dZ b l)):ItAt b h it l 0:=by
 cases b with
 | true=>exact ⟨_,e,rfl,rfl⟩
 | false=>exact ⟨_,e,rfl,rfl⟩
noncomputable abbrev zA (b1:Bool) (h:Heap) (l1:Addr):Heap:=h.push (dZ b1 l1)
noncomputable abbrev zB (b1 b2:Bool) (h:Heap) (l1 l2:Addr):Heap:=(zA b1 h l1).push (dZ b2 l2)
noncomputable abbrev zC (b1 b2:Bool) (h:Heap) (l1 l2:Addr):Heap:=(zB b1 b2 h l1 l2).push { cls:=.type "tuple",data:=.seq #[.ref h.objs.size,.ref (zA b1 h l1).objs.size] }
noncomputable abbrev zD (b1 b2:Bool) (h:Heap) (l1 l2:Addr):Heap:=(zC b1 b2 h l1 l2).push { cls:=.type "tuple",data:=.seq #[.none,.none] }
noncomputable abbrev zH (b1 b2:Bool) (h:Heap) (l1 l2:Addr):Heap:=(zD b1 b2 h l1 l2).push { cls:=.type "zip",data:=.fields #[.none,.bool false,.bool false,.ref (zB b1 b2 h l1 l2).objs.size,.ref (zC b1 b2 h l1 l2).objs.size] }
theorem ZjP (b1 b2:Bool) (l1 l2:Addr) (xs ys:Array Value) :
  Meets (Builtin.«zip.__new__» ⟨[.type "zip",.ref l1,.ref l2],[]⟩) (λ_ R s=>SqAt b1 s.heap l1 xs/\SqAt b2 s.heap l2 ys/\R (.ok (.ret (.ref (zD b1 b2 s.heap l1 l2).objs.size))) { s with heap:=zH b1 b2 s.heap l1 l2 }) :=
 .of_wp λprog w A R s h=>by
  obtain ⟨hp,g,d,tk,os⟩:=s;obtain ⟨hl1,hl2,h⟩:=h;have hsub:=sub_zip;have q1:SqAt b1 (Shared.heap ⟨hp,g,d,tk,os⟩) l1 xs:=hl1;have q2:SqAt b2 (Shared.heap ⟨hp.push (dZ b1 l1),g,d,tk,os⟩) l2 ys:=hl2.push _
  wp_walk using gH q1,gH q2
  exact ⟨_,rfl,h⟩
theorem Zpa {b1 b2:Bool} {l1 l2:Addr} {xs ys:Array Value} {Q:yw} (hl1:SqAt b1 s.heap l1 xs) (hl2:SqAt b2 s.heap l2 ys)
  (h:∀ h',IsZip h' (s.heap.objs.size+4) (s.heap.objs.size+2) (s.heap.objs.size+3) .none->IsPair h' (s.heap.objs.size+2) (.ref s.heap.objs.size) (.ref (s.heap.objs.size+1))->IsPair h' (s.heap.objs.size+3) .none .none ->
   ItAt b1 h' s.heap.objs.size l1 0->ItAt b2 h' (s.heap.objs.size+1) l2 0->(∀ c o,s.heap.get? c=some o->h'.get? c=some o)->Q (.ref (s.heap.objs.size+4)) { s with heap:=h' }) :
  wpAny (model prog w) A (call (.type "zip") [.ref l1,.ref l2]) Q E s:=by
 refine callType_new F.called_zip (by decide) (F.typeCall_zip_2 _ _) (F.newCall_zip_2 _ _) (λobj=>F.args_object_init_3 obj _ _) F.entry_zip_new (ZjP b1 b2 l1 l2 xs ys) ⟨hl1,hl2,?_⟩
 have n1:(zA b1 s.heap l1).objs.size=s.heap.objs.size+1:=vD ..;have n2:(zB b1 b2 s.heap l1 l2).objs.size=s.heap.objs.size+2:=(vD ..).trans (by rw [n1])
 have n3:(zC b1 b2 s.heap l1 l2).objs.size=s.heap.objs.size+3:=(vD ..).trans (by rw [n2])
 have n4:(zD b1 b2 s.heap l1 l2).objs.size=s.heap.objs.size+4:=(vD ..).trans (by rw [n3])
 have a5:IsZip (zH b1 b2 s.heap l1 l2) (zD b1 b2 s.heap l1 l2).objs.size (zB b1 b2 s.heap l1 l2).objs.size (zC b1 b2 s.heap l1 l2).objs.size .none:=uS _ rfl;have a4:IsPair (zH b1 b2 s.heap l1 l2) (zC b1 b2 s.heap l1 l2).objs.size .none .none:=uN _ (uS _ rfl);have a3:IsPair (zH b1 b2 s.heap l1 l2) (zB b1 b2 s.heap l1 l2).objs.size (.ref s.heap.objs.size) (.ref (zA b1 s.heap l1).objs.size):=uN _ (uN _ (uS _ rfl));have a2:(zH b1 b2 s.heap l1 l2).get? (zA b1 s.heap l1).objs.size=some (dZ b2 l2):=uN _ (uN _ (uN _ (uS _ (by cases b2 <;> rfl))))
 have a1:(zH b1 b2 s.heap l1 l2).get? s.heap.objs.size=some (dZ b1 l1):=uN _ (uN _ (uN _ (uN _ (uS _ (by cases b1 <;> rfl)))))
 rw [n2,n3,n4] at a5;rw [n3] at a4;rw [n1,n2] at a3;rw [n1] at a2;show _/\_;rw [n4];exact ⟨⟨_,a5,rfl⟩,h _ a5 a3 a4 (jw a1) (jw a2) λc o x=>uN _ (uN _ (uN _ (uN _ (uN _ x))))⟩
theorem Zih {b1 b2:Bool} {z TI TO i1 i2 l1 l2:Addr} {k1 k2:Nat} {xs ys:Array Value} {x y a b:Value} {Q:Option Value->Shared->Prop} (D:ZipApart z TI TO i1 i2 l1 l2)
  (hz:IsZip s.heap z TI TO .none) (hTI:IsPair s.heap TI (.ref i1) (.ref i2)) (hTO:IsPair s.heap TO a b) (h1:ItAt b1 s.heap i1 l1 k1) (h2:ItAt b2 s.heap i2 l2 k2) (hl1:SqAt b1 s.heap l1 xs) (hl2:SqAt b2 s.heap l2 ys) (hx:xs[k1]?=some x) (hy:ys[k2]?=some y)
  (hQ:∀ h',IsZip h' z TI TO (rawInt s.heap.objs.size)->IsPair h' TO x y->ItAt b1 h' i1 l1 (k1+1)->ItAt b2 h' i2 l2 (k2+1)->IsPair h' s.heap.objs.size x y ->
   (∀ c o,c≠z->c≠TO->c≠i1->c≠i2->s.heap.get? c=some o->h'.get? c=some o)->Q (some (.ref s.heap.objs.size)) { s with heap:=h' }):wpAny (model prog w) A (pyNext (.ref z)) Q E s:=by
 have hT:s.TypeIs (.ref z) "zip":=⟨_,hz,rfl⟩;unfold pyNext;exact wpAny_bind (wpAny_attempt (wpAny_callSpecial?_slot (name:=Str.ofString "__next__") hT xO (wpAny_call_entry xO hT F.entry_zip_next (ZfS D hz hTI hTO h1 h2 hl1 hl2 hx hy λh' a1 a2 a3 a4 a5 a6=>wpAny_pure (hQ h' a1 a2 a3 a4 a5 a6)) (F.args_zip_next_1 _))))
theorem Zii {b1 b2:Bool} {z TI TO i1 i2 l1 l2:Addr} {k1 k2:Nat} {xs ys:Array Value} {a b:Value} {Q:Option Value->Shared->Prop} (hh:A.handled=none) (D:ZipApart z TI TO i1 i2 l1 l2)
  (hz:IsZip s.heap z TI TO .none) (hTI:IsPair s.heap TI (.ref i1) (.ref i2)) (hTO:IsPair s.heap TO a b) (h1:ItAt b1 s.heap i1 l1 k1) (h2:ItAt b2 s.heap i2 l2 k2) (hl1:SqAt b1 s.heap l1 xs) (hl2:SqAt b2 s.heap l2 ys) (hend:xs[k1]?=none\/ys[k2]?=none)
  (hQ:∀ h',(∀ c o,c≠z->c≠TO->c≠i1->c≠i2->s.heap.get? c=some o->h'.get? c=some o)->Q none { s with heap:=h' }):wpAny (model prog w) A (pyNext (.ref z)) Q E s:=by
 have hT:s.TypeIs (.ref z) "zip":=⟨_,hz,rfl⟩;unfold pyNext;refine wpAny_bind (wpAny_attempt (wpAny_callSpecial?_slot (name:=Str.ofString "__next__") hT xO (wpAny_call_entry xO hT F.entry_zip_next (ZfT hh D hz hTI hTO h1 h2 hl1 hl2 hend λh' e hk he=>?_) (F.args_zip_next_1 _))));obtain ⟨o,ho,hc⟩:=he;exact wpAny_bind (wpAny_isInstance (T:="StopIteration") (b:=true) ⟨o,ho,hc⟩ isSubtype_stop (wpAny_pure (hQ _ hk)))
end
section
variable {X:Cx} {pins:yF} {σ:St} {H:Hp} {s:Shared} {h':Heap}
theorem Inv.turns {t':Nat} {ch:List Addr} (I:Inv X pins σ H s) (k:∀ b o,b ∉ ch->s.heap.get? b=some o->h'.get? b=some o) (hf:∀ b∈ch,fO X pins H b):Inv X pins σ H { s with heap:=h',toks:=t' }:=by
 have nit:∀ b u,H b=some u->b ∉ ch:=λb u e z=>by rw [(hf b z).1] at e; cases e
 refine I.step (g':=s.gens) (d':=s.drawn) (ch:=ch) (λb hb=>?_) (λb o _ _ hc e _=>k b o hc e) (λb o _ _ hc e _=>⟨o.slots,k b o hc e⟩) (λ_ _ _ _ n=>n)
  (λb o hc e=>⟨o,k b o hc e⟩) (λ_ _ e=>e) (λ_ _ _ e=>e) (λb ps e=>⟨#[],by rw [e]; simp⟩) (λm hm=>?_) (λb u e=>?_) I.bare
 ·obtain ⟨_,f1,_,f3,f4,f5⟩:=hf b hb;exact ⟨f3,f1,f4,f5⟩
 ·obtain ⟨o,es,ep,ho,r⟩:=hm;exact ⟨o,es,ep,k _ o (λz=>(hf _ z).2.1 rfl) ho,r⟩
 ·refine (I.hok b u e).stay (λc v hc q=>k c v ?_ q) (λ_ q=>q) (λ_ _ q=>q) λ_ _ _ _ q _=>q;rcases hc with z | z
  ·rw [z]; exact nit b u e
  ·exact nit c _ z
theorem Inv.pair {T:Addr} {x y:V} {u v:Value} (I:Inv X pins σ H s) (hT:H T=none) (ho:IsPair s.heap T u v) (r1:RelV x u) (r2:RelV y v)
  (hL:T≠X.env.locals) (hs0:X.s₀.heap.objs.size<=T) (hc:∀ x c,X.env.cells.lookup x=some c->c≠T) (hp:∀ p∈X.pn++pins,p.1≠T):Inv X pins σ (upd H T (.tup [x,y])) s:=by
 have ne:∀ {b:Addr} {o:HO},H b=some o->b≠T:=λe=>bS e hT;refine I.step (g':=s.gens) (d':=s.drawn) (t':=s.toks) (h':=s.heap) (ch:=[T]) (λb hb=>?_) (λb o _ _ _ e _=>e) (λb o _ _ _ e _=>⟨o.slots,e⟩) (λb o hb e n=>?_) (λb o _ e=>⟨o,e⟩)
  (λb xs e=>by rw [ap (ne e)]; exact e) (λb o u e=>by rw [ap (ne e)]; exact e) (λb ps e=>⟨#[],by rw [ap (ne e),e]; simp⟩) (λm hm=>hm) (λb u e=>?_) I.bare
 ·have e:b=T:=by simpa using hb
  subst e;exact ⟨.inr hs0,hL,hc,hp⟩
 ·have hb':b≠T:=by simpa using hb
  rw [ap hb'];exact n
 ·by_cases hb:b=T
  ·subst hb;rw [bq] at e;cases e;exact ⟨by show 2<=sizeLine; decide,[_,_],.cons r1 (.cons r2 .nil),⟨_,ho,rfl,_,rfl⟩⟩
  ·rw [ap hb] at e;exact (I.hok b u e).stay (λc v _ q=>q) (λc q=>by rw [ap (ne q)]; exact q) (λc xs q=>by rw [ap (ne q)]; exact q) λc ob xs _ q _=>by rw [ap (ne q)]; exact q
end
noncomputable def bd (b:Bool) (xs:yB):HO:=match b with
 | true=>.lst xs
 | false=>.tup xs
theorem dm {P:Program} {w:World} {H:Hp} {h:Heap} (ok:HOk P w H h) {b:Bool} {a:Addr} {xs:yB} (e:H a=some (bd b xs)):∃ its:yz,Vals xs its/\SqAt b h a its.toArray:=by
 cases b with
 | true=>obtain ⟨_,its,n,r,q⟩:=ok a _ e; exact ⟨its,r,⟨_,q,rfl,n,rfl⟩⟩
 | false=>obtain ⟨_,its,r,q⟩:=ok a _ e; exact ⟨its,r,q⟩
noncomputable def iQ (b1 b2:Bool) (l1 l2:Addr):It :=
 ⟨λi H=>∃ xs ys x y,H l1=some (bd b1 xs)/\H l2=some (bd b2 ys)/\xs[i]?=some x/\ys[i]?=some y,
  λi H v H'=>∃ xs ys x y p,H l1=some (bd b1 xs)/\H l2=some (bd b2 ys)/\xs[i]?=some x/\ys[i]?=some y/\H p=none/\v=.ref p/\H'=upd H p (.tup [x,y]),
  λi H=>∃ xs ys,H l1=some (bd b1 xs)/\H l2=some (bd b2 ys)/\(xs[i]?=none\/ys[i]?=none)⟩
noncomputable def ZSt (b1 b2:Bool) (z TI TO i1 i2 l1 l2:Addr) (i:Nat) (h:Heap):Prop :=
 IsZip h z TI TO .none/\IsPair h TI (.ref i1) (.ref i2)/\(∃ a b,IsPair h TO a b)/\ItAt b1 h i1 l1 i/\ItAt b2 h i2 l2 i
theorem Zgg {P:Program} {w:World} {K:ym} {elts:List Expr} {x1:Nat} {pos:Pos} {b1 b2:Bool} {l1 l2:Addr} (z TI TO i1 i2:Addr)
  (d:TI≠z/\TO≠z/\i1≠z/\i2≠z/\TI≠TO/\TI≠i1/\TI≠i2/\TO≠i1/\TO≠i2/\i1≠i2) :
  Turn P w K (.Tuple elts x1 pos) (iQ b1 b2 l1 l2) [z,TI,TO,i1,i2] z (ZSt b1 b2 z TI TO i1 i2 l1 l2) where
 mem:=by simp
 obj:=λi h st b hb=>by
  obtain ⟨hz,hTI,⟨a,c,hTO⟩,h1,h2⟩:=st;simp at hb;rcases hb with rfl | rfl | rfl | rfl | rfl
  ·exact ⟨_,hz,λv q=>by cases q⟩
  ·exact ⟨_,hTI,λv q=>by cases q⟩
  ·exact ⟨_,hTO,λv q=>by cases q⟩
  ·exact h1.there
  ·exact h2.there
 keep:=λi h h' st k=>by
  obtain ⟨hz,hTI,⟨a,c,hTO⟩,h1,h2⟩:=st;exact ⟨k _ (by simp) _ hz,k _ (by simp) _ hTI,⟨a,c,k _ (by simp) _ hTO⟩,h1.at λo e=>k _ (by simp) o e,h2.at λo e=>k _ (by simp) o e⟩
 item:=by
  intro X hP hw hK hc i pins s σ H E I hf st hg;subst hP hw hK;obtain ⟨xs,ys,x,y,e1,e2,hx,hy⟩:=hg;obtain ⟨hz,hTI,⟨a,c,hTO⟩,h1,h2⟩:=st;obtain ⟨us,r1,q1⟩:=dm I.hok e1;obtain ⟨vs,r2,q2⟩:=dm I.hok e2;obtain ⟨u,hu,ru⟩:=r1.get hx;obtain ⟨v,hv,rv⟩:=r2.get hy;have n1:∀ b∈[z,TI,TO,i1,i2],l1≠b/\l2≠b:=λb hb=>⟨bS e1 (hf b hb).1,bS e2 (hf b hb).1⟩;obtain ⟨d1,d2,d3,d4,d5,d6,d7,d8,d9,d10⟩:=d;have D:ZipApart z TI TO i1 i2 l1 l2:=⟨d1,d2,d3,d4,d5,d6,d7,d8,d9,d10,(n1 z (by simp)).1,(n1 TO (by simp)).1,(n1 i1 (by simp)).1,(n1 i2 (by simp)).1,(n1 z (by simp)).2,(n1 TO (by simp)).2,(n1 i1 (by simp)).2,(n1 i2 (by simp)).2⟩
  refine Zih D hz hTI hTO h1 h2 q1 q2 (by simpa using hu) (by simpa using hv) λh' z' p' t1 t2 pr kk=>?_
  refine ⟨_,rfl,wpAny_letOwnedTupleGo_zip z' λh2' z2 sb=>?_⟩;have lt:∀ {b:Addr} {o:Obj},s.heap.get? b=some o->s.heap.objs.size≠b:=λq=>vO (uY q);have zlt:=lt hz;have I1:Inv X pins σ H { s with heap:=h2' }:=I.turns (ch:=[z,TI,TO,i1,i2]) (t':=s.toks) (λb o hb e=>by
   simp at hb;exact sb.extBut _ _ hb.1 (kk b o hb.1 hb.2.2.1 hb.2.2.2.1 hb.2.2.2.2 e)) hf
  have hTn:H s.heap.objs.size=none:=I.hok.fresh (uQ _);have I2:=I1.pair (T:=s.heap.objs.size) (x:=x) (y:=y) hTn (sb.extBut _ _ zlt pr) ru rv (vO I.lt) I.sz
   (λq cc e hq=>by obtain ⟨vv,zz⟩:=I.cell q cc e; exact absurd zz.lt (by rw [hq]; exact ve _)) (λp hp hq=>absurd (uY (I.pin p hp).1) (by rw [hq]; exact ve _))
  refine ⟨.ref s.heap.objs.size,_,I2,rfl,⟨xs,ys,x,y,_,e1,e2,hx,hy,hTn,rfl,rfl⟩,⟨z2,sb.extBut _ _ d1 (kk _ _ d1 d5 d6 d7 hTI),⟨u,v,sb.extBut _ _ d2 p'⟩,t1.at λo e=>sb.extBut _ _ d3 e,t2.at λo e=>sb.extBut _ _ d4 e⟩,λb hb=>?_⟩;have hbn:b≠s.heap.objs.size:=by
   simp at hb;obtain ⟨o1,g1,_⟩:=h1.there;obtain ⟨o2,g2,_⟩:=h2.there;rcases hb with rfl | rfl | rfl | rfl | rfl
   ·exact (lt hz).symm
   ·exact (lt hTI).symm
   ·exact (lt hTO).symm
   ·exact (lt g1).symm
   ·exact (lt g2).symm
  rw [ap hbn];exact (hf b hb).1
 done:=by
  intro X hP hw hK hc i pins s σ H E I hf st hg;subst hP hw hK;obtain ⟨xs,ys,e1,e2,hend⟩:=hg;obtain ⟨hz,hTI,⟨a,c,hTO⟩,h1,h2⟩:=st;obtain ⟨us,r1,q1⟩:=dm I.hok e1;obtain ⟨vs,r2,q2⟩:=dm I.hok e2;have n1:∀ b∈[z,TI,TO,i1,i2],l1≠b/\l2≠b:=λb hb=>⟨bS e1 (hf b hb).1,bS e2 (hf b hb).1⟩;obtain ⟨d1,d2,d3,d4,d5,d6,d7,d8,d9,d10⟩:=d;have D:ZipApart z TI TO i1 i2 l1 l2:=⟨d1,d2,d3,d4,d5,d6,d7,d8,d9,d10,(n1 z (by simp)).1,(n1 TO (by simp)).1,(n1 i1 (by simp)).1,(n1 i2 (by simp)).1,(n1 z (by simp)).2,(n1 TO (by simp)).2,(n1 i1 (by simp)).2,(n1 i2 (by simp)).2⟩
  refine Zii (I.ok.hd hc) D hz hTI hTO h1 h2 q1 q2 (hend.imp (λq=>by simpa using r1.none_of q) (λq=>by simpa using r2.none_of q)) λh' kk=>⟨rfl,?_⟩
  exact I.turns (ch:=[z,TI,TO,i1,i2]) (t':=s.toks) (λb o hb e=>by
   simp at hb;exact kk b o hb.1 hb.2.2.1 hb.2.2.2.1 hb.2.2.2.2 e) hf
 self:=λ_ _ _ _ _ st h=>wpAny_pyIter_zip st.1 h
end L2
namespace L2
open AutoSeq1 (wpAny_loadPart')
section
variable {X:Cx} {tg:Expr} {PK:Pk} {a b:Expr} {i j:yn} {p pos:Pos}
def ZdK (ta tb:TE):TI:=λσ H R=>ta σ H λx H1=>tb σ H1 λy H2=>∃ b1 b2 l1 l2 xs ys,x=.ref l1/\y=.ref l2/\H2 l1=some (bd b1 xs)/\H2 l2=some (bd b2 ys)/\R (iQ b1 b2 l1 l2) H2
theorem lD {elts:List Expr} {x1:Nat} {tpos:Pos} {ta tb:TE} (hc:X.calm=true) (hg:Gl X "zip") (hm:X.mg "zip"=none) (ha:PE X a ta) (hb:PE X b tb)
  (hs:starEach [a,b] X.env=[(false,eval a X.env),(false,eval b X.env)]:=by rfl) (hs2:starEach [b] X.env=[(false,eval b X.env)]:=by rfl):PI X (.Tuple elts x1 tpos) (.Call (.Name "zip" p) [a,b] [] pos) (ZdK ta tb):=by
 intro pins s σ H R I h;have hab:PA X [a,b] (eE ta (eE tb bb)):=aV ha (aV hb bM (by rw [hs2]; rfl)) (by rw [hs,hs2])
 refine Call_ (iC I hg hm boot_zip (vS (thn (hab pos pins s σ H (λvs H2=>∃ b1 b2 l1 l2 xs ys,vs=[.ref l1,.ref l2]/\H2 l1=some (bd b1 xs)/\H2 l2=some (bd b2 ys)/\R (iQ b1 b2 l1 l2) H2) I ?_) λus s1 ⟨vs,H1,I1,r1,q1⟩=>?_) (by rw [hs,hs2]) (by rw [hs2]; rfl)))
 ·refine (show ta σ H _ from ?_)
  have h':ta σ H λx H1=>tb σ H1 λy H2=>∃ b1 b2 l1 l2 xs ys,x=.ref l1/\y=.ref l2/\H2 l1=some (bd b1 xs)/\H2 l2=some (bd b2 ys)/\R (iQ b1 b2 l1 l2) H2:=h;have e:(λ(x:V) (H1:Hp)=>tb σ H1 λy H2=>∃ b1 b2 l1 l2 xs ys,x=.ref l1/\y=.ref l2/\H2 l1=some (bd b1 xs)/\H2 l2=some (bd b2 ys)/\R (iQ b1 b2 l1 l2) H2) =
    λx H1=>eE tb bb σ H1 λxs H2=>∃ b1 b2 l1 l2 us ys,x::xs=[.ref l1,.ref l2]/\H2 l1=some (bd b1 us)/\H2 l2=some (bd b2 ys)/\R (iQ b1 b2 l1 l2) H2:=by
   funext x H1;show _=tb σ H1 _;congr 1;funext y H2;show _=(∃ b1 b2 l1 l2 us ys,[x,y]=[.ref l1,.ref l2]/\H2 l1=some (bd b1 us)/\H2 l2=some (bd b2 ys)/\R (iQ b1 b2 l1 l2) H2);apply propext;constructor
   ·rintro ⟨b1,b2,l1,l2,xs,ys,rfl,rfl,q⟩; exact ⟨b1,b2,l1,l2,xs,ys,rfl,q⟩
   ·rintro ⟨b1,b2,l1,l2,xs,ys,e,q⟩;have e1:x=V.ref l1/\y=V.ref l2:=by simpa using e
    exact ⟨b1,b2,l1,l2,xs,ys,e1.1,e1.2,q⟩
  rw [e] at h';exact h'
 ·obtain ⟨b1,b2,l1,l2,xs,ys,rfl,e1,e2,q⟩:=q1;obtain ⟨u1,u2,rfl,r1,r2⟩:=hZ r1;cases r1;cases r2;obtain ⟨us,ru,q1⟩:=dm I1.hok e1;obtain ⟨vs,rv,q2⟩:=dm I1.hok e2;refine Zpa q1 q2 λh' z pTI pTO t1 t2 kk=>?_;have I2:Inv X pins σ H1 { s1 with heap:=h' }:=I1.kept (t':=s1.toks) kk;have na:∀ n k:Nat,n≠k->(s1.heap.objs.size+n:Nat)≠s1.heap.objs.size+k:=λn k h e=>h (by omega)
  refine wpAny_pyIter_zip z ⟨s1.heap.objs.size+4,[s1.heap.objs.size+4,s1.heap.objs.size+2,s1.heap.objs.size+3,s1.heap.objs.size,s1.heap.objs.size+1],_,_,H1,rfl,I2,Zgg _ _ _ _ _ ⟨na 2 4 (by decide),na 3 4 (by decide),na 0 4 (by decide),na 1 4 (by decide),na 2 3 (by decide),na 2 0 (by decide),na 2 1 (by decide),na 3 0 (by decide),na 3 1 (by decide),na 0 1 (by decide)⟩,⟨z,pTI,⟨_,_,pTO⟩,t1,t2⟩,λb hb=>?_,q⟩
  have hle:s1.heap.objs.size<=b:=by
   simp at hb;rcases hb with rfl | rfl | rfl | rfl | rfl <;> first | exact Nat.le_add_right _ _ | exact uQ _
  exact I1.fpOk hle (I1.hok.fresh hle)
noncomputable def bw (xs ys:yx):yx:=(xs.zip ys).map λ(x,y)=>.tuple [x,y]
theorem oQ {G:Hp} {v:V} {x:PyData} {xs:yx} (d:Dn G v x) (h:gb x=some xs):∃ b a vs,v=.ref a/\G a=some (bd b vs)/\DnAll G vs xs:=by
 cases d with
 | lst h1 h2=>cases h; exact ⟨true,_,_,rfl,h1,h2⟩
 | tup h1 h2=>cases h; exact ⟨false,_,_,rfl,h1,h2⟩
 | _=>cases h
theorem sR {b:Bool} {xs ys:yB} (h:some (bd b xs)=some (bd b ys)):xs=ys:=by
 cases b <;> (cases h; rfl)
theorem Zkz {pa:Addr} {G:Hp} {b1 b2:Bool} {l1 l2:Addr} {us vs:yB} {xs ys:yx} (h1:G l1=some (bd b1 us)) (h2:G l2=some (bd b2 vs)) (d1:DnAll G us xs) (d2:DnAll G vs ys):jM PK pa (iQ b1 b2 l1 l2) G (bw xs ys):=λm G2 H2 sb w=>by
 have e1:H2 l1=some (bd b1 us):=w.sub _ _ (sb _ _ h1);have e2:H2 l2=some (bd b2 vs):=w.sub _ _ (sb _ _ h2);refine ⟨λn d hd=>?_,us,vs,e1,e2,?_⟩
 ·unfold bw at hd;rw [uT] at hd;cases hz:(xs.zip ys)[n]? with
  | none=>rw [hz] at hd; cases hd
  | some xy =>
   rw [hz] at hd;cases hd;have hxy:=yc.mp hz;obtain ⟨u,hu,du⟩:=d1.get n hxy.1;obtain ⟨v,hv,dv⟩:=d2.get n hxy.2;refine ⟨⟨us,vs,u,v,e1,e2,hu,hv⟩,λx H3 hz0=>?_⟩;obtain ⟨us',vs',u',v',p,f1,f2,hu',hv',hp,ex,eH⟩:=hz0;rw [e1] at f1;rw [e2] at f2;have:=sR f1;have:=sR f2;subst us' vs';rw [hu] at hu';rw [hv] at hv';cases hu';cases hv';subst ex eH;obtain ⟨w3,s3⟩:=w.new (o:=.tup [u,v]) hp;exact ⟨_,s3,w3,.tup bq (.cons ((du.mono sb).mono s3.gs) (.cons ((dv.mono sb).mono s3.gs) .nil))⟩
 ·unfold bw;rw [uO,wO,d1.length.symm,d2.length.symm];rcases Nat.le_total us.length vs.length with hle | hle
  ·left
   rw [xB hle];simp
  ·right
   rw [Nat.min_eq_right hle];simp
noncomputable def jH (i j:yn):yo:=λρ=>(i ρ).bind λx=>(j ρ).bind λy=>(Tr.of (gb x)).bind λxs=>(Tr.of (gb y)).bind λys=>.ret (bw xs ys)
theorem mx {iter:Expr} (h:PI X tg iter (ZdK (TAe PK i) (TAe PK j))):PI X tg iter (fm PK (jH i j)):=h.imp λσ H R0 hz0=>by
 obtain ⟨pa,yE,H₀,m,ρ,G,R,z⟩:=hz0;refine TAe.then R z λm1 x v G1 H1 s1 w1 R1 d1 q1=>?_;refine TAe.then R1 q1 λm2 y u G2 H2 s2 w2 R2 d2 q2=>?_;rw [Tr.ok_bind] at q2;obtain ⟨xs,hx,q2⟩:=Tr.ok_of q2;rw [Tr.ok_bind] at q2;obtain ⟨ys,hy,q2⟩:=Tr.ok_of q2;obtain ⟨b1,l1,us,rfl,e1,f1⟩:=oQ (d1.mono s2.gs) hx;obtain ⟨b2,l2,vs,rfl,e2,f2⟩:=oQ d2 hy;exact ⟨b1,b2,l1,l2,us,vs,rfl,rfl,w2.sub _ _ e1,w2.sub _ _ e2,q2 _ G2 H2 (s1.trans s2 w1.some) w2 (Zkz e1 e2 f1 f2)⟩
end
theorem Zen {prog:Program} {w:World} {A:Around} (hh:A.handled=none) (b:Bool) (it l:Addr) (hne:l≠it) (items:Array Value):Draws prog w A it [it,l] items.size (λi v=>items[i]?=some v) (λi h=>ItAt b h it l i/\SqAt b h l items) where
 live:=λ_ _ st=>let ⟨o,ho,_⟩:=st.1.there; ⟨o,ho⟩
 frame:=λ_ _ _ st hk=>⟨st.1.at λo e=>hk it (by simp) o e,st.2.at λo e=>hk l (by simp) o e⟩
 item:=λi s Q E hi st hQ=>nY st.1 st.2 (x:=items[i]) (by simp [hi]) λh' hit' hs'=>hQ _ h' s.toks (by simp [hi]) ⟨hit',st.2.bt hs'.extBut hne⟩ hs'
 done:=λs Q E st hE=>rZ hh st.1 st.2 (by simp) hE
theorem ZjS (b:Bool) (l:Addr) (items:Array Value) :
  Meets (Builtin.«enumerate.__new__» ⟨[.type "enumerate",.ref l],[]⟩) (λ_ R s=>SqAt b s.heap l items /\
   R (.ok (.ret (.ref (s.heap.push (dZ b l)).objs.size))) { s with heap:=(s.heap.push (dZ b l)).push { cls:=.type "enumerate",data:=.fields #[.none,.bool false,.ref s.heap.objs.size,rawInt 0,.none,.none] } }) :=
 .of_wp λprog w A R s h=>by
  obtain ⟨hp,g,d,tk,os⟩:=s;obtain ⟨hl,h⟩:=h;have hsub:=sub_enumerate;have q:SqAt b (Shared.heap ⟨hp,g,d,tk,os⟩) l items:=hl;have ho:∃ ob,hp.get? l=some ob:=by
   cases b with
   | true=>obtain ⟨ob,e,_⟩:=hl; exact ⟨ob,e⟩
   | false=>obtain ⟨ob,e,_⟩:=hl; exact ⟨ob,e⟩
  obtain ⟨ob,ho⟩:=ho
  wp_walk using wpAny_loadPart' ho
  refine wpAny_stack_any λst=>wpAny_pure ?_
  split
  ·rename_i c _ _ _ _ _;cases (c == Value.type "enumerate")
   ·wp_walk using wpAny_loadPart' ho,gH q
    exact ⟨_,rfl,h⟩
   ·wp_walk using wpAny_loadPart' ho,gH q
    exact ⟨_,rfl,h⟩
  ·wp_walk using wpAny_loadPart' ho,gH q
   exact ⟨_,rfl,h⟩
section
variable {prog:Program} {w:World} {A:Around} {E:yw} {s:Shared}
theorem Zpl {b:Bool} {l:Addr} {items:Array Value} {Q:yw} (hl:SqAt b s.heap l items)
  (h:∀ h',IsEnum h' (s.heap.objs.size+1) s.heap.objs.size 0 .none->ItAt b h' s.heap.objs.size l 0->(∀ c o,s.heap.get? c=some o->h'.get? c=some o)->Q (.ref (s.heap.objs.size+1)) { s with heap:=h' }) :
  wpAny (model prog w) A (call (.type "enumerate") [.ref l]) Q E s:=by
 refine callType_new F.called_enumerate (by decide) (F.typeCall_enumerate_1 _) (F.newCall_enumerate_1 _) (λobj=>xR obj _) F.entry_enumerate_new (ZjS b l items) ⟨hl,?_⟩
 have n1:(s.heap.push (dZ b l)).objs.size=s.heap.objs.size+1:=vD ..;have a2:IsEnum ((s.heap.push (dZ b l)).push { cls:=.type "enumerate",data:=.fields #[.none,.bool false,.ref s.heap.objs.size,rawInt 0,.none,.none] }) (s.heap.push (dZ b l)).objs.size s.heap.objs.size 0 .none:=uS _ rfl;have a1:((s.heap.push (dZ b l)).push { cls:=.type "enumerate",data:=.fields #[.none,.bool false,.ref s.heap.objs.size,rawInt 0,.none,.none] }).get? s.heap.objs.size=some (dZ b l):=uN _ (uS _ (by cases b <;> rfl))
 rw [n1] at a2;show _/\_;rw [n1];exact ⟨⟨_,a2,rfl⟩,h _ a2 (jw a1) λc o x=>uN _ (uN _ x)⟩
end
noncomputable def jO (b:Bool) (l:Addr):It :=
 ⟨λi H=>∃ xs x,H l=some (bd b xs)/\xs[i]?=some x,
  λi H v H'=>∃ xs x p,H l=some (bd b xs)/\xs[i]?=some x/\H p=none/\v=.ref p/\H'=upd H p (.tup [.int i,x]),
  λi H=>∃ xs,H l=some (bd b xs)/\xs.length=i⟩
theorem Zgl {P:Program} {w:World} {K:ym} {elts:List Expr} {x1:Nat} {pos:Pos} {b:Bool} {l:Addr} (e it:Addr) (hne:e≠it) :
  Turn P w K (.Tuple elts x1 pos) (jO b l) [e,it] e (λi h=>(∃ old,IsEnum h e it i old)/\ItAt b h it l i) where
 mem:=by simp
 obj:=λi h st c hb=>by
  obtain ⟨⟨old,he⟩,h1⟩:=st;simp at hb;rcases hb with rfl | rfl
  ·exact ⟨_,he,λv q=>by cases q⟩
  ·exact h1.there
 keep:=λi h h' st k=>by
  obtain ⟨⟨old,he⟩,h1⟩:=st;exact ⟨⟨old,k _ (by simp) _ he⟩,h1.at λo q=>k _ (by simp) o q⟩
 item:=by
  intro X hP hw hK hc i pins s σ H E I hf st hg;subst hP hw hK;obtain ⟨xs,x,e1,hx⟩:=hg;obtain ⟨⟨old,he⟩,h1⟩:=st;obtain ⟨us,r1,q1⟩:=dm I.hok e1;obtain ⟨u,hu,ru⟩:=r1.get hx;have nl:∀ c∈[e,it],l≠c:=λc hc=>bS e1 (hf c hc).1;have hlt:i < us.toArray.size:=by
   have:=(uR.mp hu).1;simpa using this
  refine wpAny_pyNext_enum_itemD (Zen (A:=X.A.in1) (show X.A.in1.handled=none from I.ok.hd hc) b it l (nl it (by simp)) us.toArray) he ⟨h1,q1⟩ hlt hne (by simp only [uV,wF,or_false,not_or]; exact ⟨hne,(nl e (by simp)).symm⟩) λx' h' tk hP' ho st' hT hsz kk=>?_
  have hxu:x'=u:=by
   have q:us[i]?=some x':=by simpa using hP'
   rw [hu] at q;cases q
   rfl
  subst hxu;refine ⟨_,rfl,wpAny_letOwnedTupleGo_enum ho λh2' z2 sb=>?_⟩;have lt:∀ {c:Addr} {o:Obj},s.heap.get? c=some o->s.heap.objs.size≠c:=λq=>vO (uY q);have I1:Inv X pins σ H { s with heap:=h2',toks:=tk+1 }:=I.turns (ch:=[e,it]) (λc o hb q=>by
   simp at hb;exact sb.extBut _ _ hb.1 (kk c o hb.1 hb.2 q)) hf
  have hTn:H s.heap.objs.size=none:=I.hok.fresh (uQ _);have I2:=I1.pair (T:=s.heap.objs.size) (x:=.int i) (y:=x) hTn (sb.extBut _ _ (lt he) hT) ⟨tk,rfl⟩ ru (vO I.lt) I.sz
   (λq cc ee hq=>by obtain ⟨vv,zz⟩:=I.cell q cc ee; exact absurd zz.lt (by rw [hq]; exact ve _)) (λp hp hq=>absurd (uY (I.pin p hp).1) (by rw [hq]; exact ve _))
  refine ⟨.ref s.heap.objs.size,_,I2,rfl,⟨xs,x,_,e1,hx,hTn,rfl,rfl⟩,⟨⟨_,z2⟩,st'.1.at λo q=>sb.extBut _ _ (Ne.symm hne) q⟩,λc hb=>?_⟩;have hbn:c≠s.heap.objs.size:=by
   simp at hb;obtain ⟨o1,g1,_⟩:=h1.there;rcases hb with rfl | rfl
   ·exact (lt he).symm
   ·exact (lt g1).symm
  rw [ap hbn];exact (hf c hb).1
 done:=by
  intro X hP hw hK hc i pins s σ H E I hf st hg;subst hP hw hK;obtain ⟨xs,e1,hend⟩:=hg;obtain ⟨⟨old,he⟩,h1⟩:=st;obtain ⟨us,r1,q1⟩:=dm I.hok e1;have nl:∀ c∈[e,it],l≠c:=λc hc=>bS e1 (hf c hc).1;have hsz:us.toArray.size=i:=by rw [uW,<- r1.length]; exact hend
  subst hsz;refine wpAny_pyNext_enum_endD (Zen (A:=X.A.in1) (show X.A.in1.handled=none from I.ok.hd hc) b it l (nl it (by simp)) us.toArray) he ⟨h1,q1⟩ λh' eb=>⟨rfl,?_⟩
  exact I.turns (ch:=[e,it]) (t':=s.toks) (λc o hb q=>by
   simp at hb;exact eb c o hb.2 q) hf
 self:=λ_ _ _ _ _ st h=>by
  obtain ⟨⟨old,he⟩,_⟩:=st;exact wpAny_pyIter_enum he h
section
variable {X:Cx} {tg:Expr} {PK:Pk} {a b:Expr} {i j:yn} {p pos:Pos}
def ZdO (ta:TE):TI:=λσ H R=>ta σ H λx H1=>∃ b l xs,x=.ref l/\H1 l=some (bd b xs)/\R (jO b l) H1
theorem rM {elts:List Expr} {x1:Nat} {tpos:Pos} {ta:TE} (hc:X.calm=true) (hg:Gl X "enumerate") (hm:X.mg "enumerate"=none) (ha:PE X a ta)
  (hs:starEach [a] X.env=[(false,eval a X.env)]:=by rfl):PI X (.Tuple elts x1 tpos) (.Call (.Name "enumerate" p) [a] [] pos) (ZdO ta):=by
 intro pins s σ H R I h;have hab:PA X [a] (eE ta bb):=aV ha bM (by rw [hs]; rfl)
 have h':eE ta bb σ H λvs H1=>∃ x,vs=[x]/\∃ b l xs,x=.ref l/\H1 l=some (bd b xs)/\R (jO b l) H1:=by
  have e:(λ(x:V) (H1:Hp)=>∃ b l xs,x=.ref l/\H1 l=some (bd b xs)/\R (jO b l) H1)=λx H1=>bb σ H1 λxs H2=>∃ y,x::xs=[y]/\∃ b l xs,y=.ref l/\H2 l=some (bd b xs)/\R (jO b l) H2:=by
   funext x H1;apply propext;constructor
   ·exact λq=>⟨x,rfl,q⟩
   ·rintro ⟨y,e,q⟩;have e':x=y:=by simpa using e
    subst e';exact q
  have h0:ta σ H λx H1=>∃ b l xs,x=.ref l/\H1 l=some (bd b xs)/\R (jO b l) H1:=h;rw [e] at h0;exact h0
 refine Call_ (iC I hg hm boot_enumerate (vS (thn (hab pos pins s σ H _ I h') λus s1 hz0=>?_) (by rw [hs]; rfl) rfl))
 obtain ⟨vs,H1,I1,r1,q1⟩:=hz0;obtain ⟨x,rfl,b,l,xs,rfl,e1,q⟩:=q1;obtain ⟨u,rfl,ru⟩:=dS r1;cases ru;obtain ⟨us,ru,q1⟩:=dm I1.hok e1;refine Zpl q1 λh' z t1 kk=>?_;have I2:Inv X pins σ H1 { s1 with heap:=h' }:=I1.kept (t':=s1.toks) kk;refine wpAny_pyIter_enum z ⟨s1.heap.objs.size+1,[s1.heap.objs.size+1,s1.heap.objs.size],_,_,H1,rfl,I2,Zgl _ _ (λq=>absurd (show (s1.heap.objs.size+1:Nat)=s1.heap.objs.size from q) (by omega)),⟨⟨_,z⟩,t1⟩,λc hb=>?_,q⟩
 have hle:s1.heap.objs.size<=c:=by
  simp at hb;rcases hb with rfl | rfl <;> first | exact Nat.le_add_right _ _ | exact uQ _
 exact I1.fpOk hle (I1.hok.fresh hle)
noncomputable def dL (xs:yx):yx:=(List.range xs.length).zipWith (λ(n:Nat) x=>.tuple [.int n,x]) xs
theorem ZkD {pa:Addr} {G:Hp} {b:Bool} {l:Addr} {us:yB} {xs:yx} (h1:G l=some (bd b us)) (d1:DnAll G us xs):jM PK pa (jO b l) G (dL xs):=λm G2 H2 sb w=>by
 have e1:H2 l=some (bd b us):=w.sub _ _ (sb _ _ h1);have hlen:(dL xs).length=xs.length:=by unfold dL; simp
 refine ⟨λn d hd=>?_,us,e1,by rw [hlen,d1.length]⟩
 have hn:n < xs.length:=by rw [<- hlen]; exact (uR.mp hd).1
 have hd':d=.tuple [.int n,xs[n]]:=by
  unfold dL at hd;rw [List.getElem?_zipWith] at hd;simp [hn] at hd;exact hd.symm
 subst hd';obtain ⟨u,hu,du⟩:=d1.get n (show xs[n]?=some xs[n] by simp [hn])
 refine ⟨⟨us,u,e1,hu⟩,λx H3 hz0=>?_⟩;obtain ⟨us',u',p,f1,hu',hp,ex,eH⟩:=hz0;rw [e1] at f1;have:=sR f1;subst us';rw [hu] at hu';cases hu';subst ex eH;obtain ⟨w3,s3⟩:=w.new (o:=.tup [.int n,u]) hp;exact ⟨_,s3,w3,.tup bq (.cons (.int n) (.cons ((du.mono sb).mono s3.gs) .nil))⟩
noncomputable def mG (i:yn):yo:=λρ=>(i ρ).bind λx=>(Tr.of (gb x)).bind λxs=>.ret (dL xs)
theorem uj {iter:Expr} (h:PI X tg iter (ZdO (TAe PK i))):PI X tg iter (fm PK (mG i)):=h.imp λσ H R0 hz0=>by
 obtain ⟨pa,yE,H₀,m,ρ,G,R,z⟩:=hz0;refine TAe.then R z λm1 x v G1 H1 s1 w1 R1 d1 q1=>?_;rw [Tr.ok_bind] at q1;obtain ⟨xs,hx,q1⟩:=Tr.ok_of q1;obtain ⟨b1,l1,us,rfl,e1,f1⟩:=oQ d1 hx;exact ⟨b1,l1,us,rfl,w1.sub _ _ e1,q1 _ G1 H1 s1 w1 (ZkD e1 f1)⟩
end
end L2
namespace L2
section
variable {prog:Program} {w:World} {A:Around}
theorem mX (hh:A.handled=none) (b:Bool) (I ax:Addr) (hne:ax≠I) (items:Array Value):Walks prog w A I [I,ax] [I] items.size (λi v=>items[i]?=some v) (λi h=>ItAt b h I ax i/\SqAt b h ax items):=by
 cases b with
 | true=>exact Walks.list hh I ax hne items
 | false=>exact Walks.tuple hh I ax hne items
end
theorem l9 {ns:yy} {us:yz} (r:Vals (ns.map V.int) us) {i:Nat} {v:Value} (h:us[i]?=some v):∃ t,v=.int ((ns[i]?).getD 0) t:=by
 have hi:i < us.length:=(uR.mp h).1;have hl:us.length=ns.length:=by rw [<- r.length,uO]
 obtain ⟨u,e1,e2⟩:=r.get (i:=i) (x:=V.int ns[i]) (by simp [show i < ns.length by omega])
 rw [h] at e1;cases e1;obtain ⟨t,e2⟩:=e2;exact ⟨t,by simp [show i < ns.length by omega,e2]⟩
theorem Ziw (ns:yy):preSum (λi=>(ns[i]?).getD 0) ns.length=ns.sum:=by
 have key:∀ k,k<=ns.length->preSum (λi=>(ns[i]?).getD 0) k=(ns.take k).sum:=by
  intro k
  induction k with
  | zero=>intro _; simp [preSum]
  | succ k ih =>
   intro hk;rw [preSum,ih (by omega),List.take_add_one,List.sum_append]
   simp [show k < ns.length by omega]
 rw [key _ (uQ _),xT]
section
variable {X:Cx} {PK:Pk}
theorem gT (hc:X.calm=true):cW X (.builtin "sum") (λxs H Q=>∃ (b:Bool) (l:Addr) (ns:yy),xs=[.ref l]/\H l=some (bd b (ns.map V.int))/\Q (.int ns.sum) H):=by
 intro pins s σ H xs us Q I r h;obtain ⟨b,l,ns,rfl,e1,q⟩:=h;obtain ⟨u,rfl,ru⟩:=dS r;cases ru;obtain ⟨vs,rv,sq⟩:=dm I.hok e1;have hlt:l < s.heap.objs.size:=I.hok.lt e1;refine call_sum_walkG (gH sq ?_);refine ⟨s.heap.objs.size,[s.heap.objs.size,l],[s.heap.objs.size],vs.toArray.size,_,_,λi=>(ns[i]?).getD 0,rfl,mX (A:=X.A.in1) (I.ok.hd hc) b _ l (u9 hlt) vs.toArray,
  ⟨jw (uS _ (by cases b <;> rfl)),sq.push _⟩,λc hc=>?_,λi v hv=>l9 rv (by simpa using hv),λh' tk t' hk=>?_⟩
 ·rw [vD];simp at hc;rcases hc with rfl | rfl
  ·exact wE _
  ·exact ww hlt
 ·refine ⟨.int ns.sum,H,I.kept (t':=tk) λc o e=>hk c o (λz=>?_) (uN _ e),⟨t',?_⟩,q⟩
  ·have:c=s.heap.objs.size:=by simpa using z
   subst this;exact ve _ (uY e)
  ·have e:vs.toArray.size=ns.length:=by rw [uW,<- rv.length,uO]
   rw [e,Ziw]
theorem Zic (bs:List Bool):((List.range bs.length).all λi=>(bs[i]?).getD true)=bs.all id:=by
 rw [w6,List.all_eq_true,List.all_eq_true];constructor
 ·intro h x hx;obtain ⟨i,hi,rfl⟩:=xJ hx;have:=h i (vQ.mpr hi);simpa [hi] using this
 ·intro h i hi;have hi':=vQ.mp hi;simpa [hi'] using h _ (wU hi')
theorem ZpP {bs:List Bool} {us:yz} (r:Vals (bs.map V.bl) us) {i:Nat} {v:Value} (h:us[i]?=some v):v=.bool ((bs[i]?).getD true):=by
 have hi:i < us.length:=(uR.mp h).1;have hl:us.length=bs.length:=by rw [<- r.length,uO]
 obtain ⟨u,e1,e2⟩:=r.get (i:=i) (x:=V.bl bs[i]) (by simp [show i < bs.length by omega])
 rw [h] at e1;cases e1;cases e2;simp [show i < bs.length by omega]
theorem ZeY (hc:X.calm=true):cW X (.builtin "all") (λxs H Q=>∃ (b:Bool) (l:Addr) (bs:List Bool),xs=[.ref l]/\H l=some (bd b (bs.map V.bl))/\Q (.bl (bs.all id)) H):=by
 intro pins s σ H xs us Q I r h;obtain ⟨b,l,bs,rfl,e1,q⟩:=h;obtain ⟨u,rfl,ru⟩:=dS r;cases ru;obtain ⟨vs,rv,sq⟩:=dm I.hok e1;have hlt:l < s.heap.objs.size:=I.hok.lt e1;refine call_all_walk (gH sq ?_);refine ⟨s.heap.objs.size,[s.heap.objs.size,l],[s.heap.objs.size],vs.toArray.size,_,_,λi=>(bs[i]?).getD true,rfl,mX (A:=X.A.in1) (I.ok.hd hc) b _ l (u9 hlt) vs.toArray,
  ⟨jw (uS _ (by cases b <;> rfl)),sq.push _⟩,λi v s' Q' E' hP hQ=>?_,λh' tk hk=>?_⟩
 ·have e:=ZpP rv (i:=i) (v:=v) (by simpa using hP)
  subst e;exact wpAny_truthy_bool hQ
 ·have e:vs.toArray.size=bs.length:=by rw [uW,<- rv.length,uO]
  rw [e,Zic];refine ⟨.bl _,H,I.kept (t':=tk) λc o e=>hk c o (λz=>?_) (uN _ e),rfl,q⟩;have:c=s.heap.objs.size:=by simpa using z
  subst this;exact ve _ (uY e)
noncomputable def eK:List Int->Int
 | []=>0
 | [n]=>n
 | n::m::r=>cS (eK (m::r)) n
noncomputable def fA:List Int->Int
 | []=>0
 | [n]=>n
 | n::m::r=>iw (fA (m::r)) n
theorem lQ:∀ {ns:yy},ns≠[]->eK ns∈ns/\∀ m∈ns,m<=eK ns
 | [],h=>absurd rfl h
 | [n],_=>⟨by simp [eK],by simp [eK]⟩
 | n::m::r,_=>by
  obtain ⟨h1,h2⟩:=lQ (ns:=m::r) (by simp)
  unfold eK cS
  split
  ·refine ⟨by simp,λk hk=>?_⟩
   rcases uV.mp hk with rfl | hk
   ·exact vz _
   ·have:=h2 k hk; omega
  ·refine ⟨uP _ h1,λk hk=>?_⟩;rcases uV.mp hk with rfl | hk
   ·omega
   ·exact h2 k hk
theorem Zc8:∀ {ns:yy},ns≠[]->fA ns∈ns/\∀ m∈ns,fA ns<=m
 | [],h=>absurd rfl h
 | [n],_=>⟨by simp [fA],by simp [fA]⟩
 | n::m::r,_=>by
  obtain ⟨h1,h2⟩:=Zc8 (ns:=m::r) (by simp)
  unfold fA iw
  split
  ·refine ⟨by simp,λk hk=>?_⟩
   rcases uV.mp hk with rfl | hk
   ·exact vz _
   ·have:=h2 k hk; omega
  ·refine ⟨uP _ h1,λk hk=>?_⟩;rcases uV.mp hk with rfl | hk
   ·omega
   ·exact h2 k hk
theorem Zfh (f:Nat->Int):∀ k,argBest (λi j=>decide (f i > f j)) k<=k/\∀ j,j<=k->f j<=f (argBest (λi j=>decide (f i > f j)) k)
 | 0=>⟨uQ _,λj hj=>by
  have:j=0:=by omega
  subst this;exact vz _⟩
 | k+1=>by
  obtain ⟨h1,h2⟩:=Zfh f k;unfold argBest;by_cases hc:f (k+1) > f (argBest (λi j=>decide (f i > f j)) k)
  ·rw [if_pos (by simpa using hc)]
   refine ⟨uQ _,λj hj=>?_⟩;rcases xa hj with h | h
   ·have:=h2 j (by omega); omega
   ·subst h; exact vz _
  ·rw [if_neg (by simpa using hc)]
   refine ⟨by omega,λj hj=>?_⟩
   rcases xa hj with h | h
   ·exact h2 j (by omega)
   ·subst h; omega
theorem Zfg (f:Nat->Int):∀ k,argBest (λi j=>decide (f i < f j)) k<=k/\∀ j,j<=k->f (argBest (λi j=>decide (f i < f j)) k)<=f j
 | 0=>⟨uQ _,λj hj=>by
  have:j=0:=by omega
  subst this;exact vz _⟩
 | k+1=>by
  obtain ⟨h1,h2⟩:=Zfg f k;unfold argBest;by_cases hc:f (k+1) < f (argBest (λi j=>decide (f i < f j)) k)
  ·rw [if_pos (by simpa using hc)]
   refine ⟨uQ _,λj hj=>?_⟩;rcases xa hj with h | h
   ·have:=h2 j (by omega); omega
   ·subst h; exact vz _
  ·rw [if_neg (by simpa using hc)]
   refine ⟨by omega,λj hj=>?_⟩
   rcases xa hj with h | h
   ·exact h2 j (by omega)
   ·subst h; omega
theorem Zpg (hc:X.calm=true):cW X (.builtin "max") (λxs H Q=>∃ (b:Bool) (l:Addr) (ns:yy),xs=[.ref l]/\H l=some (bd b (ns.map V.int))/\ns≠[]/\Q (.int (eK ns)) H):=by
 intro pins s σ H xs us Q I r h;obtain ⟨b,l,ns,rfl,e1,hne,q⟩:=h;obtain ⟨u,rfl,ru⟩:=dS r;cases ru;obtain ⟨vs,rv,sq⟩:=dm I.hok e1;have hlt:l < s.heap.objs.size:=I.hok.lt e1;have hsz:vs.toArray.size=ns.length:=by rw [uW,<- rv.length,uO]
 have hpos:0 < ns.length:=wY.mpr hne;refine call_max_walk (gH sq ?_);refine ⟨s.heap.objs.size,[s.heap.objs.size,l],[s.heap.objs.size],vs.toArray.size,_,_,λi j=>decide ((ns[i]?).getD 0 > (ns[j]?).getD 0),rfl,mX (A:=X.A.in1) (I.ok.hd hc) b _ l (u9 hlt) vs.toArray,
  ⟨jw (uS _ (by cases b <;> rfl)),sq.push _⟩,λc hc=>?_,by omega,CmpOf.ints_gt (λi=>(ns[i]?).getD 0) (λi v hv=>l9 rv (by simpa using hv)),λv h' tk hv hk=>?_⟩
 ·rw [vD];simp at hc;rcases hc with rfl | rfl
  ·exact wE _
  ·exact ww hlt
 ·obtain ⟨t,rfl⟩:=l9 rv (by rw [<- List.getElem?_toArray]; exact hv)
  obtain ⟨b1,b2⟩:=Zfh (λi=>(ns[i]?).getD 0) (vs.toArray.size - 1);obtain ⟨m1,m2⟩:=lQ hne;refine ⟨.int (eK ns),H,I.kept (t':=tk) λc o e=>hk c o (λz=>?_) (uN _ e),⟨t,?_⟩,q⟩
  ·have:c=s.heap.objs.size:=by simpa using z
   subst this;exact ve _ (uY e)
  ·congr 1;obtain ⟨i,hi,ei⟩:=xJ m1;have h1:=b2 i (by omega)
   simp only [hi,vd,xu,ei] at h1;have hb:argBest (λi j=>decide ((ns[i]?).getD 0 > (ns[j]?).getD 0)) (vs.toArray.size - 1) < ns.length:=by omega
   have h2:=m2 _ (wU hb);simp only [hb,vd,xu] at h1 ⊢;omega
theorem Zpe (hc:X.calm=true):cW X (.builtin "min") (λxs H Q=>∃ (b:Bool) (l:Addr) (ns:yy),xs=[.ref l]/\H l=some (bd b (ns.map V.int))/\ns≠[]/\Q (.int (fA ns)) H):=by
 intro pins s σ H xs us Q I r h;obtain ⟨b,l,ns,rfl,e1,hne,q⟩:=h;obtain ⟨u,rfl,ru⟩:=dS r;cases ru;obtain ⟨vs,rv,sq⟩:=dm I.hok e1;have hlt:l < s.heap.objs.size:=I.hok.lt e1;have hsz:vs.toArray.size=ns.length:=by rw [uW,<- rv.length,uO]
 have hpos:0 < ns.length:=wY.mpr hne;refine call_min_walk (gH sq ?_);refine ⟨s.heap.objs.size,[s.heap.objs.size,l],[s.heap.objs.size],vs.toArray.size,_,_,λi j=>decide ((ns[i]?).getD 0 < (ns[j]?).getD 0),rfl,mX (A:=X.A.in1) (I.ok.hd hc) b _ l (u9 hlt) vs.toArray,
  ⟨jw (uS _ (by cases b <;> rfl)),sq.push _⟩,λc hc=>?_,by omega,CmpOf.ints_lt (λi=>(ns[i]?).getD 0) (λi v hv=>l9 rv (by simpa using hv)),λv h' tk hv hk=>?_⟩
 ·rw [vD];simp at hc;rcases hc with rfl | rfl
  ·exact wE _
  ·exact ww hlt
 ·obtain ⟨t,rfl⟩:=l9 rv (by rw [<- List.getElem?_toArray]; exact hv)
  obtain ⟨b1,b2⟩:=Zfg (λi=>(ns[i]?).getD 0) (vs.toArray.size - 1);obtain ⟨m1,m2⟩:=Zc8 hne;refine ⟨.int (fA ns),H,I.kept (t':=tk) λc o e=>hk c o (λz=>?_) (uN _ e),⟨t,?_⟩,q⟩
  ·have:c=s.heap.objs.size:=by simpa using z
   subst this;exact ve _ (uY e)
  ·congr 1;obtain ⟨i,hi,ei⟩:=xJ m1;have h1:=b2 i (by omega)
   simp only [hi,vd,xu,ei] at h1;have hb:argBest (λi j=>decide ((ns[i]?).getD 0 < (ns[j]?).getD 0)) (vs.toArray.size - 1) < ns.length:=by omega
   have h2:=m2 _ (wU hb);simp only [hb,vd,xu] at h1 ⊢;omega
noncomputable def bools?:List PyData->Option (List Bool)
 | []=>some []
 | .bool n::xs=>(bools? xs).bind λns=>some (n::ns)
 | _=>none
@[simp] theorem bools?_map:∀ ns:List Bool,bools? (ns.map PyData.bool)=some ns
 | []=>rfl
 | n::ns=>by rw [uX,bools?,bools?_map ns]; rfl
theorem DnAll.bools_inv {H:Hp} {vs:yB} {ds:yx} {ns:List Bool} (a:DnAll H vs ds) (h:bools? ds=some ns):vs=ns.map V.bl/\ds=ns.map PyData.bool:=by
 induction vs generalizing ds ns with
 | nil=>cases a; cases h; exact ⟨rfl,rfl⟩
 | cons v vs ih =>
  cases a with
  | cons g t =>
   cases g with
   | bl n =>
    unfold bools? at h;rename_i ds;cases e:bools? ds with
    | none=>rw [e] at h; cases h
    | some ms =>
     rw [e] at h;cases h;obtain ⟨h1,h2⟩:=ih t e;exact ⟨by rw [h1]; rfl,by rw [h2]; rfl⟩
   | _=>unfold bools? at h; cases h
noncomputable def fW {α:Type} (p:List PyData->Option α) (f:α->Option PyData):List PyData->Option PyData
 | [x]=>(gb x).bind λxs=>(p xs).bind f
 | _=>none
noncomputable def dD:List PyData->Option PyData:=fW ints? λns=>some (.int ns.sum)
noncomputable def lR:List PyData->Option PyData:=fW ints? λns=>if (!ns.isEmpty)=true then some (.int (eK ns)) else none
noncomputable def oj:List PyData->Option PyData:=fW ints? λns=>if (!ns.isEmpty)=true then some (.int (fA ns)) else none
noncomputable def mv:List PyData->Option PyData:=fW bools? λns=>some (.bool (ns.all id))
theorem nT {α:Type} {p:List PyData->Option α} {f:α->Option PyData} {G:Hp} {vs:yB} {ds:yx} {d:PyData} (hv:DnAll G vs ds) (h:fW p f ds=some d):∃ b l us xs y,vs=[.ref l]/\G l=some (bd b us)/\DnAll G us xs/\p xs=some y/\f y=some d:=by
 unfold fW at h
 split at h
 ·rename_i x;cases hx:gb x with
  | none=>rw [hx] at h; cases h
  | some xs =>
   rw [hx] at h;have h':(p xs).bind f=some d:=h;cases hp:p xs with
   | none=>rw [hp] at h'; cases h'
   | some y =>
    rw [hp] at h';cases hv with
    | cons h1 h2 =>
     cases h2;obtain ⟨b,l,us,rfl,e1,e2⟩:=oQ h1 hx;exact ⟨b,l,us,xs,y,rfl,e1,e2,hp,h'⟩
 ·cases h
theorem gx:dR (λxs H Q=>∃ (b:Bool) (l:Addr) (ns:yy),xs=[.ref l]/\H l=some (bd b (ns.map V.int))/\Q (.int ns.sum) H) dD:=λPK pa m G H vs ds d Q w hv hd k=>by
 obtain ⟨b,l,us,xs,ns,rfl,e1,e2,hp,hf⟩:=nT hv hd;obtain ⟨rfl,rfl⟩:=e2.ints_inv hp;cases hf;exact ⟨b,l,ns,rfl,w.sub _ _ e1,k.here w (.int _)⟩
theorem Zf9:dR (λxs H Q=>∃ (b:Bool) (l:Addr) (ns:yy),xs=[.ref l]/\H l=some (bd b (ns.map V.int))/\ns≠[]/\Q (.int (eK ns)) H) lR:=λPK pa m G H vs ds d Q w hv hd k=>by
 obtain ⟨b,l,us,xs,ns,rfl,e1,e2,hp,hf⟩:=nT hv hd;obtain ⟨rfl,rfl⟩:=e2.ints_inv hp
 split at hf
 ·rename_i hc;cases hf;exact ⟨b,l,ns,rfl,w.sub _ _ e1,(λz=>by subst z; cases hc),k.here w (.int _)⟩
 ·cases hf
theorem Zf8:dR (λxs H Q=>∃ (b:Bool) (l:Addr) (ns:yy),xs=[.ref l]/\H l=some (bd b (ns.map V.int))/\ns≠[]/\Q (.int (fA ns)) H) oj:=λPK pa m G H vs ds d Q w hv hd k=>by
 obtain ⟨b,l,us,xs,ns,rfl,e1,e2,hp,hf⟩:=nT hv hd;obtain ⟨rfl,rfl⟩:=e2.ints_inv hp
 split at hf
 ·rename_i hc;cases hf;exact ⟨b,l,ns,rfl,w.sub _ _ e1,(λz=>by subst z; cases hc),k.here w (.int _)⟩
 ·cases hf
theorem Zam:dR (λxs H Q=>∃ (b:Bool) (l:Addr) (bs:List Bool),xs=[.ref l]/\H l=some (bd b (bs.map V.bl))/\Q (.bl (bs.all id)) H) mv:=λPK pa m G H vs ds d Q w hv hd k=>by
 obtain ⟨b,l,us,xs,ns,rfl,e1,e2,hp,hf⟩:=nT hv hd;obtain ⟨rfl,rfl⟩:=e2.bools_inv hp;cases hf;exact ⟨b,l,ns,rfl,w.sub _ _ e1,k.here w (.bl _)⟩
variable {a b c e:Expr} {pos:Pos} {i j l:yn}
noncomputable def pL (f g:yv) (i j l:yn):yn:=λρ=>(i ρ).bind λx=>(j ρ).bind λy=>(Tr.of (f x y)).bind λz=>(Tr.of (iR z)).bind λk =>
 if k=true then (l ρ).bind λu=>Tr.of (g y u) else .ret (.bool false)
theorem Zo5 {r r':R2} {f g:yv} (hv:cA r f) (hv':cA r' g):∀ σ H Q,TAe PK (pL f g i j l) σ H Q->ZaC r r' (TAe PK i) (TAe PK j) (TAe PK l) σ H Q:=by
 rintro σ H Q ⟨pa,yE,H₀,m,ρ,G,R,q⟩;refine TAe.then R q λm1 x v G1 H1 s1 w1 R1 d1 q1=>?_;refine TAe.then R1 q1 λm2 y u G2 H2 s2 w2 R2 d2 q2=>?_;rw [Tr.ok_bind] at q2;obtain ⟨z,hz,q3⟩:=Tr.ok_of q2;rw [Tr.ok_bind] at q3;obtain ⟨k,hk,q5⟩:=Tr.ok_of q3;have s12:=s1.trans s2 w1.some;refine hv PK pa m2 G2 H2 v u x y z _ w2 (d1.mono s2.gs) d2 hz λzz G3 H3 s3 w3 d3=>?_;cases d3 <;> simp only [iR] at hk <;> cases hk;refine ⟨_,rfl,?_⟩;have s13:=s12.trans s3 w2.some;cases k with
 | true =>
  rw [if_pos rfl] at q5 ⊢;refine TAe.then (R2.step s3 w3) q5 λm4 t vt G4 H4 s4 w4 R4 d4 q4=>?_;obtain ⟨zz,hzz,q4⟩:=Tr.ok_of q4;exact hv' PK pa m4 G4 H4 u vt y t zz Q w4 (d2.mono (s3.gs.trans s4.gs)) d4 hzz (Kn.later q4 (s13.trans s4 w3.some) w4.some)
 | false =>
  rw [if_neg u3] at q5 ⊢;exact (Kn.later q5 s13 w3.some).here w3 (.bl false)
theorem Zqi {op op':CmpOp} {r r':R2} {f g:yv} (ho:OpR X (compareOp op) r) (hv:cA r f) (ho':OpR X (compareOp op') r') (hv':cA r' g) (ha:PE X a (TAe PK i)) (hb:PE X b (TAe PK j)) (hc:PE X c (TAe PK l))
  (hm:lastMarks [op,op'] [b,c]=false:=by with_unfolding_all rfl):PE X (.Compare a [op,op'] [b,c] pos) (TAe PK (pL f g i j l)):=(ZiU ho ho' ha hb hc hm).imp (Zo5 hv hv')
theorem ZkL:OpR X (inplaceOp .Mult) (rI CMulG λi j=>.int (i * j)):=ip λ_ _ _ _ _ _ _ hc q=>imul_int q hc.ok
theorem pip {op:Operator} {r:R2} (h:OpR X (inplaceOp op) r):mK X op r:=h
noncomputable def oO:yv
 | .int m,.int n=>some (.int (m+n))
 | _,_=>none
theorem Zf6:cA (dW λi j=>.int (i+j)) oO:=λPK pa m G H x y dx dy dz Q w hx hy hz k=>by
 unfold oO at hz
 split at hz
 ·cases hz; cases hx; cases hy;exact ⟨_,_,rfl,rfl,k.here w (.int _)⟩
 ·cases hz
noncomputable def sM:yv
 | .int m,.int n=>if (fit m && fit n)=true then some (.int (m * n)) else none
 | _,_=>none
theorem Zf5:cA (rI CMulG λi j=>.int (i * j)) sM:=λPK pa m G H x y dx dy dz Q w hx hy hz k=>by
 unfold sM at hz
 split at hz
 ·split at hz
  ·rename_i hc;rw [vm] at hc;cases hz; cases hx; cases hy;exact ⟨_,_,rfl,rfl,⟨of_decide_eq_true hc.1,of_decide_eq_true hc.2⟩,k.here w (.int _)⟩
  ·cases hz
 ·cases hz
end
theorem Zjs {PK:Pk} {is:yo}:∀ σ H Q,TAe PK (bU is) σ H Q->eD PK is σ H Q:=by
 intro σ H Q z;obtain ⟨pa,yE,H₀,m,ρ,G,R,z⟩:=z;exact ⟨pa,yE,H₀,m,ρ,G,R,Tr.ok_mono (Tr.ok_bind.mp z) λm1 xs k=>Ko1.of k R.wd.some⟩
theorem Zfp {PK:Pk} {X:Cx} {st:Stmt} {is:yo} {i:yn} {n k:Nat} {ix:List Nat} {g:yu} (h:PS X st (ft (kX (fm PK is) n ix (λ_=>gu PK g) (λ_=>TAe PK i)) (gj k))) (hn:iM n g):PS X st (bF PK (aX k (bU (db is n ix g i)))) :=
 bf (h.imp (ZgT λσ H Q z=>Zdp hn σ H Q (Zjs σ H Q z)))
variable {ρ:yD} {s t:yq} {i j l:yn} {is:yo} {as:List Sl->Tr yD} {f:yr} {p q:yp} {k n:Nat} {x y d:PyData} {xs ys:yx} {sl:Sl}
theorem Zlk:aa 0 (.d x::ρ)=.ret x:=rfl
theorem Zlj:aa (k+1) (sl::ρ)=aa k ρ:=rfl
theorem ZnR:aC d ρ=.ret d:=rfl
noncomputable def aT (g:yv) (x y:PyData):Tr PyData:=Tr.of (g x y)
noncomputable def Zff (g:yv) (j:yn) (ρ:yD) (x:PyData):Tr PyData:=(j ρ).bind (aT g x)
theorem Znt {g:yv}:ae g i j ρ=(i ρ).bind (Zff g j ρ):=rfl
theorem Zns {g:yv}:Zff g j ρ x=(j ρ).bind (aT g x):=rfl
theorem ZnJ (m n:Int):aT aS (.int m) (.int n)=.ret (.int (m+n)):=rfl
theorem Zeb (h1:xs.isEmpty=false) (h2:small (xs.length+ys.length)=true):aT aS (.tuple xs) (.tuple ys)=.ret (.tuple (xs++ys)):=by
 simp [aT,aS,h1,h2]
theorem oU (h2:small (xs.length+ys.length)=true):aT aS (.list xs) (.list ys)=.ret (.list (xs++ys)):=by
 simp [aT,aS,h2]
theorem Zlu (m n:Int):aT bZ (.int m) (.int n)=.ret (.int (m - n)):=rfl
theorem Zmm {m n:Int} (h1:fit m=true) (h2:fit n=true):aT bD (.int m) (.int n)=.ret (.int (m * n)):=by
 simp [aT,bD,h1,h2]
theorem tw {m n:Int} (h1:n≠0) (h2:fit n=true):aT gk (.int m) (.int n)=.ret (.int (m.fdiv n)):=by
 simp [aT,gk,h1,h2]
theorem Zmn {m n:Int} (h1:n≠0):aT lN (.int m) (.int n)=.ret (.int (m.fmod n)):=by
 simp [aT,lN,h1]
theorem Znf {g:Int->Int->Bool} (m n:Int):aT (c6 g) (.int m) (.int n)=.ret (.bool (g m n)):=rfl
theorem Zm7 (m n:Int):aT dg (.int m) (.int n)=.ret (.bool (m == n)):=rfl
theorem Zml (m n:Int):aT dq (.int m) (.int n)=.ret (.bool (!(m == n))):=rfl
theorem Zm5 (m n:Str):aT dg (.str m) (.str n)=.ret (.bool (m == n)):=rfl
theorem Zmk (m n:Str):aT dq (.str m) (.str n)=.ret (.bool (!(m == n))):=rfl
theorem ZnU (h1:SeqAt.shaped x=true) (h2:SeqAt.shaped y=true) (h3:∀ a b,¬ (x=.str a/\y=.str b)):aT dg x y=.ret (.bool (PyData.eqv x y)):=by
 unfold aT dg
 split
 ·exact absurd ⟨rfl,rfl⟩ (h3 _ _)
 ·rw [h1,h2]; rfl
theorem ZjA (h1:SeqAt.shaped x=true) (h2:SeqAt.shaped y=true) (h3:∀ a b,¬ (x=.str a/\y=.str b)):aT dq x y=.ret (.bool (!PyData.eqv x y)):=by
 unfold aT dq
 split
 ·exact absurd ⟨rfl,rfl⟩ (h3 _ _)
 ·rw [h1,h2]; rfl
theorem Zm6 (h1:SeqAt.shaped (.list xs)=true) (h2:SeqAt.shaped (.list ys)=true):aT dg (.list xs) (.list ys)=.ret (.bool (PyData.eqvAll xs ys)):=by
 rw [ZnU h1 h2 (λa b z=>by cases z.1)]
 simp only [PyData.eqv]
theorem Zd3 (h1:SeqAt.shaped (.list xs)=true) (h2:SeqAt.shaped (.list ys)=true):aT dq (.list xs) (.list ys)=.ret (.bool (!PyData.eqvAll xs ys)):=by
 rw [ZjA h1 h2 (λa b z=>by cases z.1)]
 simp only [PyData.eqv]
theorem mh (n:Int):aT aE (.list xs) (.int n)=Tr.of (bp xs n):=rfl
theorem iF (n:Int):aT aE (.tuple xs) (.int n)=Tr.of (bp xs n):=rfl
theorem fJ {α:Type} {xs:List α} {n:Int} {v:α} (h0:0<=n) (h:xs[n.toNat]?=some v):bp xs n=some v:=by
 have e:(n.toNat:Int)=n:=Int.toNat_of_nonneg h0;rw [<- e];exact gY h
section
variable {α:Type} {a0 a1 a2 a3 a4 a5 a6 a7 a8:α} {r:List α}
theorem uc:bp (a0::r) 0=some a0:=gY (j:=0) rfl
theorem ub:bp (a0::a1::r) 1=some a1:=gY (j:=1) rfl
theorem ua:bp (a0::a1::a2::r) 2=some a2:=gY (j:=2) rfl
theorem t9:bp (a0::a1::a2::a3::r) 3=some a3:=gY (j:=3) rfl
theorem t7:bp (a0::a1::a2::a3::a4::r) 4=some a4:=gY (j:=4) rfl
theorem Zfn:bp (a0::a1::a2::a3::a4::a5::r) 5=some a5:=gY (j:=5) rfl
theorem Zfm:bp (a0::a1::a2::a3::a4::a5::a6::r) 6=some a6:=gY (j:=6) rfl
end
noncomputable def ZcX:PyData->Tr PyData
 | .int n=>.ret (.int (-n))
 | _=>.fail
theorem Zmj:fN i ρ=(i ρ).bind ZcX:=by
 unfold fN;refine congrArg (Tr.bind (i ρ)) (funext λx=>?_);cases x <;> rfl
theorem Zmi (n:Int):ZcX (.int n)=.ret (.int (-n)):=rfl
noncomputable def qk (x:PyData):Tr Bool:=Tr.of (iR x)
theorem Zlt:bE i ρ=(i ρ).bind qk:=rfl
theorem Zlp (b:Bool):qk (.bool b)=.ret b:=rfl
noncomputable def ql (x:PyData):Tr Bool:=Tr.of (Zat x)
theorem Zls:fj i ρ=(i ρ).bind ql:=rfl
theorem Zlr (b:Bool):ql (.bool b)=.ret b:=rfl
theorem Zlq (n:Int):ql (.int n)=.ret (n != 0):=rfl
noncomputable def uh (q:yp) (ρ:yD) (b:Bool):Tr Bool:=if b=true then q ρ else .ret false
noncomputable def rR (q:yp) (ρ:yD) (b:Bool):Tr Bool:=if b=true then .ret true else q ρ
noncomputable def ZcU (b:Bool):Tr Bool:=.ret (!b)
theorem ZnH:pP p q ρ=(p ρ).bind (uh q ρ):=rfl
theorem Zmd:g6 p q ρ=(p ρ).bind (rR q ρ):=rfl
theorem Zmg:fM p ρ=(p ρ).bind ZcU:=rfl
theorem ZnF:uh q ρ true=q ρ:=rfl
theorem ZnG:uh q ρ false=.ret false:=rfl
theorem Zmb:rR q ρ true=.ret true:=rfl
theorem Zmc:rR q ρ false=q ρ:=rfl
theorem Zmf (b:Bool):ZcU b=.ret (!b):=rfl
noncomputable def ug (j:yn) (ρ:yD) (b:Bool):Tr PyData:=if b=true then j ρ else .ret (.bool false)
theorem ZnE:jK i j ρ=(bE i ρ).bind (ug j ρ):=rfl
theorem ZnC:ug j ρ true=j ρ:=rfl
theorem ZnD:ug j ρ false=.ret (.bool false):=rfl
noncomputable def sQ (i j:yn) (ρ:yD) (b:Bool):Tr PyData:=if b=true then i ρ else j ρ
theorem ZmX:uy p i j ρ=(p ρ).bind (sQ i j ρ):=rfl
theorem ZmV:sQ i j ρ true=i ρ:=rfl
theorem ZmW:sQ i j ρ false=j ρ:=rfl
noncomputable def tN (g:yv) (l:yn) (ρ:yD) (y:PyData) (k:Bool):Tr PyData:=if k=true then (l ρ).bind (aT g y) else .ret (.bool false)
noncomputable def tO (g:yv) (l:yn) (ρ:yD) (y z:PyData):Tr PyData:=(qk z).bind (tN g l ρ y)
noncomputable def tP (f g:yv) (l:yn) (ρ:yD) (x y:PyData):Tr PyData:=(aT f x y).bind (tO g l ρ y)
noncomputable def ch1 (f g:yv) (j l:yn) (ρ:yD) (x:PyData):Tr PyData:=(j ρ).bind (tP f g l ρ x)
theorem Zng {f g:yv}:pL f g i j l ρ=(i ρ).bind (ch1 f g j l ρ):=rfl
theorem Znk {f g:yv}:ch1 f g j l ρ x=(j ρ).bind (tP f g l ρ x):=rfl
theorem Znj {f g:yv}:tP f g l ρ x y=(aT f x y).bind (tO g l ρ y):=rfl
theorem Zni {g:yv} (b:Bool):tO g l ρ y (.bool b)=tN g l ρ y b:=rfl
theorem Znh {g:yv}:tN g l ρ y true=(l ρ).bind (aT g y):=rfl
noncomputable def tM (x:PyData) (xs:yx):Tr yx:=.ret (x::xs)
noncomputable def ZeL (is:yo) (ρ:yD) (x:PyData):Tr yx:=(is ρ).bind (tM x)
theorem Zmh:aq ρ=.ret []:=rfl
theorem Zne:ah i is ρ=(i ρ).bind (ZeL is ρ):=rfl
theorem Znd:ZeL is ρ x=(is ρ).bind (tM x):=rfl
theorem Znc:tM x xs=.ret (x::xs):=rfl
noncomputable def qj (xs:yx):Tr PyData:=if small xs.length=true then .ret (.tuple xs) else .fail
theorem Zlo:cj is ρ=(is ρ).bind qj:=rfl
theorem Zln (h:small xs.length=true):qj xs=.ret (.tuple xs):=by unfold qj; rw [if_pos h]
noncomputable def Zde (xs:yx):Tr PyData:=.ret (.list xs)
theorem Zms:bU is ρ=(is ρ).bind Zde:=rfl
theorem Zmr:Zde xs=.ret (.list xs):=rfl
noncomputable def sg (xs:yx):Tr yx:=if small xs.length=true then .ret xs else .fail
theorem Zmu:di is ρ=(is ρ).bind sg:=rfl
theorem Zmt (h:small xs.length=true):sg xs=.ret xs:=by unfold sg; rw [if_pos h]
theorem cu {n:Nat} (h:n<=10000):small n=true:=decide_eq_true (u8 h (by decide))
noncomputable def ce (g:List PyData->Option PyData) (xs:yx):Tr PyData:=Tr.of (g xs)
noncomputable def tQ (g:List PyData->Option yx) (xs:yx):Tr yx:=Tr.of (g xs)
theorem Zno {g:List PyData->Option PyData}:bh g is ρ=(is ρ).bind (ce g):=rfl
theorem Znl {g:List PyData->Option yx}:pM g is ρ=(is ρ).bind (tQ g):=rfl
theorem Zmx:ce dt [.list xs]=.ret (.int xs.length):=rfl
theorem Zd4:ce dt [.tuple xs]=.ret (.int xs.length):=rfl
theorem ZnK (n:Int):ce mC [.int n]=.ret (.int (pE n)):=rfl
theorem Zmp (m n:Int):ce jj [.int m,.int n]=.ret (.int (cS m n)):=rfl
theorem Zmo (m n:Int):ce lO [.int m,.int n]=.ret (.int (iw m n)):=rfl
theorem ZmN (b:Bool):ce ma [.bool b]=.ret (.int (if b then 1 else 0)):=rfl
theorem Zlm:ce gy [.list xs]=.ret (.tuple xs):=rfl
theorem Zmq:tQ lZ [.tuple xs]=.ret xs:=rfl
theorem sZ (ns:yy):ce dD [.tuple (ns.map .int)]=.ret (.int ns.sum):=by
 unfold ce dD fW;simp
theorem ZnI (ns:List Bool):ce mv [.list (ns.map .bool)]=.ret (.bool (ns.all id)):=by
 unfold ce mv fW;simp
noncomputable def ZdD (T:String) (x:PyData):Tr PyData:=.ret (.bool (ge T (eR x)))
theorem ZmM {T:String}:g9 T i ρ=(i ρ).bind (ZdD T):=rfl
theorem ZmL {T:String}:ZdD T x=.ret (.bool (ge T (eR x))):=rfl
noncomputable def k8 (x:PyData) (lo:Option Int) (hi:Option Int):Tr PyData:=Tr.of (Za0 x lo hi)
noncomputable def dJ (q:fL) (ρ:yD) (x:PyData) (lo:Option Int):Tr PyData:=(q ρ).bind (k8 x lo)
noncomputable def sl1 (p q:fL) (ρ:yD) (x:PyData):Tr PyData:=(p ρ).bind (dJ q ρ x)
theorem Zlx {p q:fL}:pG i p q ρ=(i ρ).bind (sl1 p q ρ):=rfl
theorem Zlw {p q:fL}:sl1 p q ρ x=(p ρ).bind (dJ q ρ x):=rfl
theorem Zlv {q:fL} {lo:Option Int}:dJ q ρ x lo=(q ρ).bind (k8 x lo):=rfl
theorem tj {lo hi:Option Int}:k8 (.list xs) lo hi=.ret (.list (fH xs lo hi)):=rfl
theorem Zl8:pJ ρ=.ret none:=rfl
noncomputable def pa1:PyData->Tr (Option Int)
 | .int n=>.ret (some n)
 | _=>.fail
theorem Zl7:mF i ρ=(i ρ).bind pa1:=by
 unfold mF;refine congrArg (Tr.bind (i ρ)) (funext λx=>?_);cases x <;> rfl
theorem Zl6 (n:Int):pa1 (.int n)=.ret (some n):=rfl
noncomputable def qi (xs:yx):Tr PyData:=(Tr.of (lj xs)).bind λys=>.ret (.tuple ys)
theorem Zll:uu is ρ=(is ρ).bind qi:=rfl
theorem Zd1 {lo hi:Int} (h:ll lo hi=true):qi [.int lo,.int hi]=.ret (.tuple (aH lo hi)):=by
 simp [qi,lj,h]
theorem ZnN:ak ρ=.ret []:=rfl
noncomputable def mD (x:Sl) (xs:yD):Tr yD:=.ret (x::xs)
noncomputable def pF (as:List Sl->Tr yD) (ρ:yD) (x:PyData):Tr yD:=(as ρ).bind (mD (.d x))
theorem ZnO:ad i as ρ=(i ρ).bind (pF as ρ):=rfl
theorem ZnQ:pF as ρ x=(as ρ).bind (mD (.d x)):=rfl
theorem ZnP {xs:yD}:mD sl xs=.ret (sl::xs):=rfl
noncomputable def j9:Nat->List Sl->Tr Unit
 | 0,.pen::_=>.ret ()
 | k+1,_::ρ=>j9 k ρ
 | _,_=>.fail
theorem Zl3:j9 0 (.pen::ρ)=.ret ():=rfl
theorem Zl2:j9 (k+1) (sl::ρ)=j9 k ρ:=rfl
noncomputable def aap (as:List Sl->Tr yD) (ρ:yD) (_:Unit):Tr yD:=(as ρ).bind (mD .pen)
theorem ZnM:cg k as ρ=(j9 k ρ).bind (aap as ρ):=by
 have key:∀ (k:Nat) (σ:yD) (as:List Sl->Tr yD) (ρ:yD),(match σ[k]? with | some Sl.pen=>(as ρ).bind λxs=>Tr.ret (Sl.pen::xs) | _=>Tr.fail)=(j9 k σ).bind (aap as ρ):=by
  intro k
  induction k with
  | zero =>
   intro σ as ρ;cases σ with
   | nil=>rfl
   | cons s r=>cases s <;> rfl
  | succ k ih =>
   intro σ as ρ;cases σ with
   | nil=>rfl
   | cons s r=>exact ih r as ρ
 exact key k ρ as ρ
theorem ZnL (u:Unit):aap as ρ u=(as ρ).bind (mD .pen):=rfl
theorem Znp:av f as ρ=(as ρ).bind f:=rfl
noncomputable def re1 (r:Re):Tr PyData:=.ret r.val
theorem Zl1:ay f ρ=(f ρ).bind re1:=rfl
theorem Zl0 (r:Re):re1 r=.ret r.val:=rfl
theorem Znb {as:yD} (h:as.length=n):bg n k s as=(s (as++List.replicate k .un)).bind mf:=by
 unfold bg;rw [if_pos (decide_eq_true h)]
theorem Zm4:mf (.next ρ)=.ret (.d .none):=rfl
theorem Zm3 (r:Re):mf (.ret r)=.ret r:=rfl
noncomputable def qG (t:yq):Ou->Tr Ou
 | .next ρ=>t ρ
 | o=>.ret o
theorem ZlI:ao s t ρ=(s ρ).bind (qG t):=by
 unfold ao;refine congrArg (Tr.bind (s ρ)) (funext λo=>?_);cases o <;> rfl
theorem ZlH:qG t (.next ρ)=t ρ:=rfl
theorem ZlG (r:Re):qG t (.ret r)=.ret (.ret r):=rfl
theorem Zly:cy ρ=.ret (.next ρ):=rfl
noncomputable def sN (s t:yq) (ρ:yD) (b:Bool):Tr Ou:=if b=true then s ρ else t ρ
theorem ZmQ:cz p s t ρ=(p ρ).bind (sN s t ρ):=rfl
theorem ZmO:sN s t ρ true=s ρ:=rfl
theorem ZmP:sN s t ρ false=t ρ:=rfl
noncomputable def ZbT (x:PyData):Tr Ou:=.ret (.ret (.d x))
theorem ZlY:bu i ρ=(i ρ).bind ZbT:=rfl
theorem ZlX:ZbT x=.ret (.ret (.d x)):=rfl
noncomputable def ZbS (xs:yx):Tr Ou:=.ret (.ret (.own xs))
theorem ZlW:uw is ρ=(is ρ).bind ZbS:=rfl
theorem ZlV:ZbS xs=.ret (.ret (.own xs)):=rfl
noncomputable def ZbR (r:Re):Tr Ou:=.ret (.ret r)
theorem ZlU:iJ f ρ=(f ρ).bind ZbR:=rfl
theorem ZlT (r:Re):ZbR r=.ret (.ret r):=rfl
theorem ZlS:gt 0 (.d x::ρ)=.ret (.ret (.d x)):=rfl
theorem ZlR:gt 0 (.own xs::ρ)=.ret (.ret (.own xs)):=rfl
theorem ZlQ:gt (k+1) (sl::ρ)=gt k ρ:=rfl
noncomputable def nn (k:Nat) (ρ:yD) (x:PyData):Tr Ou:=.ret (.next (ρ.set k (.d x)))
theorem ZlF:aX k i ρ=(i ρ).bind (nn k ρ):=rfl
theorem ZlE:nn k ρ x=.ret (.next (ρ.set k (.d x))):=rfl
noncomputable def Za8 (k:Nat) (ρ:yD) (x:yx):Tr Ou:=.ret (.next (ρ.set k (.own x)))
theorem ZlD:jI k is ρ=(is ρ).bind (Za8 k ρ):=rfl
theorem ZlC:Za8 k ρ xs=.ret (.next (ρ.set k (.own xs))):=rfl
theorem Zj1 {α:Type} {a b:α} {r:List α}:(a::r).set 0 b=b::r:=rfl
theorem Zj0 {α:Type} {a b:α} {r:List α}:(a::r).set (k+1) b=a::r.set k b:=rfl
noncomputable def t6 (g:yv) (k:Nat) (ρ:yD) (x y:PyData):Tr Ou:=(aT g x y).bind (nn k ρ)
noncomputable def Zfk (g:yv) (k:Nat) (i:yn) (ρ:yD) (x:PyData):Tr Ou:=(i ρ).bind (t6 g k ρ x)
theorem Znw {g:yv}:kP g k i ρ=(aa k ρ).bind (Zfk g k i ρ):=rfl
theorem Znv {g:yv}:Zfk g k i ρ x=(i ρ).bind (t6 g k ρ x):=rfl
theorem Znu {g:yv}:t6 g k ρ x y=(aT g x y).bind (nn k ρ):=rfl
theorem ZmY (m n:Int):aT oO (.int m) (.int n)=.ret (.int (m+n)):=rfl
noncomputable def gJ:Nat->List Sl->Tr yx
 | 0,.own xs::_=>.ret xs
 | k+1,_::ρ=>gJ k ρ
 | _,_=>.fail
theorem Zma:gJ 0 (.own xs::ρ)=.ret xs:=rfl
theorem Zl9:gJ (k+1) (sl::ρ)=gJ k ρ:=rfl
theorem nM {β:Type} {g:List PyData->Tr β}:∀ (k:Nat) (σ:yD),(match σ[k]? with | some (Sl.own xs)=>g xs | _=>Tr.fail)=(gJ k σ).bind g
 | 0,[]=>rfl
 | 0,s::r=>by cases s <;> rfl
 | k+1,[]=>rfl
 | k+1,s::r=>nM k r
noncomputable def pz (k:Nat) (ρ:yD) (xs:yx) (x:PyData):Tr Ou:=if small (xs.length+1)=true then .ret (.next (ρ.set k (.own (xs++[x])))) else .fail
noncomputable def Zfw (k:Nat) (i:yn) (ρ:yD) (xs:yx):Tr Ou:=(i ρ).bind (pz k ρ xs)
theorem ZnB:iL k i ρ=(gJ k ρ).bind (Zfw k i ρ):=nM k ρ
theorem ZnA:Zfw k i ρ xs=(i ρ).bind (pz k ρ xs):=rfl
theorem Znz (h:small (xs.length+1)=true):pz k ρ xs x=.ret (.next (ρ.set k (.own (xs++[x])))):=by unfold pz; rw [if_pos h]
noncomputable def ZbQ (k:Nat) (ρ:yD) (xs:yx):Tr Ou:=.ret (.next (ρ.set k (.own xs.reverse)))
theorem ZlP:pI k ρ=(gJ k ρ).bind (ZbQ k ρ):=nM k ρ
theorem ZlO:ZbQ k ρ xs=.ret (.next (ρ.set k (.own xs.reverse))):=rfl
theorem ZmZ:kN k s ρ=s (fz k ρ):=rfl
theorem Zk7:fz 0 (.own xs::ρ)=.d (.list xs)::ρ:=rfl
theorem Zk8:fz (k+1) (sl::ρ)=sl::fz k ρ:=by
 unfold fz;rw [xq];cases h:ρ[k]? with
 | none=>rfl
 | some s=>cases s <;> rfl
noncomputable def rV (ρ:yD):Tr Ou:=.ret (.next ρ)
noncomputable def Zfo (g:yu) (ρ:yD) (x:PyData):Tr Ou:=(Tr.of (g x ρ)).bind rV
theorem Zny {g:yu}:eP g i ρ=(i ρ).bind (Zfo g ρ):=rfl
theorem Znx {g:yu}:Zfo g ρ x=(Tr.of (g x ρ)).bind rV:=rfl
theorem Zme:rV ρ=.ret (.next ρ):=rfl
theorem ZkY:aj k x ρ=some (ρ.set k (.d x)):=rfl
theorem ZkW {gs:yt}:bv gs (.tuple xs) ρ=gs xs ρ:=rfl
theorem ZkZ:br [] ρ=some ρ:=rfl
theorem Zk0 {g:yu} {gs:yt}:az g gs (x::xs) ρ=(g x ρ).bind (gs xs):=rfl
theorem ZkX {α β:Type} {a:α} {g:α->Option β}:(some a).bind g=g a:=rfl
noncomputable def ZcJ (k n:Nat) (ρ:yD):List PyData->Tr Ou
 | [x,y]=>.ret (.next ((ρ.set k (.d x)).set n (.d y)))
 | _=>.fail
theorem Zl5:mE k n is ρ=(is ρ).bind (ZcJ k n ρ):=by
 unfold mE;refine congrArg (Tr.bind (is ρ)) (funext λxs=>?_)
 match xs with
 | []=>rfl
 | [_]=>rfl
 | [_,_]=>rfl
 | _::_::_::_=>rfl
theorem Zl4:ZcJ k n ρ [x,y]=.ret (.next ((ρ.set k (.d x)).set n (.d y))):=rfl
noncomputable def cH (x:PyData):Tr yx:=Tr.of (gb x)
theorem ZmK:fk i ρ=(i ρ).bind cH:=rfl
theorem ZmJ:cH (.list xs)=.ret xs:=rfl
theorem ZmI:cH (.tuple xs)=.ret xs:=rfl
noncomputable def gE (xs:yx):Tr yx:=Tr.of (lp xs)
noncomputable def iY (xs:yx):Tr yx:=Tr.of (jZ xs)
theorem ZlM:g0 is ρ=(is ρ).bind gE:=rfl
theorem ZlL:uv is ρ=(is ρ).bind iY:=rfl
theorem ff {n:Int} (h1:-1000000000000<=n) (h2:n<=1000000000000):fE n=true:=decide_eq_true (by omega)
theorem kF {n:Int} (h:fE n=true):gE [.int n]=.ret (aH 0 n):=by
 simp [gE,lp,h]
theorem tq {m n:Int} (h1:fE m=true) (h2:fE n=true):iY [.int m,.int n]=.ret (aH m n):=by
 simp [iY,jZ,h1,h2]
noncomputable def p7 (xs:yx) (ys:yx):Tr yx:=.ret (bw xs ys)
noncomputable def p8 (y:PyData) (xs:yx):Tr yx:=(cH y).bind (p7 xs)
noncomputable def p9 (x y:PyData):Tr yx:=(cH x).bind (p8 y)
noncomputable def Zab (j:yn) (ρ:yD) (x:PyData):Tr yx:=(j ρ).bind (p9 x)
theorem Zli:jH i j ρ=(i ρ).bind (Zab j ρ):=rfl
theorem Zlh:Zab j ρ x=(j ρ).bind (p9 x):=rfl
theorem Zlg:p9 x y=(cH x).bind (p8 y):=rfl
theorem Zlf:p8 y xs=(cH y).bind (p7 xs):=rfl
theorem Zle:p7 xs ys=.ret (bw xs ys):=rfl
noncomputable def tz (xs:yx):Tr yx:=.ret (dL xs)
noncomputable def Zeh (x:PyData):Tr yx:=(cH x).bind tz
theorem Zm8:mG i ρ=(i ρ).bind Zeh:=rfl
theorem Zna:Zeh x=(cH x).bind tz:=rfl
theorem Zm9:tz xs=.ret (dL xs):=rfl
noncomputable def ZdZ (g:yu) (s:yq) (ρ:yD) (xs:yx):Tr Ou:=cb g s xs ρ
theorem Zm1 {g:yu}:eB is g s ρ=(is ρ).bind (ZdZ g s ρ):=rfl
theorem Zm0 {g:yu}:ZdZ g s ρ xs=cb g s xs ρ:=rfl
noncomputable def sW (g:yu) (s:yq) (xs:yx):Ou->Tr Ou
 | .next ρ=>cb g s xs ρ
 | .cont ρ=>cb g s xs ρ
 | .brk ρ=>.ret (.next ρ)
 | .ret r=>.ret (.ret r)
noncomputable def jx (g:yu) (s:yq) (xs:yx) (ρ:yD):Tr Ou:=(s ρ).bind (sW g s xs)
theorem iE {g:yu}:cb g s (x::xs) ρ=(Tr.of (g x ρ)).bind (jx g s xs):=by
 rw [cb];refine congrArg (Tr.bind (Tr.of (g x ρ))) (funext λρ1=>?_);unfold jx;refine congrArg (Tr.bind (s ρ1)) (funext λo=>?_);cases o <;> rfl
theorem mi {g:yu}:jx g s xs ρ=(s ρ).bind (sW g s xs):=rfl
theorem gR {g:yu}:sW g s xs (.next ρ)=cb g s xs ρ:=rfl
noncomputable def cm (g:yu) (el:yn) (τ:yD) (x:PyData):Tr PyData:=(Tr.of (g x τ)).bind el
noncomputable def sx (n:Nat) (ix:List Nat) (g:yu) (el:yn) (ρ:yD) (xs:yx):Tr yx:=if small xs.length=true then bG (cm g el (blk n ix ρ)) xs else .fail
theorem ZmE {ix:List Nat} {g:yu}:db is n ix g i ρ=(is ρ).bind (sx n ix g i ρ):=rfl
theorem ZmD {ix:List Nat} {g:yu} (h:small xs.length=true):sx n ix g i ρ xs=bG (cm g i (blk n ix ρ)) xs:=by unfold sx; rw [if_pos h]
theorem ZmC {τ:yD} {g:yu}:cm g i τ x=(Tr.of (g x τ)).bind i:=rfl
theorem Zdc {h:PyData->Tr PyData} {n:Nat} {P:PyData->Prop}:∀ {xs:yx},(∀ x∈xs,(h x).all n P)->(bG h xs).all (xs.length * n) λys=>ys.length=xs.length/\∀ y∈ys,P y
 | [],_=>⟨rfl,λy hy=>by cases hy⟩
 | x::xs,hx=>by
  have e:(x::xs).length * n=n+(xs.length * n+0):=by rw [uZ,wq]; omega
  rw [e,bG];refine Tr.all_bind (hx x (by simp)) λy hy=>Tr.all_bind (Zdc λz hz=>hx z (uP _ hz)) λys hys=>?_
  exact ⟨by simp [hys.1],λz hz=>by
   rcases uV.mp hz with rfl | hz
   ·exact hy
   ·exact hys.2 z hz⟩
theorem ZdY {g:yu} {n:Nat} (I:List PyData->List Sl->Prop) {Q:Ou->Prop} :
  ∀ {xs pre:yx} {ρ:yD},I pre ρ->(∀ pre x post ρ,pre++x::post=pre++x::post->I pre ρ->x∈xs->∃ ρ1,g x ρ=some ρ1/\(s ρ1).all n λo=>∃ ρ2,o=.next ρ2/\I (pre++[x]) ρ2)->(∀ ρ,I (pre++xs) ρ->Q (.next ρ))->(cb g s xs ρ).all (xs.length * n) Q
 | [],pre,ρ,h0,_,hq=>hq ρ (by rw [vo]; exact h0)
 | x::xs,pre,ρ,h0,ht,hq=>by
  obtain ⟨ρ1,e,ha⟩:=ht pre x xs ρ rfl h0 (by simp)
  have en:(x::xs).length * n=n+xs.length * n:=by rw [uZ,wq]; omega
  rw [en,iE,e,Tr.of_some,Tr.ret_bind];unfold jx;refine Tr.all_bind ha λo ⟨ρ2,eo,h2⟩=>?_;subst eo;rw [gR];exact ZdY I h2 (λpre y post ρ e h hy=>ht pre y post ρ e h (uP _ hy)) (λρ h=>hq ρ (by rw [wy] at h; exact h))
theorem Zof {α:Type} {w:Int} {k:Int->Tr α} {n:Nat} {P:α->Prop} (h1:0 < w) (h2:w < 1073741824) (h:∀ r,0<=r->r < w->(k r).all n P):(Tr.draw w k).all (n+1) P:=⟨h1,h2,h⟩
theorem pick {α:Type} {xs:List α} {r:Int} (h0:0<=r) (h1:r < xs.length):∃ v,bp xs r=some v/\v∈xs:=by
 have h:r.toNat < xs.length:=by omega
 exact ⟨xs[r.toNat],fJ h0 (by simp [h]),wU h⟩
theorem Zj3 {α:Type} {xs:List α} (h:xs.length=7):∃ a b c d e f g,xs=[a,b,c,d,e,f,g]:=by
 rcases xs with _ | ⟨a,_ | ⟨b,_ | ⟨c,_ | ⟨d,_ | ⟨e,_ | ⟨f,_ | ⟨g,_ | ⟨k,xs⟩⟩⟩⟩⟩⟩⟩⟩
 ·cases h
 ·cases h
 ·cases h
 ·cases h
 ·cases h
 ·cases h
 ·cases h
 ·exact ⟨a,b,c,d,e,f,g,rfl⟩
 ·exact absurd h (by simp)
theorem Zj4 {α:Type} {xs:List α} (h:xs.length=3):∃ a b c,xs=[a,b,c]:=by
 match xs,h with
 | [a,b,c],_=>exact ⟨a,b,c,rfl⟩
end L2
namespace L2
@[irreducible] def Al {α:Type} (t:Tr α) (n:Nat) (P:α->Prop):Prop:=t.all n P
section
variable {α β:Type} {t:Tr α} {n n' N:Nat} {P:α->Prop} {P':β->Prop}
theorem Al.of (h:t.all n P):Al t n P:=by unfold Al; exact h
theorem Al.out (h:Al t n P):t.all n P:=by unfold Al at h; exact h
theorem c7 {a:α} (h:P a):Al (.ret a) n P:=.of h
theorem dP {w:Int} {k:Int->Tr α} (h1:0 < w) (h2:w < 1073741824) (hN:n+1<=N) (h:∀ r,0<=r->r < w->Al (k r) n P):Al (.draw w k) N P:=.of (Tr.all_mono (Zof h1 h2 λr a b=>(h r a b).out) hN λ_ h=>h)
theorem eO {f:α->Tr β} (h:Al t n P) (hN:n+n'<=N) (hf:∀ a,P a->Al (f a) n' P'):Al (t.bind f) N P':=.of (Tr.all_mono (Tr.all_bind h.out λa ha=>(hf a ha).out) hN λ_ h=>h)
theorem mw {Q:α->Prop} (h:Al t n P) (hN:n<=N) (hq:∀ a,P a->Q a):Al t N Q:=.of (Tr.all_mono h.out hN hq)
theorem Zp8 {g:yu} {s:yq} {xs:yx} {ρ:yD} {Q:Ou->Prop} (I:List Sl->Prop) (h0:I ρ) (hN:xs.length * n<=N) (ht:∀ x ρ,x∈xs->I ρ->∃ ρ1,g x ρ=some ρ1/\Al (s ρ1) n λo=>∃ ρ2,o=.next ρ2/\I ρ2) (hq:∀ ρ,I ρ->Q (.next ρ)):Al (cb g s xs ρ) N Q :=
 .of (Tr.all_mono (ZdY (λ_ ρ=>I ρ) (pre:=[]) h0 (λpre x post ρ _ h hx=>let ⟨ρ1,e,a⟩:=ht x ρ hx h; ⟨ρ1,e,a.out⟩) λρ h=>hq ρ h) hN λ_ h=>h)
theorem Zp7 {h:PyData->Tr PyData} {P:PyData->Prop} {xs:yx} {Q:List PyData->Prop} (hN:xs.length * n<=N) (hx:∀ x∈xs,Al (h x) n P) (hq:∀ ys,ys.length=xs.length->(∀ y∈ys,P y)->Q ys):Al (bG h xs) N Q :=
 .of (Tr.all_mono (Zdc λx m=>(hx x m).out) hN λys ⟨a,b⟩=>hq ys a b)
end
def kz (lo hi:Int) (x:PyData):Prop:=∃ z:Int,x=.int z/\lo<=z/\z<=hi
theorem ZdG {lo hi:Int}:∀ {xs:yx},(∀ x∈xs,kz lo hi x)->∃ ns:yy,xs=ns.map PyData.int/\∀ n∈ns,lo<=n/\n<=hi
 | [],_=>⟨[],rfl,λn hn=>by cases hn⟩
 | x::xs,h=>by
  obtain ⟨ns,e,hn⟩:=ZdG (xs:=xs) λy hy=>h y (uP _ hy);obtain ⟨z,rfl,h1,h2⟩:=h x (by simp)
  exact ⟨z::ns,by rw [e]; rfl,λn hn'=>by
   rcases uV.mp hn' with rfl | hn'
   ·exact ⟨h1,h2⟩
   ·exact hn n hn'⟩
theorem cw {lo hi:Int}:(aH lo hi).length=(hi - lo).toNat:=by unfold aH; rw [uO,gG]
theorem rL {xs:yx} {lo hi r:Int} (h:∀ x∈xs,kz lo hi x) (h0:0<=r) (h1:r < xs.length):∃ z:Int,bp xs r=some (.int z)/\lo<=z/\z<=hi:=by
 obtain ⟨v,e,m⟩:=pick h0 h1;obtain ⟨z,rfl,a,b⟩:=h v m;exact ⟨z,e,a,b⟩
end L2
namespace L2
variable {PK:Pk} {X:Cx} {a b c e:Expr} {es:List Expr} {pos:Pos} {i j l:yn} {is:yo} {p q:yp} {st:Stmt}
noncomputable def sY:PyData->Bool
 | .none=>true
 | .bool _=>true
 | .int _=>true
 | .str _=>true
 | _=>false
variable {PK:Pk} {X:Cx} {a b c e:Expr} {es:List Expr} {pos:Pos} {i j l:yn} {as:List Sl->Tr yD}
structure PkLow (PK:Pk):Prop where
 low:∀ {o o':HO} {G G':Hp} {m m':Nat},PK.is o G m->Sub G G'->PK.is o' G' m'->PK.is o' G m'
inductive ArB (pa:Addr) (G H:Hp):V->Sl->Prop
 | ok {v:V} {s:Sl}:ArOk pa G v s->ArB pa G H v s
 | own {p:Addr} {vs:yB} {xs:yx}:H p=some (.lst vs)->G p=none->pa≠p->DnAll G vs xs->ArB pa G H (.ref p) (.d (.list xs))
inductive ArsB (pa:Addr) (G H:Hp):List V->List Sl->Prop
 | nil:ArsB pa G H [] []
 | cons {v:V} {vs:yB} {s:Sl} {ss:yD}:ArB pa G H v s->ArsB pa G H vs ss->ArsB pa G H (v::vs) (s::ss)
theorem ArB.step {pa:Addr} {G H G' H':Hp} {v:V} {s:Sl} (h:ArB pa G H v s) (st:Stp pa G H G' H'):ArB pa G' H' v s:=by
 cases h with
 | ok h=>exact .ok (h.mono st.gs)
 | @own p vs xs h1 h2 h3 h4 =>
  refine .own (st.hk _ _ h1 (Ne.symm h3)) ?_ h3 (DnAll.mono st.gs h4);cases e:G' p with
  | none=>rfl
  | some u =>
   rcases st.gn p u e with z | z
   ·rw [h2] at z; cases z
   ·rw [h1] at z; cases z
theorem ArsB.ok {pa:Addr} {m:Nat} {G H:Hp}:∀ {vs:yB} {ss:yD} {G1:Hp},Sub G G1->Wd PK pa m G1 H->ArsB pa G H vs ss->∃ G2,Sub G1 G2/\Wd PK pa m G2 H/\ArsOk pa G2 vs ss
 | _,_,G1,_,w,.nil=>⟨G1,λ_ _ h=>h,w,.nil⟩
 | _,_,G1,sb,w,.cons h t=>by
  obtain ⟨G2,s2,w2,t2⟩:=ArsB.ok sb w t;cases h with
  | ok h=>exact ⟨G2,s2,w2,.cons (h.mono (sb.trans s2)) t2⟩
  | @own p vs xs h1 h2 h3 h4 =>
   cases e:G2 p with
   | none =>
    have s3:Sub G2 (upd G2 p (.lst vs)):=Sub.new e;exact ⟨upd G2 p (.lst vs),s2.trans s3,w2.freeze h1 e h3,.cons (.d (.lst bq (DnAll.mono ((sb.trans s2).trans s3) h4))) (ArsOk.mono s3 t2)⟩
   | some u =>
    have:=w2.sub p u e;rw [h1] at this;cases this;exact ⟨G2,s2,w2,.cons (.d (.lst e (DnAll.mono (sb.trans s2) h4))) t2⟩
def TAb (PK:Pk) (i:List Sl->Tr yD):TA:=λσ H Q=>∃ pa yE H₀ m ρ G,Rl PK pa yE H₀ m σ ρ G H/\(i ρ).ok m λm' as=>∀ vs G' H',Stp pa G H G' H'->Wd PK pa m' G' H'->ArsB pa G' H' vs as->Q vs H'
theorem TAb.then {σ:St} {H:Hp} {β:Type} {k:List Sl->Tr β} {Z:Nat->β->Prop} {Q:List V->Hp->Prop} {pa:Addr} {yE H₀ G:Hp} {m:Nat} {ρ:yD} (R:Rl PK pa yE H₀ m σ ρ G H) (h:((as ρ).bind k).ok m Z)
  (hq:∀ m1 xs vs G1 H1,Stp pa G H G1 H1->Wd PK pa m1 G1 H1->Rl PK pa yE H₀ m1 σ ρ G1 H1->ArsB pa G1 H1 vs xs->(k xs).ok m1 Z->Q vs H1):TAb PK as σ H Q:=by
 refine ⟨pa,yE,H₀,m,ρ,G,R,Tr.ok_mono (Tr.ok_bind.mp h) λm1 x hx v G1 H1 s1 w1 d1=>?_⟩;exact hq m1 x v G1 H1 s1 w1 (R.step s1 w1) d1 hx
theorem ur:PA X [] (TAb PK ak):=bM.imp λσ H Q hz0=>by
 obtain ⟨pa,yE,H₀,m,ρ,G,R,z⟩:=hz0;exact z [] G H .refl R.wd .nil
noncomputable def kL (k:Nat) (as:List Sl->Tr yD):List Sl->Tr yD:=λρ=>match ρ[k]? with
 | some (.own xs)=>(as ρ).bind λys=>.ret (.d (.list xs)::ys)
 | some (.d x)=>(as ρ).bind λys=>.ret (.d x::ys)
 | _=>.fail
theorem ut {k:Nat} (ha:PE X e (eS k)) (hr:PA X es (TAb PK as)) (hs:starEach (e::es) X.env=(false,eval e X.env)::starEach es X.env:=by rfl):PA X (e::es) (TAb PK (kL k as)):=(aV ha hr hs).imp λσ H Q hz0=>by
 obtain ⟨pa,yE,H₀,m,ρ,G,R,z⟩:=hz0;unfold kL at z
 split at z
 ·rename_i xs hk;obtain ⟨o,h1,h2⟩:=R.sl k _ hk;cases h2 with
  | @own p vs _ a1 a2 a3 a4 =>
   have hne:pa≠p:=λe=>by
    obtain ⟨u,hu⟩:=R.p0;rw [e,a3] at hu; cases hu
   refine ⟨_,h1,?_⟩;refine TAb.then R z λm2 ys ws G2 H2 s2 w2 R2 d2 q2=>?_;exact q2 _ _ _ s2 w2 (.cons ((ArB.own a1 a2 hne a4).step s2) d2)
 ·rename_i x hk;obtain ⟨o,h1,h2⟩:=R.sl k _ hk;cases h2 with
  | d d1 =>
   refine ⟨_,h1,?_⟩;refine TAb.then R z λm2 ys ws G2 H2 s2 w2 R2 d2 q2=>?_;exact q2 _ _ _ s2 w2 (.cons (.ok (.d (d1.mono s2.gs))) d2)
 ·exact z.elim
theorem Dn.flat_any {G G':Hp} {v:V} {x:PyData} (h:Dn G v x) (f:sY x=true):Dn G' v x:=by
 cases h with
 | non=>exact .non
 | bl b=>exact .bl b
 | int i=>exact .int i
 | str s=>exact .str s
 | _=>cases f
variable {ρ:yD} {k:Nat} {xs:yx} {x:PyData} {sl:Sl} {f:yr}
noncomputable def km:Nat->List Sl->Tr PyData
 | 0,.own xs::_=>.ret (.list xs)
 | 0,.d x::_=>.ret x
 | k+1,_::ρ=>km k ρ
 | _,_=>.fail
theorem Zmy:km 0 (.own xs::ρ)=.ret (.list xs):=rfl
theorem Zmw:km (k+1) (sl::ρ)=km k ρ:=rfl
theorem Zmv:kL k as ρ=(km k ρ).bind (pF as ρ):=by
 have key:∀ (k:Nat) (σ:yD) (as:List Sl->Tr yD) (ρ:yD),(match σ[k]? with | some (.own xs)=>(as ρ).bind λys=>Tr.ret (Sl.d (.list xs)::ys) | some (.d x)=>(as ρ).bind λys=>Tr.ret (Sl.d x::ys) | _=>Tr.fail)=(km k σ).bind (pF as ρ):=by
  intro k
  induction k with
  | zero =>
   intro σ as ρ;cases σ with
   | nil=>rfl
   | cons s r=>cases s <;> rfl
  | succ k ih =>
   intro σ as ρ;cases σ with
   | nil=>rfl
   | cons s r=>exact ih r as ρ
 exact key k ρ as ρ
theorem Zo0 {prog:Program} {w:World} {A:Around} {R:Result->Shared->Prop} {s:Shared} {elt target iter cnd:Expr} {scope:Scope} {pos:Pos} {it acc:Value} {env:Env} (J:Nat->Shared->Prop)
  (step:∀ k s0,J k s0->wpAny (model prog w) A (pyNext it) (λgot s1=>match got with
   | none=>R (.ok .next) s1
   | some v=>wpAny (model prog w) A (letOwnedTupleGo target it v) (λ_ s2=>wpAny (model prog w) A (assign target env v) (λ_ s3=>wpAny (model prog w) A (isTrue cnd env (eval cnd env)) (λok s3'=>if ok=true then wpAny (model prog w) A (eval elt env) (λy s4 =>
     wpAny (model prog w) A (call (.builtin "list.append") [acc,y]) (λ_ s5=>∃ j,j < k/\J j s5) (λ_ _=>False) s4) (λ_ _=>False) s3' else ∃ j,j < k/\J j s3') (λ_ _=>False) s3) (λ_ _=>False) s2) (λ_ _=>False) s1) (λ_ _=>False) s0)
  (k:Nat) (h:J k s):codeAny (model prog w) A (.compLoop (.ListComp elt [⟨target,iter,[cnd],0⟩] scope pos) 0 it acc env) R s:=by
 refine codeAny_loop rfl J (λk0 s0 hJ=>?_) k h;show wpAny _ _ ((compTurn (.ListComp elt [⟨target,iter,[cnd],0⟩] scope pos) 0 it acc env).onRaise (λx=>do noteFrame x env; theTreesLotGoes x)) _ _ s0
 apply wpAny_noted;rw [compTurn_list];refine wpAny_bind (wpAny_standAt (wpAny_bind (wpAny_mono (step k0 s0 hJ) (λgot s1 h1=>?_) λ_ _ z=>z.elim)));cases got with
 | none=>exact wpAny_pure h1
 | some v =>
  refine wpAny_bind (wpAny_mono h1 (λ_ s2 h2=>?_) λ_ _ z=>z.elim);refine wpAny_bind (wpAny_mono h2 (λ_ s3 h3=>?_) λ_ _ z=>z.elim);refine wpAny_bind (wpAny_mono (wpAny_tests_one h3) (λok s3' h3'=>?_) λ_ _ z=>z.elim);cases ok with
  | false=>exact wpAny_pure ⟨rfl,h3'⟩
  | true =>
   refine wpAny_bind (wpAny_bind (wpAny_mono h3' (λy s4 h4=>?_) λ_ _ z=>z.elim));exact wpAny_bind (wpAny_mono h4 (λ_ s5 h5=>wpAny_pure (wpAny_pure ⟨rfl,h5⟩)) λ_ _ z=>z.elim)
def qo (wi:TI) (n:Nat) (ix:List Nat) (g:Blk->TG) (tc:Blk->TT) (te:Blk->TE):TE:=λσ H Q=>wi σ H λJ H1=>∀ b:Blk,∃ W:Nat->Nat->St->List V->Hp->Prop,(∃ m,W 0 m (dB n ix σ) [] H1)/\∀ i m τ ys H2,W i m τ ys H2 ->
 (J.stop i H2/\∀ p v H',H2 p=none->v=V.ref p->H'=upd H2 p (.lst ys)->Q v H') \/
 (J.go i H2/\ys.length < sizeLine/\∀ x H3,J.yld i H2 x H3->g b x τ H3 λτ2 H4=>tc b τ2 H4 λok H4'=>if ok=true then te b τ2 H4' λy H5=>∃ m',m' < m/\W (i+1) m' τ2 (ys++[y]) H5 else ∃ m',m' < m/\W (i+1) m' τ2 ys H4')
section
variable {X:Cx} {pins:yF} {σ:St} {H:Hp} {s:Shared}
theorem Zkh {elt target iter cnd:Expr} {scope:Scope} {pos:Pos} {Nx ts:yA} {ix:List Nat} {g:Blk->TG} {tc:Blk->TT} {te:Blk->TE} {cl:List (Str×Addr)} {s2:Shared} {itv:Value} {R:Value->Addr->Result->Shared->Prop}
  {E:yw} {Q:VK}
  (hc:X.calm=true) (hg:∀ b,PG (bQ X (bN Nx ts ix) scope b) target (g b)) (hcn:∀ b,PT (bQ X (bN Nx ts ix) scope b) cnd (tc b)) (he:∀ b,PE (bQ X (bN Nx ts ix) scope b) elt (te b))
  (hNx:X.N=Nx) (ok:BlkOk Nx X.env.scope scope ix) (cl1:∀ x c,cl.lookup x=some c->X.env.cells.lookup x=some c) (cl2:∀ y∈scope.names,y.2=.free->∃ c,cl.lookup y.1=some c)
  (h2:pU X pins σ target (λJ H1=>∀ b:Blk,∃ W:Nat->Nat->St->List V->Hp->Prop,(∃ m,W 0 m (dB ts.length ix σ) [] H1)/\∀ i m τ ys H2,W i m τ ys H2 ->
   (J.stop i H2/\∀ p v H',H2 p=none->v=V.ref p->H'=upd H2 p (.lst ys)->Q v H') \/
   (J.go i H2/\ys.length < sizeLine/\∀ x H3,J.yld i H2 x H3->g b x τ H3 λτ2 H4=>tc b τ2 H4 λok H4'=>if ok=true then te b τ2 H4' λy H5=>∃ m',m' < m/\W (i+1) m' τ2 (ys++[y]) H5 else ∃ m',m' < m/\W (i+1) m' τ2 ys H4')) itv s2)
  (hR:∀ (D C:Addr) (H':Hp) (s':Shared) (v:V),Inv X pins σ H' s'->v=.ref D->Q v H'->(∃ m,s'.heap.Ns C m)->H' C=none->C≠X.env.locals->X.s₀.heap.objs.size<=C->(∀ x c,X.env.cells.lookup x=some c->c≠C)->(∀ p∈X.pn++pins,p.1≠C) ->
   R (.ref D) C (.ok .next) s') :
  wpAny (model X.prog X.w) X.A (newList []) (λacc s₃=>wpAny (model X.prog X.w) X.A (newFunctionEnv scope X.env.globals cl [] X.env.qual none .none (some X.env)) (λcenv s₄ =>
   codeAny (model X.prog X.w) X.A (.compStart (.ListComp elt [⟨target,iter,[cnd],0⟩] scope pos) 0 itv acc { cenv with scope:=relabel scope X.env }) (R acc cenv.locals) s₄) E s₃) E s2:=by
 obtain ⟨it,fp,tn,J,H1,e,I2,T,st2,f2,q2⟩:=h2;subst e;refine wpAny_newObj_type (Zaf ?_);dsimp only;generalize hG:s2.heap.push { cls:=.type "list",dict:=none,data:=.seq ([]:yz).toArray }=G;have hGs:G.objs.size=s2.heap.objs.size+1:=by rw [<- hG,vD]
 have hfs:∀ b∈fp,b < s2.heap.objs.size:=λb hb=>let ⟨o,e,_⟩:=T.obj _ _ st2 b hb; uY e
 have kpG:∀ b o,G.get? b=some o->(pushCells (G.push { cls:=.type "dict",data:=.dict #[] }) scope.names).get? b=some o:=λb o e=>pushCells_keeps _ _ _ _ (uN _ e);have hns3:(pushCells (G.push { cls:=.type "dict",data:=.dict #[] }) scope.names).Ns G.objs.size (λ_=>none):=(Heap.Ns.new G (.type "dict")).keeps (pushCells_keeps _ _);obtain ⟨sp1,sp2,sp4,sp3⟩:=ZeQ scope.names (G.push { cls:=.type "dict",data:=.dict #[] }) cl;rw [vD] at sp1 sp2 sp3 sp4;generalize hh3:pushCells (G.push { cls:=.type "dict",data:=.dict #[] }) scope.names=h3 at kpG hns3 sp1 ⊢;have kp:∀ b o,s2.heap.get? b=some o->h3.get? b=some o:=λb o e=>kpG b o (by rw [<- hG]; exact uN _ e)
 have hD3:h3.get? s2.heap.objs.size=some { cls:=.type "list",data:=.seq ([]:yz).toArray }:=kpG _ _ (by rw [<- hG]; exact uS _ rfl)
 have clB:∀ x c,cl.lookup x=some c->c < G.objs.size+1:=λx c e=>by
  obtain ⟨v,q⟩:=I2.cell x c (cl1 x c e);exact ww (uU q.lt (by rw [hGs]; exact Nat.le_succ _))
 have csI:=sp3 clB λx y c e1 e2=>I2.ok.inj x y c (cl1 x c e1) (cl1 y c e2);have cs1:∀ x c,(cellsFrom (G.objs.size+1) scope.names cl).lookup x=some c->X.env.cells.lookup x=some c\/(G.objs.size < c/\h3.IsCell c none/\(x,NameKind.cell)∈scope.names):=λx c e=>by
  rcases sp1 x c e with z | ⟨z1,z2,z3⟩
  ·exact .inl (cl1 x c z)
  ·exact .inr ⟨by omega,z2,z3⟩
 have cs2:∀ y∈scope.names,(y.2=.free\/y.2=.cell)->∃ c,(cellsFrom (G.objs.size+1) scope.names cl).lookup y.1=some c:=λy hy hk=>by
  refine sp2 y.1 ?_;rcases hk with z | z
  ·exact .inr (cl2 y hy z)
  ·exact .inl (by rw [<- z]; exact hy)
 have csA:∀ x c,(x,NameKind.cell)∈scope.names->(cellsFrom (G.objs.size+1) scope.names cl).lookup x=some c->G.objs.size<=c:=λx c e1 e2=>xl (sp4 x c e1 e2);generalize hcs:cellsFrom (G.objs.size+1) scope.names cl=cs at csI cs1 cs2 csA ⊢;generalize hCe:G.objs.size=C at hns3 cs1 csA ⊢;have hC:s2.heap.objs.size<=C:=by omega
 have hDC:s2.heap.objs.size≠C:=by omega
 let B:Blk:=⟨cs,C,s2,H1,fp,X.pn++pins⟩
 have I3:Inv (bQ X (bN Nx ts ix) scope B) [] (dB ts.length ix σ) H1 { s2 with heap:=h3 }:=ZdF I2 hNx ok cs1 csI cs2 csA f2 hfs hC kp hns3;have fC:H1 s2.heap.objs.size=none:=I2.hok.fresh (uQ _);have cellIn:∀ x c,cs.lookup x=some c->c≠s2.heap.objs.size:=λx c e=>by
  rcases cs1 x c e with z | ⟨z,_,_⟩
  ·obtain ⟨v,q⟩:=I2.cell x c z;exact u9 q.lt
  ·exact vO (wM hC z)
 have pinIn:∀ p∈X.pn++pins,p.1 < s2.heap.objs.size:=λp hp=>uY (I2.pin p hp).1;have nofrs:s2.heap.objs.size ∉ frs X.stack:=λhb=>by
  rcases uV.mp (I2.stkSub _ hb) with z | z
  ·exact absurd I2.lt (by rw [<- z]; exact ve _)
  ·exact I2.nofs (uQ _) z
 -- a state with the list at its place,pinned
 have pinD:∀ {τ:St} {H':Hp} {s':Shared} {ob:Obj},Inv (bQ X (bN Nx ts ix) scope B) [] τ H' s'->s'.heap.get? s2.heap.objs.size=some ob->H' s2.heap.objs.size=none->(∀ v,ob.data≠.cell v)->Inv (bQ X (bN Nx ts ix) scope B) [(s2.heap.objs.size,ob)] τ H' s' :=
  λ{τ H' s' ob} I' ho hn hd=>I'.pins_of λp hp=>by
   have e:p=(s2.heap.objs.size,ob):=by simpa using hp
   subst e;exact ⟨ho,hn,hDC,nofrs,hd⟩
 obtain ⟨W,⟨m0,w0⟩,turn⟩:=q2 B;have stat:∀ {H':Hp} {ob:Obj},(∀ b∈fp,H' b=none)->∀ b∈fp,fO (bQ X (bN Nx ts ix) scope B) [(s2.heap.objs.size,ob)] H' b:=λ{H' ob} hn b hb=>by
  refine ⟨hn b hb,u9 (uU (hfs b hb) hC),λz=>?_,.inl hb,λx c e=>by
   rcases cs1 x c e with z | ⟨z,_,_⟩
   ·exact (f2 b hb).2.2.2.2.1 x c z
   ·exact vO (uU (hfs b hb) (u8 hC (wJ z))),λp hp=>?_⟩
  ·rcases uV.mp (I2.stkSub _ z) with q | q
   ·exact (f2 b hb).2.1 q
   ·exact (f2 b hb).2.2.1 q
  ·rcases vV.mp hp with z | z
   ·exact (f2 b hb).2.2.2.2.2 p z
   ·have e:p=(s2.heap.objs.size,ob):=by simpa using z
    subst e;exact vO (hfs b hb)
 have loop:∀ s4:Shared,s4={ s2 with heap:=h3 } ->
   codeAny (model X.prog X.w) X.A (.compLoop (.ListComp elt [⟨target,iter,[cnd],0⟩] scope pos) 0 (.ref it) (.ref s2.heap.objs.size) (compEnvC scope cs C X.env)) (R (.ref s2.heap.objs.size) C) s4:=by
  rintro s4 rfl;refine Zo0 (λk s'=>∃ i τ ys its n H',Inv (bQ X (bN Nx ts ix) scope B) [(s2.heap.objs.size,({ cls:=.type "list",data:=.seq (List.toArray its) n }:Obj))] τ H' s'/\tn i s'.heap/\(∀ b∈fp,H' b=none)/\Vals ys its/\ys.length<=sizeLine/\W i k τ ys H') ?_ m0
   ⟨0,_,[],[],_,H1,pinD I3 hD3 fC (λv z=>by cases z),T.keep _ _ _ st2 λb hb o e=>kp b o e,λb hb=>(f2 b hb).1,.nil,wf _,w0⟩
  rintro k s5 ⟨i,τ,ys,its,n,H5,I5,st5,fr5,rv,hz,w5⟩;rcases turn i k τ ys H5 w5 with ⟨stop,qn⟩ | ⟨go,hlt,step⟩
  ·refine thn (T.done (bQ X (bN Nx ts ix) scope B) rfl rfl rfl hc i _ s5 τ H5 _ I5 (stat fr5) st5 stop) λgot s6 hz0=>?_;obtain ⟨hr,I6⟩:=hz0;subst hr;obtain ⟨ho,hn,_,_,_⟩:=I6.pin (s2.heap.objs.size,({ cls:=.type "list",data:=.seq (List.toArray its) n }:Obj)) (u4 _ (by simp))
   have I7:Inv X pins σ H5 s6:=I2.call' (ch:=fp) (H':=H5) (by exact I6.os) I6.base I6.hok I6.bare λb hb=>⟨(f2 b hb).2.2.2.1,(f2 b hb).2.1,(f2 b hb).2.2.2.2.1,(f2 b hb).2.2.2.2.2⟩
   have hs0:X.s₀.heap.objs.size<=s2.heap.objs.size:=I2.sz;have I8:=I7.track hn ho rv hz (vO I2.lt) hs0 (λx c e z=>by
    obtain ⟨v,q⟩:=I2.cell x c e;exact absurd q.lt (by rw [z]; exact ve _)) (λp hp=>u9 (pinIn p hp))
   obtain ⟨m6,hm6,_⟩:=I6.loc;refine hR _ C _ s6 _ I8 rfl (qn _ _ _ hn rfl rfl) ⟨m6,hm6⟩ ?_ (λz=>?_) (u8 hs0 hC) (λx c e z=>?_) λp hp=>u9 (uU (pinIn p hp) hC)
   ·rw [ap (Ne.symm hDC)];exact I6.free
   ·exact absurd (uU I2.lt hC) (by rw [z]; exact ve _)
   ·obtain ⟨v,q⟩:=I2.cell x c e;exact absurd (uU q.lt hC) (by rw [z]; exact ve _)
  ·refine thn (T.item (bQ X (bN Nx ts ix) scope B) rfl rfl rfl hc i _ s5 τ H5 _ I5 (stat fr5) st5 go) λgot s6 hz0=>?_;obtain ⟨u,hr,h6⟩:=hz0;subst hr;refine thn h6 λ_ s7 hz0=>?_;obtain ⟨x,H7,I7,r7,y7,st7,fr7⟩:=hz0;have I7':=I7.pinned (stat fr7) (T.obj _ _ st7);refine thn (hg B _ s7 τ H7 x u _ I7' r7 (step x H7 y7)) λ_ s8 hz0=>?_;obtain ⟨τ8,H8,I8,q8⟩:=hz0;refine thn (hcn B _ s8 τ8 H8 _ I8 q8) λokk s8' hz0=>?_;obtain ⟨H8',I8',q8'⟩:=hz0;cases okk with
   | false =>
    obtain ⟨m',hm',w9⟩:=q8';obtain ⟨ho,hn,_,_,_⟩:=I8'.pin (s2.heap.objs.size,({ cls:=.type "list",data:=.seq (List.toArray its) n }:Obj)) (u4 _ (wD _ (by simp)))
    have I9':Inv (bQ X (bN Nx ts ix) scope B) [] τ8 H8' s8':=I8'.pins_of λp hp=>absurd hp (by simp)
    refine ⟨m',hm',i+1,τ8,ys,its,n,H8',pinD I9' ho hn (λv z=>by cases z),?_,λb hb=>?_,rv,hz,w9⟩
    ·refine T.keep _ _ _ st7 λb hb o e=>?_;exact (I8'.pin (b,o) (u4 _ (u4 _ (iz hb e)))).1
    ·obtain ⟨o,e,d⟩:=T.obj _ _ st7 b hb;exact (I8'.pin (b,o) (u4 _ (u4 _ (iz hb e)))).2.1
   | true =>
   refine thn (he B _ s8' τ8 H8' _ I8' q8') λy s9 hz0=>?_;obtain ⟨vy,H9,I9,r9,m',hm',w9⟩:=hz0;obtain ⟨ho,hn,_,_,_⟩:=I9.pin (s2.heap.objs.size,({ cls:=.type "list",data:=.seq (List.toArray its) n }:Obj)) (u4 _ (wD _ (by simp)))
   have lenv:=rv.length;refine wpAny_list_append_plain (l:=s2.heap.objs.size) ⟨n,ho⟩ (λh' hpl hsb=>?_) (by rw [uW]; omega)
   obtain ⟨n',ho'⟩:=hpl;have eobj:(its.toArray.push y)=List.toArray (its++[y]):=by simp
   rw [eobj] at ho';have I9':Inv (bQ X (bN Nx ts ix) scope B) [] τ8 H9 s9:=I9.pins_of λp hp=>absurd hp (by simp)
   have I10:Inv (bQ X (bN Nx ts ix) scope B) [] τ8 H9 { s9 with heap:=h' }:=I9'.turned (it:=s2.heap.objs.size) (t':=s9.toks) (λb o hb e=>(hsb.2 b hb).trans e) hn hDC (.inr (uQ _)) cellIn (λp hp=>by
    have hp':p∈(X.pn++pins)++[]:=hp;rw [vo] at hp';exact u9 (pinIn p hp'))
   refine ⟨m',hm',i+1,τ8,ys++[vy],its++[y],n',H9,pinD I10 ho' hn (λv z=>by cases z),?_,λb hb=>?_,rv.append (.cons r9 .nil),by rw [vF]; show ys.length+1<=_; omega,w9⟩
   ·refine T.keep _ _ _ st7 λb hb o e=>?_;have q:=(I9.pin (b,o) (u4 _ (u4 _ (iz hb e)))).1;exact (hsb.2 b (u9 (hfs b hb))).trans q
   ·obtain ⟨o,e,d⟩:=T.obj _ _ st7 b hb;exact (I9.pin (b,o) (u4 _ (u4 _ (iz hb e)))).2.1
 exact codeAny_compStart_list (loop _ rfl) (T.self X.A 0 _ _ _ (T.keep _ _ _ st2 λb hb o e=>kp b o e) (loop _ rfl))
theorem ZiN {elt target iter cnd:Expr} {scope:Scope} {pos:Pos} {wi:TI} {g:Blk->TG} {tc:Blk->TT} {te:Blk->TE} (Nx:yA) (ts:yA) (ix:List Nat)
  (hc:X.calm=true) (hi:PI X target iter wi) (hg:∀ b,PG (bQ X (bN Nx ts ix) scope b) target (g b)) (hcn:∀ b,PT (bQ X (bN Nx ts ix) scope b) cnd (tc b)) (he:∀ b,PE (bQ X (bN Nx ts ix) scope b) elt (te b))
  (hNx:X.N=Nx) (ok:BlkOk Nx X.env.scope scope ix) (hs:∀ x,foldedSetIterable iter X.env x=pure x:=by intro _; rfl) :
  PE X (.ListComp elt [⟨target,iter,[cnd],0⟩] scope pos) (qo wi ts.length ix g tc te):=by
 intro pins s σ H Q I h;obtain ⟨cl,hcl,cl1,cl2⟩:=o8 (scope:=scope) (env:=X.env) λy hy hf=>I.ok.has y.1 (ok.frees y hy hf);rw [eval_ListComp];refine wpAny_comprehension_free (use:=none) rfl hs hcl ok.kind ok.locs (thn (hi pins s σ H _ I h) λv s1 h1=>thn h1 λitv s2 h2=>?_);refine Zkh (R:=λacc C=>compPost (model X.prog X.w) X.A X.xe none (EP X pins σ Q) acc C) hc hg hcn he hNx ok cl1 cl2 h2 ?_;rintro D C H' s' v I' rfl q ⟨m,hm⟩ hn hL h0 hcl' hp;exact ⟨m,hm,λh' hsb=>⟨.ref D,H',I'.turned (it:=C) (t':=s'.toks) (λb o hb e=>(hsb.2 b hb).trans e) hn hL (.inr h0) hcl' hp,rfl,q⟩⟩
end
section
variable {PK:Pk} {X:Cx} {e:Expr} {st:Stmt} {i:yn} {is:yo} {p:yp}
noncomputable def lS (y:Option PyData) (ys:yx):Tr yx:=.ret (match y with
 | some y=>y::ys
 | none=>ys)
noncomputable def fB (h:PyData->Tr (Option PyData)):List PyData->Tr yx
 | []=>.ret []
 | x::xs=>(h x).bind λy=>(fB h xs).bind (lS y)
noncomputable def kA (p:yp) (i:yn) (τ:yD):Tr (Option PyData):=(p τ).bind λok=>if ok=true then (i τ).bind λy=>.ret (some y) else .ret none
noncomputable def pK (is:yo) (n:Nat) (ix:List Nat) (g:yu) (p:yp) (el:yn):yo:=λρ =>
 (is ρ).bind λxs=>if small xs.length=true then fB (λx=>(Tr.of (g x (blk n ix ρ))).bind (kA p el)) xs else .fail
theorem Zkg {n:Nat} {ix:List Nat} {g:yu} (hn:iM n g):∀ σ H Q,eD PK (pK is n ix g p i) σ H Q->qo (fm PK is) n ix (λ_=>gu PK g) (λ_=>TAt PK p) (λ_=>TAe PK i) σ H Q:=by
 rintro σ H Q ⟨pa,yE,H₀,m,ρ,G,R,z⟩;refine ⟨pa,yE,H₀,m,ρ,G,R,Tr.ok_mono (Tr.ok_bind.mp z) λm1 xs k J G1 H1 s1 w1 jo=>λB=>?_⟩;obtain ⟨hs,k⟩:=eY k;have hs:xs.length<=sizeLine:=of_decide_eq_true hs
 let el:PyData->Tr (Option PyData):=λx=>(Tr.of (g x (blk n ix ρ))).bind (kA p i)
 let W:Nat->Nat->St->List V->Hp->Prop:=λk mm τ ys H2=>mm=xs.length - k/\k<=xs.length/\ys.length<=k/\∃ m G2 ds,Sub G1 G2/\Stp pa G H G2 H2/\Rl PK pa yE H₀ m τ (blk n ix ρ) G2 H2 /\
  DnAll G2 ys ds/\(fB el (xs.drop k)).ok m λm' zs=>Ko1 PK pa m' G H (ds++zs) Q
 refine ⟨W,⟨xs.length,rfl,wf _,uQ _,m1,G1,[],.refl,s1,(R.step s1 w1).blk n ix,.nil,k⟩,?_⟩;rintro k mm τ ys H2 ⟨rfl,hk,hy,m2,G2,ds,sb,st2,R2,dn,k2⟩;obtain ⟨j1,j2⟩:=jo m2 G2 H2 sb R2.wd;by_cases hlt:k < xs.length
 ·have hx:xs[k]?=some xs[k]:=by simp [hlt]
  obtain ⟨jg,jy⟩:=j1 k _ hx;refine .inr ⟨jg,by omega,λx H3 y=>?_⟩
  obtain ⟨G3,s3,w3,d3⟩:=jy x H3 y;rw [vR hlt] at k2;unfold fB at k2;rw [Tr.ok_bind,Tr.ok_bind] at k2;obtain ⟨ρ3,hg3,k3⟩:=Tr.ok_of k2;refine ⟨pa,yE,H₀,m2,_,G3,_,ρ3,R2.step s3 w3,d3,hg3,λτ4 R4=>?_⟩;obtain ⟨pl,pk⟩:=hn _ _ _ hg3;have hback:∀ (q:Nat) (sl:Sl),(blk n ix ρ)[q]?=some sl->sl=.un\/ρ3[q]?=some sl:=λq sl hq=>by
   by_cases hqn:q < n
   ·left
    unfold blk at hq;rw [vp (by simpa using hqn),vn,if_pos hqn] at hq
    cases hq
    rfl
   ·right
    rw [pk q (wT hqn)];exact hq
  unfold kA at k3;rw [Tr.ok_bind] at k3;refine ⟨pa,yE,H₀,m2,ρ3,G3,R4,Tr.ok_mono k3 λm4 ok k4 G4 H4 s4 w4=>?_⟩;have R4':=R4.step s4 w4;have s34:=s3.trans s4 w3.some;cases ok with
  | false =>
   have k4':((fB el (xs.drop (k+1))).bind (lS none)).ok m4 λm' zs=>Ko1 PK pa m' G H (ds++zs) Q:=k4;refine ⟨xs.length - (k+1),by omega,rfl,hlt,by omega,m4,G4,ds,sb.trans s34.gs,st2.trans s34 R2.wd.some,R4'.weak pl hback,DnAll.mono s34.gs dn,?_⟩
   exact Tr.ok_mono (Tr.ok_bind.mp k4') λm6 zs k6=>k6
  | true =>
   have k4':((i ρ3).bind λy=>.ret (some y)).ok m4 λm' y=>((fB el (xs.drop (k+1))).bind (lS y)).ok m' λm' zs=>Ko1 PK pa m' G H (ds++zs) Q:=k4;rw [Tr.ok_bind] at k4';refine ⟨pa,yE,H₀,m4,ρ3,G4,R4',Tr.ok_mono k4' λm5 yd k5=>?_⟩;intro v G5 H5 s5 w5 d5;have s35:=s34.trans s5 w4.some;refine ⟨xs.length - (k+1),by omega,rfl,hlt,by rw [vF]; show ys.length+1<=_; omega,m5,G5,ds++[yd],sb.trans s35.gs,st2.trans s35 R2.wd.some,(R4'.step s5 w5).weak pl hback,(DnAll.mono s35.gs dn).snoc d5,?_⟩
   have k5':((fB el (xs.drop (k+1))).bind (lS (some yd))).ok m5 λm' zs=>Ko1 PK pa m' G H (ds++zs) Q:=k5;refine Tr.ok_mono (Tr.ok_bind.mp k5') λm6 zs k6=>?_;rw [wy];exact k6
 ·have e:k=xs.length:=by omega
  subst e;refine .inl ⟨j2,λp v H' hp ev eH=>?_⟩;subst ev eH;rw [xv] at k2;have k2':Ko1 PK pa m2 G H (ds++[]) Q:=k2;rw [vo] at k2';exact (Ko1.later k2' st2 R2.wd.some).new R2.wd dn hp
theorem Zp2 {n:Nat} {ix:List Nat} {g:yu} (h:PE X e (qo (fm PK is) n ix (λ_=>gu PK g) (λ_=>TAt PK p) (λ_=>TAe PK i))) (hn:iM n g):PE X e (eD PK (pK is n ix g p i)):=h.imp (Zkg hn)
end
section
variable {X:Cx}
theorem ZjF (x:Int) (t:Tok) (l:Addr) (items:Array Value) (n:Nat) (dd:Option Addr) (sl:Array (Option Value)) (h1:x<=0) (h2:-1000<=x) (h3:items.isEmpty=false) :
  Meets (Builtin.«tuple.__mul__» ⟨[.ref l,.int x t],[]⟩) (λ_ R s=>s.heap.get? l=some { cls:=.type "tuple",dict:=dd,data:=.seq items n,slots:=sl } /\
   R (.ok (.ret (.ref s.heap.objs.size))) { s with heap:=s.heap.push { cls:=.type "tuple",data:=.seq #[] } }):=by
 refine .of_wp λprog w A R s h=>?_;obtain ⟨hp,g,d,tk,os⟩:=s;obtain ⟨hl,h⟩:=h
 wp_walk
 refine wpAny_ite_split (λz=>absurd z (by simp; omega)) (λ_=>?_)
 refine wpAny_bind ?_;unfold Builtin.Tuple.tupleItemsOf;refine wpAny_bind (wpAny_seqItems hl rfl (wpAny_pure ?_));refine wpAny_ite_split (λz=>absurd z (by rw [h3]; simp; omega)) (λ_=>?_)
 refine wpAny_ite_split (λ_=>?_) (λz=>absurd (by simp; exact .inl h1) z)
 unfold Builtin.Tuple.tupleExact;exact wpAny_bind (wpAny_newObj_type (wpAny_pure ⟨_,rfl,h⟩) (by size_fits))
theorem ZjE (t:Tok) (l:Addr) (items:Array Value) (n:Nat) (dd:Option Addr) (sl:Array (Option Value)) :
  Meets (Builtin.«tuple.__mul__» ⟨[.ref l,.int 1 t],[]⟩) (λ_ R s=>s.heap.get? l=some { cls:=.type "tuple",dict:=dd,data:=.seq items n,slots:=sl }/\R (.ok (.ret (.ref l))) s):=by
 refine .of_wp λprog w A R s h=>?_;obtain ⟨hp,g,d,tk,os⟩:=s;obtain ⟨hl,h⟩:=h
 wp_walk
 exact ⟨_,rfl,h⟩
noncomputable def Zb6 (K:ym):R2:=λx y H Q=>∃ a k xs,x=.ref a/\y=.int k/\SqT K H a xs/\k<=0/\-1000<=k/\xs≠[]/\∀ p,H p=none->Q (.ref p) (upd H p (.tup []))
noncomputable def Zb5 (K:ym):R2:=λx y H Q=>∃ a xs,x=.ref a/\y=.int 1/\SqT K H a xs/\Q (.ref a) H
theorem Zi7:OpR X (binaryOp .Mult) (Zb6 X.K):=by
 intro pins s σ H x y v u Q I rx ry h;obtain ⟨a,k,xs,rfl,rfl,hq,h1,h2,hne,q⟩:=h;cases rx;obtain ⟨t,rfl⟩:=ry;obtain ⟨its,rv,p,hz⟩:=I.tuple hq;obtain ⟨o,ho,hc,n,hd⟩:=p;obtain ⟨oc,od,odd,osl⟩:=o;have hc':oc=.type "tuple":=hc;have hd':odd=.seq its.toArray n:=hd;subst hc' hd';have hemp:its.toArray.isEmpty=false:=by
  cases its with
  | nil=>cases rv; exact absurd rfl hne
  | cons i r=>rfl
 refine wpAny_binaryOp_repeat_ref (T:="tuple") (U:="int") (by decide) ⟨_,ho,rfl⟩ (λs'=>typeIs_int s' k t) rY xA wa rf PySem.F.slot_int_index.lookup ?_
 refine call_meets wa (typeIs_int s k t) xx (xp _ _) (re k t a its.toArray n od osl) ⟨ho,rfl,⟨_,ho,rfl⟩,?_⟩;refine call_meets xw ⟨_,ho,rfl⟩ xo (xk _ _) (ZjF k t a its.toArray n od osl h1 h2 hemp) ⟨ho,?_⟩;exact ⟨.ref s.heap.objs.size,_,I.laid (t':=s.toks) (λb o e=>uN _ e) (uQ _) (show ObjOk X.prog X.w _ _ _ (.tup []) from ⟨wf _,[],.nil,IsTup.new _ _⟩),rfl,q _ (I.hok.fresh (uQ _))⟩
theorem Zi6:OpR X (binaryOp .Mult) (Zb5 X.K):=by
 intro pins s σ H x y v u Q I rx ry h;obtain ⟨a,xs,rfl,rfl,hq,q⟩:=h;cases rx;obtain ⟨t,rfl⟩:=ry;obtain ⟨its,rv,p,hz⟩:=I.tuple hq;obtain ⟨o,ho,hc,n,hd⟩:=p;obtain ⟨oc,od,odd,osl⟩:=o;have hc':oc=.type "tuple":=hc;have hd':odd=.seq its.toArray n:=hd;subst hc' hd';refine wpAny_binaryOp_repeat_ref (T:="tuple") (U:="int") (by decide) ⟨_,ho,rfl⟩ (λs'=>typeIs_int s' 1 t) rY xA wa rf PySem.F.slot_int_index.lookup ?_
 refine call_meets wa (typeIs_int s 1 t) xx (xp _ _) (re 1 t a its.toArray n od osl) ⟨ho,rfl,⟨_,ho,rfl⟩,?_⟩;refine call_meets xw ⟨_,ho,rfl⟩ xo (xk _ _) (ZjE t a its.toArray n od osl) ⟨ho,?_⟩;exact ⟨.ref a,H,I,rfl,q⟩
noncomputable def Zb4 (K:ym):R2:=λx y H Q=>rj K x y H Q\/Zb6 K x y H Q\/Zb5 K x y H Q
theorem ZcR:OpR X (binaryOp .Mult) (Zb4 X.K):=ZcQ.or (Zi7.or Zi6)
noncomputable def gF:yv
 | .tuple xs,.int n=>if (decide (-1000<=n) && decide (n<=1000) && !xs.isEmpty && decide (xs.length<=1000))=true then some (.tuple (List.replicate n.toNat xs).flatten) else none
 | _,_=>none
theorem Zai {K:ym}:cA (Zb4 K) gF:=λPK pa m G H x y dx dy dz Q w hx hy hz k=>by
 unfold gF at hz
 split at hz
 ·rename_i xs n
  split at hz
  ·rename_i hc;simp only [vm,decide_eq_true_eq,wz] at hc;cases hz; cases hy;cases hx with
   | tup a1 a2 =>
    have hne:∀ vs:yB,DnAll G vs xs->vs≠[]:=λvs a2 e=>by
     have:=hc.1.2;rw [<- a2.isEmpty,e] at this;cases this
    by_cases h1:1 < n
    ·exact .inl ⟨_,_,_,rfl,rfl,SqT.of (w.sub _ _ a1),h1,hc.1.1.2,hne _ a2,by rw [a2.length]; exact hc.2,λp hp=>k.tup w (a2.rep _) hp⟩
    ·by_cases h0:n<=0
     ·refine .inr (.inl ⟨_,_,_,rfl,rfl,SqT.of (w.sub _ _ a1),h0,hc.1.1.1,hne _ a2,λp hp=>?_⟩);have e:(List.replicate n.toNat xs).flatten=[]:=by rw [show n.toNat=0 by omega]; rfl
      rw [e] at k;exact k.tup w .nil hp
     ·have e1:n=1:=by omega
      subst e1;refine .inr (.inr ⟨_,_,rfl,rfl,SqT.of (w.sub _ _ a1),?_⟩);have e:(List.replicate (1:Int).toNat xs).flatten=xs:=by simp
      rw [e] at k;exact k.here w (.tup a1 a2)
  ·cases hz
 ·cases hz
section
variable {ρ:yD} {is:yo} {n:Nat} {i:yn} {p:yp} {xs:yx} {x:PyData}
theorem Zd2 {m:Int} (h:(decide (-1000<=m) && decide (m<=1000) && !xs.isEmpty && decide (xs.length<=1000))=true):aT gF (.tuple xs) (.int m)=.ret (.tuple (List.replicate m.toNat xs).flatten):=by
 simp only [aT,gF,h,if_true]
 rfl
noncomputable def l6 (g:yu) (p:yp) (el:yn) (τ:yD) (x:PyData):Tr (Option PyData):=(Tr.of (g x τ)).bind (kA p el)
noncomputable def sw (n:Nat) (ix:List Nat) (g:yu) (p:yp) (el:yn) (ρ:yD) (xs:yx):Tr yx:=if small xs.length=true then fB (l6 g p el (blk n ix ρ)) xs else .fail
theorem Zmz {ix:List Nat} {g:yu}:pK is n ix g p i ρ=(is ρ).bind (sw n ix g p i ρ):=rfl
theorem ZmB {ix:List Nat} {g:yu} (h:small xs.length=true):sw n ix g p i ρ xs=fB (l6 g p i (blk n ix ρ)) xs:=by unfold sw; rw [if_pos h]
theorem ZmA {τ:yD} {g:yu}:l6 g p i τ x=(Tr.of (g x τ)).bind (kA p i):=rfl
noncomputable def sO (y:PyData):Tr (Option PyData):=.ret (some y)
noncomputable def sP (i:yn) (τ:yD) (b:Bool):Tr (Option PyData):=if b=true then (i τ).bind sO else .ret none
theorem ZmR {τ:yD}:kA p i τ=(p τ).bind (sP i τ):=rfl
theorem ZmT {τ:yD}:sP i τ true=(i τ).bind sO:=rfl
theorem ZmU {τ:yD}:sP i τ false=.ret none:=rfl
theorem ZmS:sO x=.ret (some x):=rfl
end
end
section
variable {PK:Pk} {X:Cx} {e:Expr} {as:List Sl->Tr yD}
noncomputable def slD:List Sl->Option yx
 | []=>some []
 | .d x::r=>(slD r).bind λxs=>some (x::xs)
 | _=>none
theorem ArsOk.slD {pa:Addr} {G:Hp} {vs:yB} {ss:yD} {ds:yx} (a:ArsOk pa G vs ss) (h:L2.slD ss=some ds):DnAll G vs ds:=by
 induction a generalizing ds with
 | nil=>cases h; exact .nil
 | cons h0 t ih =>
  cases h0 with
  | d h1 =>
   unfold L2.slD at h;cases e:L2.slD _ with
   | none=>rw [e] at h; cases h
   | some xs =>
    rw [e] at h;cases h;exact .cons h1 (ih e)
  | pen=>cases h
noncomputable def me (d:PyData):Tr PyData:=if sY d=true then .ret d else .fail
noncomputable def mH (f:List PyData->Option PyData) (as:List Sl->Tr yD):yn:=λρ=>(as ρ).bind λss=>(Tr.of ((slD ss).bind f)).bind me
theorem uq {r:List V->Hp->VK->Prop} {f:List PyData->Option PyData} (L:PkLow PK) (h:PE X e (fq r (TAb PK as))) (hv:dR r f):PE X e (TAe PK (mH f as)):=h.imp λσ H Q hz0=>by
 obtain ⟨pa,yE,H₀,m,ρ,G,R,z⟩:=hz0;refine TAb.then R z λm1 ss vs G1 H1 s1 w1 R1 d1 q1=>?_;obtain ⟨d,hd,q1⟩:=Tr.ok_of (Tr.ok_bind.mp q1);obtain ⟨G2,s2,w2,d2⟩:=ArsB.ok (λ_ _ h=>h) w1 d1;cases e:slD ss with
 | none=>rw [e] at hd; cases hd
 | some ds =>
  rw [e] at hd;unfold me at q1;obtain ⟨hf,k⟩:=eY (c:=sY d) q1;refine hv PK pa m1 G2 H1 vs ds d Q w2 (ArsOk.slD d2 e) hd ?_;intro v G3 H3 s3 w3 d3;have s13:Stp pa G1 H1 G1 H3:=⟨λ_ _ h=>h,λ_ _ h=>.inl h,s3.hk⟩;obtain ⟨o1,e1,p1⟩:=w1.pen;obtain ⟨o3,e3,p3⟩:=w3.pen;have w13:Wd PK pa m1 G1 H3:=⟨λb o h=>s3.hk b o (w1.sub b o h) (λz=>by subst z; rw [w1.gpa] at h; cases h),w1.gpa,o3,e3,L.low p1 (s2.trans s3.gs) p3⟩
  exact k v G1 H3 (s1.trans s13 w1.some) w13 (Dn.flat_any d3 hf)
end
section
variable {ρ:yD} {as:List Sl->Tr yD} {f:List PyData->Option PyData} {x:PyData} {xs:yx} {i j:yn} {k:Nat} {p:yp} {s:yq}
noncomputable def ZeS (f:List PyData->Option PyData) (ss:yD):Tr PyData:=(Tr.of ((slD ss).bind f)).bind me
theorem Znn:mH f as ρ=(as ρ).bind (ZeS f):=rfl
theorem Znm:ZeS f [.d x]=(ce f [x]).bind me:=rfl
theorem Zm2 (n:Int):me (.int n)=.ret (.int n):=rfl
noncomputable def k9 (k:Nat) (ρ:yD) (x:PyData) (xs:yx):PyData->Tr Ou
 | .int y=>(Tr.of (cT xs.length y)).bind λt=>.ret (.next (ρ.set k (.own (xs.set t x))))
 | _=>.fail
noncomputable def qE (k:Nat) (n:yn) (ρ:yD) (x:PyData) (xs:yx):Tr Ou:=(n ρ).bind (k9 k ρ x xs)
noncomputable def qF (k:Nat) (n:yn) (ρ:yD) (x:PyData):Tr Ou:=(gJ k ρ).bind (qE k n ρ x)
theorem ZlB:kM k j i ρ=(i ρ).bind (qF k j ρ):=by
 unfold kM;refine congrArg (Tr.bind (i ρ)) (funext λx=>?_);rw [qF,<- nM k ρ];cases ρ[k]? with
 | none=>rfl
 | some sl =>
  cases sl with
  | own xs =>
   show ((j ρ).bind _:Tr Ou)=(j ρ).bind (k9 k ρ x xs);refine congrArg (Tr.bind (j ρ)) (funext λy=>?_);cases y <;> rfl
  | _=>rfl
theorem ZlA {n:yn}:qF k n ρ x=(gJ k ρ).bind (qE k n ρ x):=rfl
theorem Zlz {n:yn}:qE k n ρ x xs=(n ρ).bind (k9 k ρ x xs):=rfl
theorem tm {y:Int} {t:Nat} (h:cT xs.length y=some t):k9 k ρ x xs (.int y)=.ret (.next (ρ.set k (.own (xs.set t x)))):=by
 simp only [k9,h]
 rfl
end
end L2
namespace L2
open AutoSeq1 (wpAny_loadPart')
noncomputable def kS (hi:Int) (n:Nat):It:=⟨λi _=>i < n,λi H x H'=>H'=H/\x=.int (hi - i),λi _=>n<=i⟩
theorem Zgi {P:Program} {w:World} {K:ym} {tg:Expr} (it:Addr) (hi:Int) (n:Nat):Turn P w K tg (kS hi n) [it] it (λi h=>IsRangeIter h it (hi+(i:Nat) * (-1)) ((n:Int) - (i:Nat)) (-1)) where
 mem:=by simp
 obj:=λi h st b hb=>by
  have e:b=it:=by simpa using hb
  subst e;exact ⟨_,st,λv z=>by
   have z':Data.fields _=Data.cell v:=z;cases z'⟩
 keep:=λi h h' st k=>k it (by simp) _ st
 item:=by
  intro X hP hw hK hc i pins s σ H E I hf st hg;subst hP hw hK;obtain ⟨f0,f1,f2,f3,f4,f5⟩:=hf it (by simp)
  have W:=Walks.range (prog:=X.prog) (w:=X.w) (I.ok.hd hc) it hi (-1) n;refine W.item i s _ _ hg st λv h' tk hv st' kk=>?_;obtain ⟨t,rfl⟩:=hv;have I1:Inv X pins σ H { s with heap:=h',toks:=tk }:=I.turned (λb o hb e=>kk b o (by simpa using hb) e) f0 f1 f3 f4 f5
  refine ⟨_,rfl,md (s:={ s with heap:=h',toks:=tk }) (n:="range_iterator") st' rfl rfl (by decide) ⟨.int (hi - i),H,I1,⟨t,?_⟩,⟨rfl,rfl⟩,st',λb hb=>(hf b hb).1⟩⟩
  have e:hi+(i:Int) * -1=hi - i:=by omega
  rw [e]
 done:=by
  intro X hP hw hK hc i pins s σ H E I hf st hg;subst hP hw hK;obtain ⟨f0,f1,f2,f3,f4,f5⟩:=hf it (by simp)
  exact wpAny_pyNext_range_end (I.ok.hd hc) st (by have:n<=i:=hg; omega) λh' eb=>⟨rfl,I.turned (t':=s.toks) (λb o hb e=>eb b o hb e) f0 f1 f3 f4 f5⟩
 self:=λ_ _ _ _ _ st h=>wpAny_pyIter_rangeiter st h
theorem ZjR (r:Addr) (a b c:Int) (t u v:Tok) (hs:¬ (!(Builtin.Range.rangeFitsLong a && Builtin.Range.rangeFitsLong b && Builtin.Range.rangeFitsLong c && Builtin.Range.rangeFitsLong (-c) && Builtin.Range.rangeFitsLong (a - c) && Builtin.Range.rangeFitsLong (Builtin.Range.rangeSize a b c)))=true) :
  Meets (Builtin.«range.__reversed__» ⟨[.ref r],[]⟩) (λ_ R s=>s.heap.get? r=some { cls:=.type "range",dict:=none,data:=.fields #[.int a t,.int b u,.int c v],slots:=#[] } /\
   R (.ok (.ret (.ref s.heap.objs.size))) { s with heap:=s.heap.push { cls:=.type "range_iterator",data:=.fields #[rawInt (a+(Builtin.Range.rangeSize a b c - 1) * c),rawInt (Builtin.Range.rangeSize a b c),rawInt (-c)] },toks:=s.toks }) :=
 .of_wp λprog w A R s h=>by
  obtain ⟨hp,g,d,tk,os⟩:=s;obtain ⟨hl,h⟩:=h;have hs':=hs;rw [wz,Bool.not_eq_false] at hs'
  wp_walk
  rw [if_pos hs'];exact ⟨_,rfl,h⟩
theorem kE {n:Int} (h1:-(2 ^ 63)<=n) (h2:n < 2 ^ 63):Builtin.Range.rangeFitsLong n=true:=by
 unfold Builtin.Range.rangeFitsLong;simp;omega
section
variable {prog:Program} {w:World} {A:Around} {E:yw} {s:Shared}
theorem Zo3 {r:Addr} {a b:Int} {t u v:Tok} {Q₁:yw} (hr:IsRange s.heap r a b 1 t u v) (ha:-(2 ^ 62)<=a) (ha':a < 2 ^ 62) (hb:-(2 ^ 62)<=b) (hb':b < 2 ^ 62)
  (h:Q₁ (.ref s.heap.objs.size) { s with heap:=s.heap.push { cls:=.type "range_iterator",data:=.fields #[rawInt (a+(Builtin.Range.rangeSize a b 1 - 1) * 1),rawInt (Builtin.Range.rangeSize a b 1),rawInt (-1)] } }) :
  codeAny (model prog w) A (.call (.builtin "reversed.__new__") ⟨[.type "reversed",.ref r],[]⟩) (wants Q₁ E) s:=by
 have hT:s.TypeIs (.ref r) "range":=⟨_,hr,rfl⟩;refine codeAny_of_tree ?_;show wpAny _ A.in1 (do checkBuiltinCall "reversed.__new__" ⟨[.type "reversed",.ref r],[]⟩; again (.builtin "reversed.__new__" ⟨[.type "reversed",.ref r],[]⟩)) _ _ s
 refine wpAny_bind (wpAny_of_eq (F.newCall_reversed_1 _) (wpAny_pure ⟨plainId_quiet F.plain_reversed_new _,codeAny_builtin F.entry_reversed_new ?_⟩));rw [v8 F.plain_reversed_new _];unfold Builtin.«reversed.__new__»;refine wpAny_bind (wpAny_of_eq (newClass_reversed _) ?_)
 try dsimp only
 refine wpAny_bind (wpAny_of_eq (a:=()) (by first | rfl | kernel_rfl) ?_)
 refine wpAny_bind (wpAny_of_eq (a:=()) (by first | rfl | kernel_rfl) ?_)
 try dsimp only
 refine wpAny_bind (wpAny_specialOf hT F.slot_range_reversed.lookup ?_)
 try dsimp only
 refine wpAny_bind (wpAny_of_eq (F.slot_range_reversed.bind _) ?_)
 try dsimp only
 first
 | rw [if_neg (show ¬ ((Value.builtin "range.__reversed__" == Value.none)=true) from u3)]
 | (show wpAny _ _ (if (Value.builtin "range.__reversed__" == Value.none)=true then _ else _) _ _ _; rw [if_neg (show ¬ ((Value.builtin "range.__reversed__" == Value.none)=true) from u3)])
 refine wpAny_bind (wpAny_rule ?_);have hsz:Builtin.Range.rangeSize a b 1=if a < b then b - a else 0:=rangeSize_one a b
 refine wpAny_bind (m:=runValue (.call (.builtin "range.__reversed__") ⟨[.ref r],[]⟩)) (show wpAny _ _ (call (.builtin "range.__reversed__") [.ref r]) _ _ _ from
  call_meets F.slot_range_reversed hT F.entry_range_reversed (F.args_range_reversed_1 _) (ZjR r a b 1 t u v ?_) ⟨hr,?_⟩)
 ·rw [wz,Bool.not_eq_false,kE (by omega) (by omega),kE (by omega) (by omega),kE (by decide) (by decide),kE (by decide) (by decide),kE (n:=a - 1) (by omega) (by omega),kE (n:=Builtin.Range.rangeSize a b 1) (by rw [hsz]; split <;> omega) (by rw [hsz]; split <;> omega)]
  rfl
 ·first
  | exact wpAny_pure h
  | exact wpAny_bind (wpAny_pure (wpAny_pure h))
theorem Zg4:isSubtype (.type "range_iterator") (.type "reversed")=pure false:=by rw [isSubtype_type]; kernel_rfl
theorem Zpd {r:Addr} {a b:Int} {t u v:Tok} {Q:yw} (hr:IsRange s.heap r a b 1 t u v) (ha:-(2 ^ 62)<=a) (ha':a < 2 ^ 62) (hb:-(2 ^ 62)<=b) (hb':b < 2 ^ 62)
  (h:Q (.ref s.heap.objs.size) { s with heap:=s.heap.push { cls:=.type "range_iterator",data:=.fields #[rawInt (a+(Builtin.Range.rangeSize a b 1 - 1) * 1),rawInt (Builtin.Range.rangeSize a b 1),rawInt (-1)] } }):wpAny (model prog w) A (call (.type "reversed") [.ref r]) Q E s:=by
 refine callType_other (U:="range_iterator") (Q₁:=λobj s₁=>obj=.ref s.heap.objs.size/\s₁={ s with heap:=s.heap.push { cls:=.type "range_iterator",data:=.fields #[rawInt (a+(Builtin.Range.rangeSize a b 1 - 1) * 1),rawInt (Builtin.Range.rangeSize a b 1),rawInt (-1)] } }) (by trivial) F.create_reversed ⟨_,_,F.mro_reversed⟩ F.made_reversed Zg4 (F.typeCall_reversed_1 _) (Zo3 hr ha ha' hb hb' ⟨rfl,rfl⟩) ?_
 rintro obj s₁ ⟨rfl,rfl⟩;exact ⟨⟨_,uS _ rfl,rfl⟩,h⟩
end
theorem ZcP:Manifest.owners.lookup (String.ofList ['d','e','s','r','e','v','e','r'].reverse)=some Manifest.sig_reversed:=by kernel_rfl
theorem Zha:Slot "reversed" "__init__" "object.__init__" :=
 .of (owner:="object") (n:="__init__") (by rw [typeLookup_type,builtinLookup_eq_fast]; kernel_rfl) (by trivial) (by trivial) (by trivial)
  (by first | exact .inl (by trivial) | exact .inr (by trivial)) (by rw [isSubtype_type]; kernel_rfl)
theorem k7:Slot "reversed" "__next__" "reversed.__next__" :=
 .of (owner:="reversed") (n:="__next__") (by rw [typeLookup_type,builtinLookup_eq_fast]; kernel_rfl) (by trivial) (by trivial) (by trivial)
  (by first | exact .inl (by trivial) | exact .inr (by trivial)) (by rw [isSubtype_type]; kernel_rfl)
theorem Zei:entryFor table "reversed.__next__"=some Builtin.«reversed.__next__»:=entryFor_of_tree (by kernel_rfl)
theorem Zfu (a:Value):argsOk "reversed.__next__" ⟨[a],[]⟩:=by
 unfold argsOk; rw [signature?_of (id:="reversed.__next__") (n:=['_','_','t','x','e','n','_','_']) (o:=['d','e','s','r','e','v','e','r']) (by kernel_rfl) ZcP]; kernel_rfl
theorem ZaY:Slot "reversed" "__iter__" "reversed.__iter__" :=
 .of (owner:="reversed") (n:="__iter__") (by rw [typeLookup_type,builtinLookup_eq_fast]; kernel_rfl) (by trivial) (by trivial) (by trivial)
  (by first | exact .inl (by trivial) | exact .inr (by trivial)) (by rw [isSubtype_type]; kernel_rfl)
theorem ZpZ (a:Value):argsOk "reversed.__iter__" ⟨[a],[]⟩:=by
 unfold argsOk; rw [signature?_of (id:="reversed.__iter__") (n:=['_','_','r','e','t','i','_','_']) (o:=['d','e','s','r','e','v','e','r']) (by kernel_rfl) ZcP]; kernel_rfl
theorem ZnY:entryFor table "reversed.__iter__"=some Builtin.«dict_keyiterator.__iter__» :=
 entryFor_alias (id':="dict_keyiterator.__iter__") (by kernel_rfl) (by first | rfl | decide +kernel | (unfold String.splitOn; simp +decide [String.splitOnAux])) (by trivial) (by kernel_rfl)
theorem Zo9:TypeCalled "reversed" "reversed.__new__" "object.__init__" :=
 ⟨by trivial,by trivial,⟨_,_,F.mro_reversed⟩,F.made_reversed,by trivial,by rw [isSubtype_type]; kernel_rfl,Zha⟩
theorem Zju:typeLookup (.type "tuple") "__reversed__"=pure none:=by rw [typeLookup_type,builtinLookup_eq_fast]; kernel_rfl
theorem ZjQ (l:Addr) (items:Array Value) (hfit:(items.size:Int) < 2 ^ 63) :
  Meets (Builtin.«reversed.__new__» ⟨[.type "reversed",.ref l],[]⟩) (λ_ R s=>IsTup s.heap l items /\
   R (.ok (.ret (.ref s.heap.objs.size))) { s with heap:=s.heap.push { cls:=.type "reversed",data:=.fields #[.ref l,rawInt ((items.size:Int) - 1)] },toks:=s.toks+1+1 }) :=
 .of_wp λprog w A R s h=>by
  obtain ⟨hp,g,d,tk,os⟩:=s;obtain ⟨hl,h⟩:=h;have hl':(Shared.mk hp g d tk os).heap.IsTuple l items:=hl;unfold Builtin.«reversed.__new__»;refine wpAny_bind (wpAny_of_eq (newClass_reversed _) ?_)
  try dsimp only
  refine wpAny_bind (wpAny_of_eq (a:=()) (by first | rfl | kernel_rfl) ?_)
  refine wpAny_bind (wpAny_of_eq (a:=()) (by first | rfl | kernel_rfl) ?_)
  try dsimp only
  refine wpAny_bind (wpAny_specialOf hl'.typeIs Zju ?_)
  try dsimp only
  refine wpAny_bind ?_;show wpAny _ _ (isInstance (Value.ref l) (.type "dict") >>= _) _ _ _;refine wpAny_bind (wpAny_isInstance (T:="tuple") (b:=false) hl'.typeIs (by rw [isSubtype_type]; kernel_rfl) ?_)
  show wpAny _ _ (specialOf (Value.ref l) "__getitem__" >>= _) _ _ _;refine wpAny_bind (wpAny_specialOf hl'.typeIs F.slot_tuple_getitem.lookup ?_);refine wpAny_pure ?_;show wpAny _ _ (call (Value.builtin "len") [Value.ref l] >>= _) _ _ _;refine wpAny_bind (len_tuple hl hfit ?_);refine wpAny_bind (wpAny_of_eq (a:=some (items.size:Int)) rfl ?_);show wpAny _ _ (newObj (.type "reversed") (.fields #[.ref l,rawInt ((items.size:Int) - 1)]) >>= _) _ _ _;refine wpAny_bind (wpAny_newObj_type ?_);exact wpAny_pure ⟨_,rfl,h⟩
def IsTRev (h:Heap) (a l:Addr) (i:Int):Prop:=∃ o,h.get? a=some o/\o.cls=.type "reversed"/\o.data=.fields #[.ref l,rawInt i]
theorem IsTRev.at {h h':Heap} {a l:Addr} {i:Int} (x:IsTRev h a l i) (e:∀ o,h.get? a=some o->h'.get? a=some o):IsTRev h' a l i:=let ⟨o,ho,r⟩:=x; ⟨o,e _ ho,r⟩
section
variable {prog:Program} {w:World} {A:Around} {E:yw} {s:Shared}
theorem Zpc {l:Addr} {items:Array Value} {Q:yw} (hl:IsTup s.heap l items) (hfit:(items.size:Int) < 2 ^ 63)
  (h:Q (.ref s.heap.objs.size) { s with heap:=s.heap.push { cls:=.type "reversed",data:=.fields #[.ref l,rawInt ((items.size:Int) - 1)] },toks:=s.toks+1+1 }) :
  wpAny (model prog w) A (call (.type "reversed") [.ref l]) Q E s :=
 callType_new Zo9 (by decide) (F.typeCall_reversed_1 _) (F.newCall_reversed_1 _) (λobj=>xR obj _) F.entry_reversed_new (ZjQ l items hfit) ⟨hl,⟨_,uS _ rfl,rfl⟩,h⟩
theorem Zij {it l:Addr} {i:Nat} {items:Array Value} {x:Value} {Q:Option Value->Shared->Prop} (hit:IsTRev s.heap it l (i:Int)) (hl:IsTup s.heap l items) (hne:l≠it) (hx:items[i]?=some x) (hfit:(items.size:Int) < 2 ^ 63)
  (hQ:∀ h',IsTRev h' it l ((i:Int) - 1)->Heap.SameBut it s.heap h'->Q (some x) { s with heap:=h',toks:=s.toks+1 }):wpAny (model prog w) A (pyNext (.ref it)) Q E s:=by
 obtain ⟨o,ho,hc,hd⟩:=id hit;have hT:s.TypeIs (.ref it) "reversed":=⟨o,ho,hc⟩;have hl':s.heap.IsTuple l items:=hl;have hlt:i < items.size:=(ya.mp hx).1;unfold pyNext;refine wpAny_bind (wpAny_attempt (wpAny_callSpecial?_slot (name:=Str.ofString "__next__") hT k7
  (wpAny_call_entry k7 hT Zei ?_ (Zfu _))))
 unfold Builtin.«reversed.__next__»;refine wpAny_bind (wpAny_of_eq (a:=(Value.ref it,[])) rfl ?_)
 try dsimp only
 refine wpAny_bind (wpAny_field ho hd (x:=.ref l) rfl ?_);refine wpAny_bind (wpAny_field ho hd (x:=rawInt (i:Int)) rfl ?_);show wpAny _ _ (if (i:Int) < 0 then _ else _) _ _ s
 rw [if_neg (by omega)]
 refine wpAny_bind (wpAny_specialOf hl'.typeIs F.slot_tuple_getitem.lookup ?_);show wpAny _ _ (mkInt (i:Int) >>= _) _ _ s;refine wpAny_bind (wpAny_mkInt ?_);refine wpAny_bind (wpAny_attempt (getItem_tuple (j:=i) (x:=x) hl (by omega) (by omega) ?_ hx ?_))
 ·unfold seqIndex?;simp;omega
 ·dsimp only;refine wpAny_bind (wpAny_field ho hd (x:=rawInt (i:Int)) rfl ?_);show wpAny _ _ (setField (.ref it) 1 (rawInt ((i:Int) - 1)) >>= _) _ _ _;refine wpAny_bind (wpAny_setField ho hd (by simp) ?_)
  refine wpAny_pure ⟨x,rfl,wpAny_pure (hQ _ ?_ (wR ..))⟩;exact ⟨_,wo _ ho (xM (wA hd _)),(Obj.cls_mapFields ..).trans hc,by
   rw [wA hd]; simp⟩
theorem Zik {it l:Addr} {Q:Option Value->Shared->Prop} (hh:A.handled=none) (hit:IsTRev s.heap it l (-1))
  (hQ:∀ h',Heap.ExtBut it s.heap h'->Q none { s with heap:=h' }):wpAny (model prog w) A (pyNext (.ref it)) Q E s:=by
 obtain ⟨o,ho,hc,hd⟩:=id hit;have hT:s.TypeIs (.ref it) "reversed":=⟨o,ho,hc⟩;unfold pyNext;refine wpAny_bind (wpAny_attempt (wpAny_callSpecial?_slot (name:=Str.ofString "__next__") hT k7
  (wpAny_call_entry k7 hT Zei ?_ (Zfu _))))
 unfold Builtin.«reversed.__next__»;refine wpAny_bind (wpAny_of_eq (a:=(Value.ref it,[])) rfl ?_)
 try dsimp only
 refine wpAny_bind (wpAny_field ho hd (x:=.ref l) rfl ?_);refine wpAny_bind (wpAny_field ho hd (x:=rawInt (-1)) rfl ?_);show wpAny _ _ (if (-1:Int) < 0 then _ else _) _ _ s
 rw [if_pos (by decide)]
 refine wpAny_bind (wpAny_rule ?_);refine wpAny_bind ?_;show wpAny _ _ (setField (.ref it) 1 (rawInt (-1)) >>= _) _ _ _;refine wpAny_bind (wpAny_setField ho hd (by simp) ?_)
 have ho2:=wo (Obj.mapFields λx_1=>x_1.setIfInBounds 1 (rawInt (-1))) ho (xM (wA hd _));refine wpAny_setField ho2 (wA hd _) (by simp) ?_
 have eb:Heap.ExtBut it s.heap ((s.heap.update it (Obj.mapFields λx_1=>x_1.setIfInBounds 1 (rawInt (-1)))).update it (Obj.mapFields λx_1=>x_1.setIfInBounds 0 Value.none)):=λb o' hb e=>(wR _ _ _).extBut b o' hb ((wR _ _ _).extBut b o' hb e);show wpAny _ _ (newExc (.type "StopIteration") [] >>= _ >>= _) _ _ _;refine wpAny_bind ?_;refine wpAny_bind ?_;simp only [newExc,newTuple];refine wpAny_bind (wpAny_newObj_type ?_ (by size_fits))
 refine wpAny_bind (m:=firstArgMember _ _) (wpAny_of_eq (a:=Value.none) (by first | rfl | (simp only [firstArgMember]; rfl)) ?_)
 refine wpAny_newObj_type ?_ (by size_fits)
 simp only [raiseNew];refine wpAny_bind (wpAny_handled ?_)
 first | rw [show A.in1.handled=none from hh] | rw [hh]
 refine wpAny_bind (wpAny_pure (wpAny_throw ?_));refine wpAny_bind (wpAny_isInstance (T:="StopIteration") (b:=true) ⟨_,uS _ rfl,rfl⟩ isSubtype_stop ?_);exact wpAny_pure (hQ _ ((eb.push _).push _))
theorem Zco {it l:Addr} {i:Int} {Q:yw} (hit:IsTRev s.heap it l i) (h:Q (.ref it) s):wpAny (model prog w) A (pyIter (.ref it)) Q E s:=by
 obtain ⟨o,ho,hc,hd⟩:=id hit;have hT:s.TypeIs (.ref it) "reversed":=⟨o,ho,hc⟩;refine wpAny_pyIter_slot hT ZaY (wpAny_call_entry ZaY hT ZnY ?_ (ZpZ _));show wpAny _ _ (ret (.ref it)) _ _ s;exact wpAny_pure ⟨_,rfl,"reversed",_,hT,k7.lookup,h⟩
end
noncomputable def mS (b:Bool) (l:Addr) (n:Nat):It :=
 ⟨λi H=>i < n/\∃ xs,H l=some (bd b xs)/\xs.length=n,λi H x H'=>H'=H/\∃ xs,H l=some (bd b xs)/\xs[n - 1 - i]?=some x,λi _=>i=n⟩
def RvAt (b:Bool) (h:Heap) (it l:Addr) (i:Int):Prop:=match b with
 | true=>h.IsRevIter it l i
 | false=>IsTRev h it l i
theorem RvAt.there {b:Bool} {h:Heap} {it l:Addr} {i:Int} (x:RvAt b h it l i):∃ o n vs,h.get? it=some o/\o.cls=.type n/\o.data=.fields vs/\["enumerate","zip","dict_itemiterator","dict_reverseitemiterator","odict_iterator","itertools.zip_longest","itertools.pairwise"].contains n=false:=by
 cases b with
 | true=>obtain ⟨o,h1,h2,h3⟩:=x; exact ⟨o,_,_,h1,h2,h3,by decide⟩
 | false=>obtain ⟨o,h1,h2,h3⟩:=x; exact ⟨o,_,_,h1,h2,h3,by decide⟩
theorem RvAt.at {b:Bool} {h h':Heap} {it l:Addr} {i:Int} (x:RvAt b h it l i) (e:∀ o,h.get? it=some o->h'.get? it=some o):RvAt b h' it l i:=by
 cases b with
 | true=>exact Heap.IsRevIter.at x e
 | false=>exact IsTRev.at x e
theorem Zas {P:Program} {w:World} {K:ym} {tg:Expr} {b:Bool} {l:Addr} {n:Nat} (it:Addr) (hn:(n:Int) < 2 ^ 63):Turn P w K tg (mS b l n) [it] it (λi h=>RvAt b h it l ((n:Int) - 1 - (i:Nat))) where
 mem:=by simp
 obj:=λi h st c hb=>by
  have e:c=it:=by simpa using hb
  subst e;obtain ⟨o,_,_,h1,_,h3,_⟩:=st.there;exact ⟨o,h1,λv z=>by rw [h3] at z; cases z⟩
 keep:=λi h h' st k=>st.at λo e=>k it (by simp) o e
 item:=by
  intro X hP hw hK hc i pins s σ H E I hf st hg;subst hP hw hK;obtain ⟨hi,xs,e1,hlen⟩:=hg;obtain ⟨us,r1,q1⟩:=dm I.hok e1;obtain ⟨f0,f1,f2,f3,f4,f5⟩:=hf it (by simp)
  have hxl:n - 1 - i < xs.length:=by omega
  have hx:xs[n - 1 - i]?=some xs[n - 1 - i]:=vd hxl;obtain ⟨u,hu,ru⟩:=r1.get hx;have ne:l≠it:=bS e1 f0;have ei:(n:Int) - 1 - (i:Nat)=((n - 1 - i:Nat):Int):=by omega
  have ei2:((n - 1 - i:Nat):Int) - 1=(n:Int) - 1 - ((i+1:Nat):Int):=by omega
  rw [ei] at st;have usz:us.toArray.size=n:=by rw [uW,<- r1.length]; exact hlen
  have fin:∀ (h':Heap) (tk:Nat),RvAt b h' it l ((n:Int) - 1 - ((i+1:Nat):Int))->Heap.SameBut it s.heap h'->∃ u',some u=some u'/\wpAny (model X.prog X.w) X.A (letOwnedTupleGo tg (.ref it) u') (λ_ s2=>∃ x H',Inv X pins σ H' s2/\RelV x u'/\(mS b l n).yld i H x H'/\RvAt b s2.heap it l ((n:Int) - 1 - ((i+1:Nat):Int))/\∀ b∈[it],H' b=none) E { s with heap:=h',toks:=tk }:=λh' tk st' sb=>by
   have I1:Inv X pins σ H { s with heap:=h',toks:=tk }:=I.turned (λb o hb e=>(sb.2 b hb).trans e) f0 f1 f3 f4 f5;obtain ⟨o,nm,vs,g1,g2,g3,g4⟩:=st'.there;exact ⟨u,rfl,md (s:={ s with heap:=h',toks:=tk }) g1 g2 g3 g4 ⟨_,H,I1,ru,⟨rfl,xs,e1,hx⟩,st',λb hb=>(hf b hb).1⟩⟩
  cases b with
  | true =>
   refine wpAny_pyNext_rev_item (i:=n - 1 - i) st q1 (x:=u) (by simpa using hu) λh' st' sb=>?_
   rw [ei2] at st';exact fin h' s.toks st' sb
  | false =>
   refine Zij (i:=n - 1 - i) st q1 ne (x:=u) (by simpa using hu) (by rw [usz]; exact hn) λh' st' sb=>?_
   rw [ei2] at st';exact fin h' (s.toks+1) st' sb
 done:=by
  intro X hP hw hK hc i pins s σ H E I hf st hg;subst hP hw hK;obtain ⟨f0,f1,f2,f3,f4,f5⟩:=hf it (by simp)
  have hi:i=n:=hg;subst hi;have e:(i:Int) - 1 - (i:Nat)=-1:=by omega
  rw [e] at st;cases b with
  | true=>exact wpAny_pyNext_rev_end (I.ok.hd hc) st λh' eb=>⟨rfl,I.turned (t':=s.toks) (λb o hb e=>eb b o hb e) f0 f1 f3 f4 f5⟩
  | false=>exact Zik (I.ok.hd hc) st λh' eb=>⟨rfl,I.turned (t':=s.toks) (λb o hb e=>eb b o hb e) f0 f1 f3 f4 f5⟩
 self:=λ_ _ _ _ _ st h=>by
  cases b with
  | true=>exact wpAny_pyIter_revIter st h
  | false=>exact Zco st h
section
variable {X:Cx} {tg:Expr} {PK:Pk} {a b:Expr} {i j:yn} {p pos:Pos}
def ZdN (ta:TE):TI:=λσ H R=>ta σ H λx H1=>(∃ b l xs,x=.ref l/\H1 l=some (bd b xs)/\R (mS b l xs.length) H1) \/
 (∃ l lo hi,x=.ref l/\H1 l=some (.rng lo hi)/\-(2 ^ 62)<=lo/\lo < 2 ^ 62/\-(2 ^ 62)<=hi/\hi < 2 ^ 62/\R (kS (lo+(hi - lo).toNat - 1) (hi - lo).toNat) H1)
theorem ZcA {ta:TE} (hg:Gl X "reversed") (hm:X.mg "reversed"=none) (ha:PE X a ta)
  (hs:starEach [a] X.env=[(false,eval a X.env)]:=by rfl):PI X tg (.Call (.Name "reversed" p) [a] [] pos) (ZdN ta):=by
 intro pins s σ H R I h;have hab:PA X [a] (eE ta bb):=aV ha bM (by rw [hs]; rfl)
 have h':eE ta bb σ H λvs H1=>∃ x,vs=[x]/\((∃ b l xs,x=.ref l/\H1 l=some (bd b xs)/\R (mS b l xs.length) H1) \/
   (∃ l lo hi,x=.ref l/\H1 l=some (.rng lo hi)/\-(2 ^ 62)<=lo/\lo < 2 ^ 62/\-(2 ^ 62)<=hi/\hi < 2 ^ 62/\R (kS (lo+(hi - lo).toNat - 1) (hi - lo).toNat) H1)):=by
  have h0:ta σ H λx H1=>(∃ b l xs,x=.ref l/\H1 l=some (bd b xs)/\R (mS b l xs.length) H1) \/
   (∃ l lo hi,x=.ref l/\H1 l=some (.rng lo hi)/\-(2 ^ 62)<=lo/\lo < 2 ^ 62/\-(2 ^ 62)<=hi/\hi < 2 ^ 62/\R (kS (lo+(hi - lo).toNat - 1) (hi - lo).toNat) H1):=h
  refine cast (congrArg (ta σ H) ?_) h0;funext x H1;apply propext;constructor
  ·exact λq=>⟨x,rfl,q⟩
  ·rintro ⟨y,e,q⟩;have e':x=y:=by simpa using e
   subst e';exact q
 refine Call_ (iC I hg hm boot_reversed (vS (thn (hab pos pins s σ H _ I h') λus s1 hz0=>?_) (by rw [hs]; rfl) rfl))
 obtain ⟨vs,H1,I1,r1,q1⟩:=hz0;obtain ⟨x,rfl,q1⟩:=q1;obtain ⟨u,rfl,ru⟩:=dS r1;have fp:∀ c∈[s1.heap.objs.size],fO X pins H1 c:=λc hb=>by
  have e:c=s1.heap.objs.size:=by simpa using hb
  subst e;exact I1.fpOk (uQ _) (I1.hok.fresh (uQ _))
 have hn:=iB;rcases q1 with ⟨b,l,xs,rfl,e1,q⟩ | ⟨l,lo,hi,rfl,e1,b1,b2,b3,b4,q⟩
 ·cases ru;obtain ⟨us,r2,q2⟩:=dm I1.hok e1;have usz:us.toArray.size=xs.length:=by rw [uW,<- r2.length]
  have hz:xs.length<=sizeLine:=by
   cases b with
   | true=>exact (I1.hok _ _ e1).1
   | false=>exact (I1.hok _ _ e1).1
  cases b with
  | true =>
   refine call_reversed_list q2 (wpAny_pyIter_revIter ⟨_,uS _ rfl,rfl,rfl⟩ ?_);refine ⟨_,_,_,_,H1,rfl,I1.kept (t':=s1.toks) λb o e=>uN _ e,Zas (b:=true) (l:=l) (n:=xs.length) s1.heap.objs.size (by omega),?_,fp,q⟩
   refine ⟨_,uS _ rfl,rfl,?_⟩;rw [usz];show Data.fields #[_,rawInt ((xs.length:Int) - 1)]=Data.fields #[_,rawInt ((xs.length:Int) - 1 - ((0:Nat):Int))];simp
  | false =>
   refine Zpc q2 (by rw [usz]; omega) (Zco ⟨_,uS _ rfl,rfl,rfl⟩ ?_)
   refine ⟨_,_,_,_,H1,rfl,I1.kept (t':=s1.toks+1+1) λb o e=>uN _ e,Zas (b:=false) (l:=l) (n:=xs.length) s1.heap.objs.size (by omega),?_,fp,q⟩
   refine ⟨_,uS _ rfl,rfl,?_⟩;rw [usz];show Data.fields #[_,rawInt ((xs.length:Int) - 1)]=Data.fields #[_,rawInt ((xs.length:Int) - 1 - ((0:Nat):Int))];simp
 ·cases ru;obtain ⟨t,u,v,e⟩:=I1.hok _ _ e1;have hsz:Builtin.Range.rangeSize lo hi 1=((hi - lo).toNat:Int):=by rw [rangeSize_one]; split <;> omega
  refine Zpd e b1 b2 b3 b4 (wpAny_pyIter_rangeiter (uS _ rfl) ?_);refine ⟨_,_,_,_,H1,rfl,I1.kept (t':=s1.toks) λb o e=>uN _ e,Zgi s1.heap.objs.size (lo+(hi - lo).toNat - 1) (hi - lo).toNat,?_,fp,q⟩;rw [hsz];have e1:lo+(((hi - lo).toNat:Int) - 1) * 1=lo+(hi - lo).toNat - 1+((0:Nat):Int) * (-1):=by simp; omega
  have e2:((hi - lo).toNat:Int)=((hi - lo).toNat:Int) - ((0:Nat):Int):=by simp
  rw [e1];show IsRangeIter _ _ _ (((hi - lo).toNat:Int) - ((0:Nat):Int)) (-1);rw [<- e2];exact uS _ rfl
end
end L2
namespace L2
section
variable {X:Cx} {tg:Expr} {PK:Pk} {e:Expr} {i j:yn} {is:yo} {p pos:Pos}
theorem ZkB {pa:Addr} {G:Hp} {lo:Int} {n:Nat}:jM PK pa (kS (lo+n - 1) n) G ((aL lo n).map PyData.int).reverse:=λm G2 H2 sb w=>by
 have hl:((aL lo n).map PyData.int).length=n:=by rw [uO,gG]
 refine ⟨λk x hx=>?_,by show n<=_; rw [wI,hl]; exact uQ _⟩
 have hk:k < n:=by
  have:=(uR.mp hx).1
  rwa [wI,hl] at this
 refine ⟨hk,λy H3 hz0=>?_⟩;obtain ⟨e1,e2⟩:=hz0;subst e1 e2;have:x=.int (lo+n - 1 - k):=by
  rw [xF (by rw [hl]; exact hk),hl] at hx
  unfold aL at hx;rw [vg,uT,u7 (by omega)] at hx
  cases hx;show PyData.int (lo+((n - 1 - k:Nat):Int))=_;congr 1;omega
 subst this;exact ⟨G2,.refl,w,.int _⟩
noncomputable def pH (is:yo):yo:=λρ=>(is ρ).bind λxs=>(Tr.of (jZ xs)).bind λys=>.ret ys.reverse
def ZgB (t:TA):TE:=fq (λxs H Q=>∃ i j:Int,xs=[.int i,.int j]/\∀ p,H p=none->Q (.ref p) (upd H p (.rng i j))) t
theorem ZfB {iter:Expr} (h:PI X tg iter (ZdN (ZgB (TAd PK is)))):PI X tg iter (fm PK (pH is)):=h.imp λσ H R0 hz0=>by
 obtain ⟨pa,yE,H₀,m,ρ,G,R,z⟩:=hz0;refine TAd.then R z λm1 xs vs G1 H1 s1 w1 R1 d1 q1=>?_;rw [Tr.ok_bind] at q1;obtain ⟨ys,hy,q1⟩:=Tr.ok_of q1;obtain ⟨k,n,e,⟨h1,h2,h3,h4⟩,rfl⟩:=ZbP d1 hy;refine ⟨k,n,e,λp hp=>?_⟩;obtain ⟨w2,s2⟩:=w1.own (o:=.rng k n) hp;refine .inr ⟨p,k,n,rfl,bq,h1,h2,h3,h4,?_⟩;exact q1 (kS (k+(n - k).toNat - 1) (n - k).toNat) G1 _ (s1.trans s2 w1.some) w2 ZkB
end
section
variable {X:Cx} {PK:Pk} {i n:yn}
end
section
variable {prog:Program} {w:World} {A:Around} {E:yw} {s:Shared}
end
section
variable {X:Cx} {PK:Pk} {e st:Expr} {te ts:TE} {i j:yn} {p2 pos:Pos}
end
abbrev iP (h0 h:Heap):Prop:=∀ c o,h0.get? c=some o->h.get? c=some o
noncomputable def ZfP (prog:Program) (w:World) (A:Around) (h0:Heap) (P:Nat->Value->Prop) (bt:Nat->Nat->Bool):Prop :=
 ∀ i j vi vj (s:Shared) (Q:yw) (E:yw),j < i->iP h0 s.heap->P i vi->P j vj->Q (.bool (bt i j)) s->wpAny (model prog w) A (richCompare .Lt vi vj) Q E s
theorem Zfv (bt:Nat->Nat->Bool):∀ j,argBest bt j<=j
 | 0=>uQ _
 | j+1=>by
  have:=Zfv bt j;unfold argBest
  split <;> omega
section
variable {prog:Program} {w:World} {A:Around} {R:Result->Shared->Prop} {I S:Addr} {fp wr:List Addr} {n:Nat} {P:Nat->Value->Prop} {St:Nat->Heap->Prop} {h0:Heap}
theorem oi:(toString "min"++toString ".loop":String)="min.loop":=by decide
theorem ZjM (W:Walks prog w A.in1 I fp wr n P St) (bt:Nat->Nat->Bool) (hcmp:ZfP prog w A.in1 h0 P bt) (hSf:S ∉ fp) (h0w:∀ c o,h0.get? c=some o->c ∉ wr/\c≠S) :
  ∀ (k j:Nat) (s:Shared) (vb:Value) (c:Nat),n - (j+1)=k->j+1<=n->iP h0 s.heap->St (j+1) s.heap->P (argBest bt j) vb ->
  s.heap.get? S=some { cls:=.type "list",data:=.seq #[vb,vb] c } ->
  (∀ v h' tk,P (argBest bt (n - 1)) v->(∀ b o,b ∉ wr->b≠S->s.heap.get? b=some o->h'.get? b=some o)->R (.ok (.ret v)) { s with heap:=h',toks:=tk }) ->
  codeAny (model prog w) A (.builtin "min.loop" ⟨[.ref I,.none,.ref S],[]⟩) R s:=by
 have hSw:S ∉ wr:=λh=>hSf (W.sub _ h);intro k
 induction k with
 | zero =>
  intro j s vb c hk hj kp hst hPb hS hR;have hin:j+1=n:=by omega
  refine codeAny_builtin yl (by
   rw [v8 wv _];show wpAny _ A.in1 (seqItems? (.ref S) >>= _) _ _ s;refine wpAny_bind (wpAny_seqItems hS rfl ?_);show wpAny _ A.in1 (tryCatch (pyNext (.ref I)) _ >>= _) _ _ s;refine wpAny_bind (wpAny_tryCatch (W.done s _ _ (hin ▸ hst) λh' tk hk'=>?_));have hS':=hk' S _ hSw hS;show wpAny _ A.in1 (updateSeq S (λ_=>#[]) >>= _) _ _ _;refine wpAny_bind (wpAny_updateSeq hS' rfl (wpAny_bind (wpAny_letGo (wpAny_pure ?_))));exact hR vb _ tk (by rw [<- hin]; exact hPb) λb o hbw hbS e=>(vN _ _ (Ne.symm hbS)).trans (hk' b o hbw e))
 | succ k ih =>
  intro j s vb c hk hj kp hst hPb hS hR;have hlt:j+1 < n:=by omega
  refine codeAny_builtin yl (by
   rw [v8 wv _];show wpAny _ A.in1 (seqItems? (.ref S) >>= _) _ _ s;refine wpAny_bind (wpAny_seqItems hS rfl ?_);show wpAny _ A.in1 (tryCatch (pyNext (.ref I)) _ >>= _) _ _ s;refine wpAny_bind (wpAny_tryCatch (W.item (j+1) s _ _ hlt hst λv h' tk hP hst' hk'=>?_));have hS':=hk' S _ hSw hS;have kp':iP h0 h':=λc o e=>hk' c o (h0w c o e).1 (kp c o e);show wpAny _ A.in1 (tryCatch (holding [v,v] (richCompare .Lt v vb >>= _)) _ >>= _) _ _ _;refine wpAny_bind (wpAny_tryCatch (wpAny_holding (wpAny_bind (hcmp (j+1) (argBest bt j) v vb _ _ _ (Nat.lt_succ_of_le (Zfv bt j)) kp' hP hPb (wpAny_bind (wpAny_holding (wpAny_truthy_bool (wpAny_bind (wpAny_letGo (wpAny_pure ?_))))))))));cases hb:bt (j+1) (argBest bt j) with
   | true =>
    simp only [if_true];refine wpAny_bind (wpAny_updateSeq hS' rfl (wpAny_bind (wpAny_letGo ?_)));rw [oi];refine wpAny_pure ⟨plainId_quiet wv _,ih (j+1) _ v _ (by omega) hlt (λc o e=>(vN _ _ (Ne.symm (h0w c o e).2)).trans (kp' c o e)) (W.frame _ _ _ hst' λb hbf o e=>?_) (by simp only [argBest,hb,if_true]; exact hP) (wo _ hS' rfl)
     λv' h'' tk'' hP' hk''=>hR v' h'' tk'' hP' λb o hbw hbS e=>hk'' b o hbw hbS ((vN _ _ (Ne.symm hbS)).trans (hk' b o hbw e))⟩
    exact (vN _ _ (λh:S=b=>hSf (by rw [h]; exact hbf))).trans e
   | false =>
    simp only [we,if_false];refine wpAny_bind (wpAny_letGo ?_);rw [oi];exact wpAny_pure ⟨plainId_quiet wv _,ih (j+1) _ vb c (by omega) hlt kp' hst' (by simp only [argBest,hb,we,if_false]; exact hPb) hS' λv' h'' tk'' hP' hk'' =>
     hR v' h'' tk'' hP' λb o hbw hbS e=>hk'' b o hbw hbS (hk' b o hbw e)⟩)
theorem ZjN (W:Walks prog w A.in1 I fp wr n P St) (bt:Nat->Nat->Bool) (hcmp:ZfP prog w A.in1 h0 P bt) (hSf:S ∉ fp) (h0w:∀ c o,h0.get? c=some o->c ∉ wr/\c≠S) (hn:0 < n) {s:Shared} {c:Nat} (kp:iP h0 s.heap) (hst:St 0 s.heap)
  (hS:s.heap.get? S=some { cls:=.type "list",data:=.seq #[] c })
  (hR:∀ v h' tk,P (argBest bt (n - 1)) v->(∀ b o,b ∉ wr->b≠S->s.heap.get? b=some o->h'.get? b=some o)->R (.ok (.ret v)) { s with heap:=h',toks:=tk }) :
  codeAny (model prog w) A (.builtin "min.loop" ⟨[.ref I,.none,.ref S],[]⟩) R s:=by
 have hSw:S ∉ wr:=λh=>hSf (W.sub _ h);refine codeAny_builtin yl (by
  rw [v8 wv _];show wpAny _ A.in1 (seqItems? (.ref S) >>= _) _ _ s;refine wpAny_bind (wpAny_seqItems hS rfl ?_);show wpAny _ A.in1 (tryCatch (pyNext (.ref I)) _ >>= _) _ _ s;refine wpAny_bind (wpAny_tryCatch (W.item 0 s _ _ hn hst λv h' tk hP hst' hk'=>?_));have hS':=hk' S _ hSw hS;have kp':iP h0 h':=λc o e=>hk' c o (h0w c o e).1 (kp c o e);show wpAny _ A.in1 (updateSeq S (λ_=>#[v,v]) >>= _) _ _ _;refine wpAny_bind (wpAny_updateSeq hS' rfl ?_);rw [oi];refine wpAny_pure ⟨plainId_quiet wv _,ZjM W bt hcmp hSf h0w _ 0 _ v _ rfl hn (λc o e=>(vN _ _ (Ne.symm (h0w c o e).2)).trans (kp' c o e)) (W.frame _ _ _ hst' λb hbf o e=>?_) hP (wo _ hS' rfl)
   λv' h'' tk'' hP' hk''=>hR v' h'' tk'' hP' λb o hbw hbS e=>hk'' b o hbw hbS ((vN _ _ (Ne.symm hbS)).trans (hk' b o hbw e))⟩
  exact (vN _ _ (λh:S=b=>hSf (by rw [h]; exact hbf))).trans e)
end
section
variable {prog:Program} {w:World} {A:Around} {E:yw} {s:Shared}
theorem ZjK {a b:Value} {Q:yw} {c:Bool} (hh:A.handled=none) (hcmp:∀ (s':Shared) (Q:yw) (E:yw),iP s.heap s'.heap->Q (.bool c) s'->wpAny (model prog w) A.in1 (richCompare .Lt b a) Q E s')
  (h:∀ h' tk,iP s.heap h'->Q (if c=true then b else a) { s with heap:=h',toks:=tk }):wpAny (model prog w) A (call (.builtin "min") [a,b]) Q E s:=by
 refine call_function_tree F.kind_min F.plain_min F.entry_min (F.args_min2 _ _) (by
  show wpAny _ A.in1 (Builtin.Builtins.bindParams "min" ["key","default"] 0 ⟨[],[]⟩ >>= _) _ _ s;refine wpAny_bind (wpAny_of_eq (a:=[none,none]) rfl ?_);show wpAny _ A.in1 (newTuple [a,b] >>= _) _ _ s;refine wpAny_bind (wpAny_newObj_type ?_);have hT:(s.heap.push { cls:=.type "tuple",data:=.seq #[a,b] }).IsTuple s.heap.objs.size #[a,b]:=⟨_,uS _ rfl,rfl,0,rfl⟩;have hsz:(s.heap.push { cls:=.type "tuple",data:=.seq #[a,b] }).objs.size=s.heap.objs.size+1:=vD ..;have hgk:iP s.heap (s.heap.push { cls:=.type "tuple",data:=.seq #[a,b] }):=λc o e=>uN _ e;generalize (s.heap.push { cls:=.type "tuple",data:=.seq #[a,b] })=g at hT hsz hgk ⊢;refine wpAny_bind (wpAny_pyIter_tuple hT (wpAny_bind (wpAny_newObj_type ?_)));rw [oi];have hlt:∀ {c:Nat} {o:Obj},s.heap.get? c=some o->c < s.heap.objs.size:=λe=>uY e;have hsz2:∀ ob:Obj,(g.push ob).objs.size=s.heap.objs.size+2:=λob=>by rw [vD,hsz]
  have W:=Walks.tuple (prog:=prog) (w:=w) (A:=A.in1) hh g.objs.size s.heap.objs.size (by rw [hsz]; exact u9 (wE _)) #[a,b]
  refine wpAny_pure ⟨plainId_quiet wv _,ZjN (A:=A) (h0:=s.heap) W (λi j=>if i=1/\j=0 then c else false) ?_ ?_ ?_ (show 0 < 2 by decide) ?_ ⟨?_,?_⟩ (uS _ rfl) ?_⟩
  ·intro i j vi vj s' Q' E' hji kp hi hj hq;have hi2:i < 2:=by
    have:=(ya.mp hi).1;simpa using this
   have e1:i=1:=by omega
   have e2:j=0:=by omega
   subst e1 e2;have e3:b=vi:=by simpa using hi
   have e4:a=vj:=by simpa using hj
   subst e3 e4;exact hcmp s' Q' E' kp (by simpa using hq)
  ·intro hm;have hm':(g.push { cls:=.type "tuple_iterator",data:=.fields #[.ref s.heap.objs.size,.int 0 0] }).objs.size∈[g.objs.size,s.heap.objs.size]:=hm;rw [hsz2,hsz] at hm';simp at hm'
  ·intro (c:Nat) o e;have hc:=hlt e;refine ⟨λhm=>?_,?_⟩
   ·have hm':c=g.objs.size:=by simpa using hm
    rw [hm',hsz] at hc;omega
   ·show c≠(g.push { cls:=.type "tuple_iterator",data:=.fields #[.ref s.heap.objs.size,.int 0 0] }).objs.size;rw [hsz2];omega
  ·exact λc o e=>uN _ (uN _ (hgk c o e))
  ·exact ⟨_,uN _ (uS _ rfl),rfl,rfl⟩
  ·exact hT.at λo e=>uN _ (uN _ e)
  ·intro v h' tk hP hk;have hv:v=if c=true then b else a:=by
    cases c with
    | true =>
     have e:argBest (λi j=>if i=1/\j=0 then true else false) ((#[a,b]:Array Value).size - 1)=1:=rfl
     rw [e] at hP;simpa using hP.symm
    | false =>
     have e:argBest (λi j=>if i=1/\j=0 then false else false) ((#[a,b]:Array Value).size - 1)=0:=rfl
     rw [e] at hP;simpa using hP.symm
   rw [hv];refine h h' tk λ(c:Nat) o e=>hk c o (λhm=>?_) ?_ (uN _ (uN _ (hgk c o e)))
   ·have hc:=hlt e;have hm':c=g.objs.size:=by simpa using hm
    rw [hm',hsz] at hc;omega
   ·have hc:=hlt e;show c≠(g.push { cls:=.type "tuple_iterator",data:=.fields #[.ref s.heap.objs.size,.int 0 0] }).objs.size;rw [hsz2];omega)
end
section
variable {X:Cx}
noncomputable def Zca:List V->Hp->VK->Prop:=λxs H Q=>∃ a b ns ms,xs=[.ref a,.ref b]/\H a=some (.tup (ns.map V.int))/\H b=some (.tup (ms.map V.int))/\Q (if HT.cZ ms ns=true then .ref b else .ref a) H
theorem ZeW {k:Nat} (hr:Room k X.A) (hc:X.calm=true):cW X (.builtin "min") Zca:=by
 intro pins s σ H xs us Q I r h;obtain ⟨a,b,ns,ms,rfl,ha,hb,q⟩:=h;obtain ⟨u,w',rfl,ru,rw'⟩:=hZ r;cases ru;cases rw';obtain ⟨u1,r1,p1⟩:=dm (b:=false) I.hok ha;obtain ⟨u2,r2,p2⟩:=dm (b:=false) I.hok hb;have i1:IntsAre u1.toArray.toList ns:=ZdH r1;have i2:IntsAre u2.toArray.toList ms:=ZdH r2;refine ZjK (c:=HT.cZ ms ns) (I.ok.hd hc) (λs' Q' E' kp hq=>?_) λh' tk kp=>⟨_,H,I.kept kp,?_,q⟩
 ·have q1:IsTup s'.heap a u1.toArray:=SqAt.at (b:=false) p1 λo e=>kp a o e;have q2:IsTup s'.heap b u2.toArray:=SqAt.at (b:=false) p2 λo e=>kp b o e;exact HT.ZjY q2 q1 i2 i1 (show X.A.units+1 < cLine from by have:=hr.units; omega) hq
 ·cases HT.cZ ms ns
  ·exact rfl
  ·exact rfl
noncomputable def iy:List PyData->Option PyData
 | [.tuple xs,.tuple ys]=>(ints? xs).bind λns=>(ints? ys).bind λms=>some (if HT.cZ ms ns=true then .tuple (ms.map PyData.int) else .tuple (ns.map PyData.int))
 | _=>none
theorem Zak:dR Zca iy:=λPK pa m G H vs ds d Q w hv hd k=>by
 unfold iy at hd
 split at hd
 ·rename_i xs ys;cases e1:ints? xs with
  | none=>rw [e1] at hd; cases hd
  | some ns =>
   cases e2:ints? ys with
   | none=>rw [e1,e2] at hd; cases hd
   | some ms =>
    rw [e1,e2] at hd;have hd':(if HT.cZ ms ns=true then PyData.tuple (ms.map PyData.int) else .tuple (ns.map PyData.int))=d:=vc hd
    cases hv with
    | cons h1 h2 =>
     cases h2 with
     | cons h2 h3 =>
      cases h3;cases h1 with
      | @tup a us _ a1 a2 =>
       cases h2 with
       | @tup b ws _ b1 b2 =>
        obtain ⟨rfl,rfl⟩:=a2.ints_inv e1;obtain ⟨rfl,rfl⟩:=b2.ints_inv e2;refine ⟨a,b,ns,ms,rfl,w.sub _ _ a1,w.sub _ _ b1,?_⟩;subst hd';cases hl:HT.cZ ms ns
        ·rw [hl] at k;exact k.here w (.tup a1 (DnAll.ints _))
        ·rw [hl] at k;exact k.here w (.tup b1 (DnAll.ints _))
 ·cases hd
end
section
variable {X:Cx} {PK:Pk} {e:Expr} {is:yo}
end
section
variable {prog:Program} {w:World} {A:Around} {E:yw} {s:Shared}
end
noncomputable def ZpS:List yy->List Int
 | []=>[]
 | x::r=>r.foldl (λb y=>if HT.cZ y b=true then y else b) x
section
variable {X:Cx}
noncomputable def tups?:List PyData->Option (List yy)
 | []=>some []
 | .tuple x::xs=>(ints? x).bind λns=>(tups? xs).bind λr=>some (ns::r)
 | _=>none
noncomputable def Zq6:List PyData->Option PyData
 | [.list xs]=>(tups? xs).bind λnss=>if nss.isEmpty=true then none else some (.tuple ((ZpS nss).map PyData.int))
 | _=>none
end
section
variable {X:Cx} {PK:Pk} {a b:Expr} {pos:Pos} {j:yn}
noncomputable def jv (xs:yx):PyData->Tr PyData
 | .int i=>Tr.of (bp xs i)
 | _=>.fail
noncomputable def iK (k:Nat) (j:yn):yn:=λρ=>(j ρ).bind λy=>match ρ[k]? with
 | some (.own xs)=>jv xs y
 | some (.d (.list xs))=>jv xs y
 | _=>.fail
theorem ZpW {G:Hp} {vs:yB} {xs:yx} {i:Int} {d:PyData} (h:DnAll G vs xs) (e:bp xs i=some d):∃ v,bp vs i=some v/\Dn G v d:=by
 unfold bp at e ⊢;rw [h.length];cases hi:cT xs.length i with
 | none=>rw [hi] at e; cases e
 | some n =>
  rw [hi] at e;exact h.get n e
theorem oS {α β:Type}:∀ {t:Tr α} {m:Nat} {Z:Nat->β->Prop},(t.bind λ_=>(Tr.fail:Tr β)).ok m Z->False
 | .ret a,m,Z,h=>h
 | .draw n k,m,Z,h=>oS (t:=k 0) (h.2.2.2 0 (vz _) h.2.1)
 | .fail,m,Z,h=>h
theorem pD {k:Nat} (hb:PE X b (TAe PK j)) (ha:PE X a (eS k)) (hs:pS b):PE X (.Subscript a b pos) (TAe PK (iK k j)):=(lE oK ha hb hs).imp λσ H Q hz0=>by
 obtain ⟨pa,yE,H₀,m,ρ,G,R,z⟩:=hz0;have key:∀ xs:yx,(∃ (sl:Sl),ρ[k]?=some sl/\(sl=.own xs\/sl=.d (.list xs)))->((j ρ).bind λy=>jv xs y).ok m (λm1 x=>Kn PK pa m1 G H x Q)->iS (rm X.K) (eS k) (TAe PK j) σ H Q:=λxs ⟨sl,hsl,hx⟩ z=>by
  obtain ⟨o,h1,h2⟩:=R.sl k _ hsl;have hp:∃ p,o=some (.ref p):=by
   rcases hx with rfl | rfl
   ·cases h2; exact ⟨_,rfl⟩
   ·cases h2 with
    | d q=>cases q; exact ⟨_,rfl⟩
  obtain ⟨p,rfl⟩:=hp;refine ⟨_,h1,?_⟩;refine TAe.then R z λm1 y u G1 H1 s1 w1 R1 d1 q1=>?_;obtain ⟨o',h1',h2'⟩:=R1.sl k _ hsl;rw [h1] at h1';cases h1';have hl:∃ vs,H1 p=some (.lst vs)/\DnAll G1 vs xs:=by
   rcases hx with rfl | rfl
   ·cases h2' with
    | own a1 a2 a3 a4=>exact ⟨_,a1,a4⟩
   ·cases h2' with
    | d q=>cases q with
     | lst b1 b2=>exact ⟨_,w1.sub _ _ b1,b2⟩
  obtain ⟨vs,e1,e2⟩:=hl;cases d1 with
  | int i =>
   obtain ⟨d,hd,kq⟩:=Tr.ok_of q1;obtain ⟨v,hv,dv⟩:=ZpW e2 hd;exact ⟨p,vs,i,v,rfl,rfl,SqL.of e1,hv,kq v G1 H1 s1 w1 dv⟩
  | _=>exact q1.elim
 unfold iK at z;cases hk:ρ[k]? with
 | none=>rw [hk] at z; exact (oS (t:=j ρ) z).elim
 | some sl =>
  rw [hk] at z;cases sl with
  | own xs=>exact key xs ⟨_,hk,.inl rfl⟩ z
  | d x =>
   cases x with
   | list xs=>exact key xs ⟨_,hk,.inr rfl⟩ z
   | _=>exact (oS (t:=j ρ) z).elim
  | _=>exact (oS (t:=j ρ) z).elim
end
section
variable {prog:Program} {w:World} {A:Around} {E:yw} {s:Shared}
end
section
variable {X:Cx}
end
section
variable {PK:Pk} {X:Cx} {a b:Expr} {pos:Pos} {i j:yn}
def uA (r:R2) (f:PyData->PyData->Option yx):Prop:=∀ (PK:Pk) (pa:Addr) (m:Nat) (G H:Hp) (x y:V) (dx dy:PyData) (dz:yx) (Q:VK),Wd PK pa m G H->Dn G x dx->Dn G y dy->f dx dy=some dz->Ko1 PK pa m G H dz Q->r x y H Q
noncomputable def pO (f:PyData->PyData->Option yx) (i j:yn):yo:=λρ=>(i ρ).bind λx=>(j ρ).bind λy=>Tr.of (f x y)
theorem Zqr {r:R2} {f:PyData->PyData->Option yx} (hv:uA r f):∀ σ H Q,eD PK (pO f i j) σ H Q->iS r (TAe PK i) (TAe PK j) σ H Q:=by
 rintro σ H Q ⟨pa,yE,H₀,m,ρ,G,R,q⟩;refine TAe.then R q λm1 x v G1 H1 s1 w1 R1 d1 q1=>?_;refine TAe.then R1 q1 λm2 y u G2 H2 s2 w2 R2 d2 q2=>?_;obtain ⟨z,hz,k⟩:=Tr.ok_of q2;exact hv PK pa m2 G2 H2 v u x y z Q w2 (d1.mono s2.gs) d2 hz (Ko1.later k (s1.trans s2 w1.some) w2.some)
theorem Zp1 {op:Operator} {r:R2} {f:PyData->PyData->Option yx} (ho:OpR X (binaryOp op) r) (hv:uA r f) (ha:PE X a (TAe PK i)) (hb:PE X b (TAe PK j)):PE X (.BinOp a op b pos) (eD PK (pO f i j)) :=
 (b9 ho ha hb).imp (Zqr hv)
noncomputable def j4:PyData->PyData->Option yx
 | .list xs,.int k=>if (decide (-1000<=k) && decide (k<=1000) && decide (xs.length<=1000))=true then some (List.replicate k.toNat xs).flatten else none
 | _,_=>none
theorem Zes {G:Hp}:∀ {vs:yB} {ds:yx} {us:yB} {es:yx},DnAll G vs ds->DnAll G us es->DnAll G (vs++us) (ds++es)
 | _,_,_,_,.nil,h=>h
 | _,_,_,_,.cons a b,h=>.cons a (Zes b h)
theorem Zer {G:Hp} {vs:yB} {ds:yx} (h:DnAll G vs ds):∀ k:Nat,DnAll G (List.replicate k vs).flatten (List.replicate k ds).flatten
 | 0=>.nil
 | k+1=>by
  rw [u6,u6,vG,vG];exact Zes h (Zer h k)
theorem Zf2:uA rl j4:=λPK pa m G H x y dx dy dz Q w hx hy hz k=>by
 unfold j4 at hz
 split at hz
 ·split at hz
  ·rename_i hc;cases hz;simp only [vm,decide_eq_true_eq] at hc;cases hx with
   | lst a1 a2 =>
    cases hy;refine ⟨_,_,_,rfl,rfl,w.sub _ _ a1,by omega,by omega,?_,λp hp=>?_⟩
    ·rw [a2.length];have h0:∀ z:Int,z<=1000->z.toNat<=1000:=λz hz=>by omega
     exact u8 (yb hc.2 (h0 _ hc.1.2)) (show 1000 * 1000<=sizeLine by decide)
    ·exact k.new w (Zer a2 _) hp
  ·cases hz
 ·cases hz
noncomputable def mo (f:PyData->PyData->Option yx) (x y:PyData):Tr yx:=Tr.of (f x y)
noncomputable def Zfa (f:PyData->PyData->Option yx) (j:yn) (ρ:yD) (x:PyData):Tr yx:=(j ρ).bind (mo f x)
theorem Znr {f:PyData->PyData->Option yx} {ρ:yD}:pO f i j ρ=(i ρ).bind (Zfa f j ρ):=rfl
theorem Znq {f:PyData->PyData->Option yx} {ρ:yD} {x:PyData}:Zfa f j ρ x=(j ρ).bind (mo f x):=rfl
theorem Zh5 {xs:yx} {k:Int} (h:(decide (-1000<=k) && decide (k<=1000) && decide (xs.length<=1000))=true):mo j4 (.list xs) (.int k)=.ret (List.replicate k.toNat xs).flatten:=by
 simp only [mo,j4,h,if_true]
 rfl
end
theorem l5 {α:Type} {n:Nat}:∀ {us:List α},us.length=n+1->∃ (a:α) (t:List α),us=a::t/\t.length=n
 | a::t,h=>⟨a,t,rfl,Nat.succ.inj h⟩
theorem Zka {α:Type} {us:List α} (h:us.length=0):us=[]:=List.eq_nil_of_length_eq_zero h
theorem Zdo {α:Type} {us:List α} (h:us.length=1):∃ a,us=[a]:=by
 obtain ⟨a,t,rfl,h2⟩:=l5 h;exact ⟨a,by rw [Zka h2]⟩
theorem Zdn {α:Type} {us:List α} (h:us.length=2):∃ a0 a1,us=[a0,a1]:=by
 obtain ⟨a0,t,rfl,h2⟩:=l5 h;obtain ⟨a1,rfl⟩:=Zdo h2;exact ⟨a0,a1,rfl⟩
theorem Zdm {α:Type} {us:List α} (h:us.length=3):∃ a0 a1 a2,us=[a0,a1,a2]:=by
 obtain ⟨a0,t,rfl,h2⟩:=l5 h;obtain ⟨a1,a2,rfl⟩:=Zdn h2;exact ⟨a0,a1,a2,rfl⟩
theorem Zdl {α:Type} {us:List α} (h:us.length=4):∃ a0 a1 a2 a3,us=[a0,a1,a2,a3]:=by
 obtain ⟨a0,t,rfl,h2⟩:=l5 h;obtain ⟨a1,a2,a3,rfl⟩:=Zdm h2;exact ⟨a0,a1,a2,a3,rfl⟩
theorem Zke {α:Type} {us:List α} (h:us.length=5):∃ a0 a1 a2 a3 a4,us=[a0,a1,a2,a3,a4]:=by
 obtain ⟨a0,t,rfl,h2⟩:=l5 h;obtain ⟨a1,a2,a3,a4,rfl⟩:=Zdl h2;exact ⟨a0,a1,a2,a3,a4,rfl⟩
def FS (K:ym) (n:Nat) (σ:St) (H:Hp):Prop:=∃ a xs,σ[0]?=some (some (V.ref a))/\SqL K H a xs/\xs.length=n
section
variable {PK:Pk} {X:Cx} {pos:Pos} {n:Nat} {is:yo} {s t:yq}
end
section
variable {PK:Pk} {X:Cx} {a b c d e:Expr} {pos:Pos} {i j l n:yn}
end
end L2
set_option exponentiation.threshold 9000
namespace Tw
open L2
def nb (k:Nat) (n:Int):Prop:=n.natAbs < 2 ^ k
theorem bc {k:Nat} {n:Int} (h:nb k n) (hk:k<=8000):fit n=true:=decide_eq_true (uU h (Nat.pow_le_pow_right (by decide) hk))
theorem bn {k l:Nat} {n:Int} (h:nb k n) (hk:k<=l):nb l n:=uU h (Nat.pow_le_pow_right (by decide) hk)
theorem cx {k l:Nat} {m n:Int} (h:nb k m) (h':nb l n):nb (k+l) (m * n):=by
 unfold nb at *;rw [Int.natAbs_mul,Nat.pow_add];exact Nat.mul_lt_mul'' h h'
theorem eZ {k l:Nat} {m n:Int} (h:nb k m) (h':nb l n):nb (max k l+1) (m+n):=by
 have h1:=bn h (Nat.le_max_left k l);have h2:=bn h' (Nat.le_max_right k l);unfold nb at *;rw [Nat.pow_succ,Nat.mul_two];exact wM (Int.natAbs_add_le m n) (Nat.add_lt_add h1 h2)
theorem kd {k:Nat} {n:Int} (h:nb k n):nb k (-n):=by
 unfold nb at *;omega
theorem fy {k l:Nat} {m n:Int} (h:nb k m) (h':nb l n):nb (max k l+1) (m - n):=by
 rw [Int.sub_eq_add_neg];exact eZ h (kd h')
theorem cR {k:Nat} {n:Int} (h1:-(2 ^ k:Nat) < n) (h2:n < (2 ^ k:Nat)):nb k n:=by
 unfold nb;omega
theorem ZjB {k:Nat} {n b:Int} (h:-b<=n/\n<=b) (hb:b < (2 ^ k:Nat)):nb k n:=cR (by omega) (by omega)
theorem n5 {k:Nat} {c:Prop} [Decidable c] {m n:Int} (h:nb k m) (h':nb k n):nb k (if c then m else n):=by split <;> assumption
noncomputable def ws (f:Int->Int):Nat->List Int->Int
 | _,[]=>0
 | k,w::l=>w * f k+ws f (k+1) l
theorem Zae {f:Int->Int} {a b:Nat} (hf:∀ x:Int,0<=x->nb b (f x)):∀ {l:yy} {k:Nat},(∀ w∈l,nb a w)->nb (a+b+l.length) (ws f k l)
 | [],k,h=>by unfold ws nb; exact vX (by simp)
 | w::l,k,h=>by
  unfold ws;have h1:=cx (h w (by simp)) (hf k (by omega))
  have h2:=Zae hf (l:=l) (k:=k+1) λv hv=>h v (uP _ hv);refine bn (eZ h1 h2) ?_;rw [uZ];omega
theorem qc {f g:Int->Int}:∀ {l:yy} {k:Nat},(∀ x:Int,0<=x->f x=g x)->ws f k l=ws g k l
 | [],k,h=>rfl
 | w::l,k,h=>by
  unfold ws;rw [h k (by omega),qc h]
theorem ZaR {a:Nat}:∀ {l:yy},(∀ w∈l,nb a w)->nb (a+l.length) l.sum
 | [],h=>by unfold nb; simp; exact vX (by simp)
 | w::l,h=>by
  rw [wx];refine bn (eZ (h w (by simp)) (ZaR (l:=l) λv hv=>h v (uP _ hv))) ?_
  rw [uZ];omega
structure Shp where
 top:Int
 depth:Int
 start:Int
 piece:Int
 keep:Int
 lack:Int
 lost:Int
 back:Int
 late:Int
noncomputable def Shp.l (s:Shp):yy:=[s.top,s.depth,s.start,s.piece,s.keep,s.lack,s.lost,s.back,s.late]
@[irreducible] noncomputable def Shp.d (s:Shp):PyData:=.tuple (s.l.map PyData.int)
structure Shp.Ok (s:Shp):Prop where
 t0:0<=s.top
 d0:0<=s.depth
 td:s.top+s.depth<=100
 start0:0<=s.start
 start:nb 45 s.start
 piece:nb 45 s.piece
 keep:nb 45 s.keep
 lack:nb 45 s.lack
 lost:nb 45 s.lost
 back:nb 45 s.back
 late:nb 45 s.late
theorem Zhn (s:Shp):aT aE s.d (.int 0)=.ret (.int s.top):=by unfold Shp.d; rw [iF]; exact congrArg Tr.of uc
theorem Zhm (s:Shp):aT aE s.d (.int 1)=.ret (.int s.depth):=by unfold Shp.d; rw [iF]; exact congrArg Tr.of ub
theorem Zhl (s:Shp):aT aE s.d (.int 2)=.ret (.int s.start):=by unfold Shp.d; rw [iF]; exact congrArg Tr.of ua
theorem Zhk (s:Shp):aT aE s.d (.int 3)=.ret (.int s.piece):=by unfold Shp.d; rw [iF]; exact congrArg Tr.of t9
theorem Zhj (s:Shp):aT aE s.d (.int 4)=.ret (.int s.keep):=by unfold Shp.d; rw [iF]; exact congrArg Tr.of t7
theorem Zhi (s:Shp):aT aE s.d (.int 5)=.ret (.int s.lack):=by unfold Shp.d; rw [iF]; exact congrArg Tr.of Zfn
theorem Zhh (s:Shp):aT aE s.d (.int 6)=.ret (.int s.lost):=by unfold Shp.d; rw [iF]; exact congrArg Tr.of Zfm
section
variable (s:Shp)
noncomputable def Shp.nx (y f:Int):Int:=cS (y - f) (-s.depth)
noncomputable def Shp.day (y f:Int):Int:=(if s.nx y f > 0 then s.keep * s.nx y f else s.lack * -s.nx y f)+s.lost * (s.nx y f - (y - f))
noncomputable def Shp.ord (x y:Int):Int:=if y<=x then 0 else s.start+s.piece * (y - x)
noncomputable def Shp.wg (day:yy) (y:Int) (ahead:Int->Int) (sc:Int):Int:=ws (λf=>sc * s.day y f+ahead (s.nx y f)) 0 day
noncomputable def Shp.sm (day:yy) (ahead:Int->Int) (sc:Int) (y:Int):Int:=sc * day.sum * s.piece * y+s.wg day y ahead sc
end
noncomputable def Shp.n (s:Shp):Nat:=(s.top+1 - -s.depth).toNat
noncomputable def Shp.row (s:Shp) (f:Int->Int):yy:=(aL (-s.depth) s.n).map f
noncomputable def lI (l:yy):PyData:=.list (l.map PyData.int)
noncomputable def tI (l:yy):PyData:=.tuple (l.map PyData.int)
theorem Shp.Ok.n_eq {s:Shp} (h:s.Ok):(s.n:Int)=s.top+s.depth+1:=by have:=h.t0; have:=h.d0; unfold Shp.n; omega
theorem fS (s:Shp) (f:Int->Int):(s.row f).length=s.n:=by unfold Shp.row; rw [uO,gG]
theorem fw {s:Shp} {f:Int->Int} {x:Int} (h1:-s.depth<=x) (h2:x<=s.top):(s.row f)[(x+s.depth).toNat]?=some (f x):=by
 unfold Shp.row aL;rw [vg,uT,u7 (by unfold Shp.n; omega)]
 show some (f (-s.depth+((x+s.depth).toNat:Int)))=_;congr 2;omega
theorem ny {s:Shp} {f:Int->Int} {x:Int} (h1:-s.depth<=x) (h2:x<=s.top):bp ((s.row f).map PyData.int) (x+s.depth)=some (.int (f x)) :=
 fJ (by omega) (by rw [uT,fw h1 h2]; rfl)
theorem ji (s:Shp) (y f:Int):-s.depth<=s.nx y f:=by unfold Shp.nx cS; split <;> omega
theorem jh {s:Shp} (h:s.Ok) {y f:Int} (hy:y<=s.top) (hf:0<=f):s.nx y f<=s.top:=by have:=h.t0; have:=h.d0; unfold Shp.nx cS; split <;> omega
end Tw
namespace L2
variable {ρ:yD} {s t:yq} {i j l:yn} {is:yo} {k n:Nat} {x y d:PyData} {xs ys:yx} {sl:Sl}
theorem rb2 {α β:Type} {a:α} {f:α->Tr β}:(Tr.ret a).bind f=f a:=Eq.trans (Tr.ret_bind a f) (Eq.refl _)
noncomputable def qX (xs:yx):Tr yx:=.ret xs.reverse
theorem ZlK:qX xs=.ret xs.reverse:=rfl
noncomputable def ZbJ (xs:yx):Tr yx:=(iY xs).bind qX
theorem ZlN:pH is ρ=(is ρ).bind ZbJ:=rfl
theorem ZlJ:ZbJ xs=(iY xs).bind qX:=rfl
noncomputable def Zq9 (k:Nat) (ρ:yD) (xs:yx):PyData->Tr Ou
 | .list ys=>if small (xs.length+ys.length)=true then .ret (.next (ρ.set k (.own (xs++ys)))) else .fail
 | _=>.fail
theorem tu (a b c d:Int):ce iy [.tuple [.int a,.int b],.tuple [.int c,.int d]]=.ret (if c < a\/c=a/\d < b then .tuple [.int c,.int d] else .tuple [.int a,.int b]):=by
 have h1:ints? [PyData.int a,.int b]=some [a,b]:=ints?_map [a,b];have h2:ints? [PyData.int c,.int d]=some [c,d]:=ints?_map [c,d];unfold ce iy;simp only [h1,h2];show Tr.of (some _)=_;rw [Tr.of_some];have e:HT.cZ [c,d] [a,b]=true ↔ (c < a\/c=a/\d < b):=by
  simp only [HT.Zdi,HT.Zdh];by_cases hca:c=a
  ·subst hca;by_cases hdb:d=b
   ·simp [hdb]
   ·simp [hdb]
  ·simp [hca]
 by_cases hc:(c < a\/c=a/\d < b)
 ·rw [if_pos (e.mpr hc),if_pos hc]; rfl
 ·rw [if_neg (λz=>hc (e.mp z)),if_neg hc]; rfl
theorem ZjO (ns:yy) (h:ns≠[]):ce oj [.list (ns.map PyData.int)]=.ret (.int (fA ns)):=by
 unfold ce oj fW;simp [h]
theorem ZjV (ns:yy) (h:ns≠[]):ce lR [.list (ns.map PyData.int)]=.ret (.int (eK ns)):=by
 unfold ce lR fW;simp [h]
noncomputable def kw:Nat->List Sl->PyData->Tr PyData
 | 0,.own xs::_,y=>jv xs y
 | 0,.d (.list xs)::_,y=>jv xs y
 | k+1,_::ρ,y=>kw k ρ y
 | _,_,_=>.fail
theorem ZmH:iK k j ρ=(j ρ).bind (kw k ρ):=by
 have key:∀ (k:Nat) (σ:yD) (y:PyData),(match σ[k]? with | some (Sl.own xs)=>jv xs y | some (Sl.d (.list xs))=>jv xs y | _=>Tr.fail)=kw k σ y:=by
  intro k
  induction k with
  | zero =>
   intro σ y;cases σ with
   | nil=>rfl
   | cons s r =>
    cases s with
    | d x=>cases x <;> rfl
    | _=>rfl
  | succ k ih =>
   intro σ y;cases σ with
   | nil=>rfl
   | cons s r=>exact ih r y
 unfold iK;exact congrArg (Tr.bind (j ρ)) (funext λy=>key k ρ y)
theorem ZmG (n:Int):kw 0 (.own xs::ρ) (.int n)=Tr.of (bp xs n):=rfl
theorem ZmF:kw (k+1) (sl::ρ) y=kw k ρ y:=rfl
theorem Zp9 {α:Type} {t:Tr α} {P:α->Prop} (h:Al t 0 P):∃ a,t=.ret a/\P a:=by
 have h':=h.out;cases t with
 | ret a=>exact ⟨a,rfl,h'⟩
 | draw w k=>exact h'.elim
 | fail=>exact h'.elim
theorem ui {α:Type} {t:Tr α} {a:α} (h:Al t 0 λb=>b=a):t=.ret a:=by
 obtain ⟨b,e,rfl⟩:=Zp9 h;exact e
theorem Zp5 {α:Type} {t:Tr α} {a:α} {P:α->Prop} {N:Nat} (h:t=.ret a) (hp:P a):Al t N P:=by rw [h]; exact c7 hp
theorem ZdX {s:yq} {g:yu} {n:Nat} {full:yx} (I:List PyData->List Sl->Prop) {Q:Ou->Prop} (ht:∀ pre x post ρ,full=pre++x::post->I pre ρ->∃ ρ1,g x ρ=some ρ1/\(s ρ1).all n λo=>∃ ρ2,o=.next ρ2/\I (pre++[x]) ρ2) (hq:∀ ρ,I full ρ->Q (.next ρ)) :
  ∀ {xs pre:yx} {ρ:yD},full=pre++xs->I pre ρ->(cb g s xs ρ).all (xs.length * n) Q
 | [],pre,ρ,e,h0=>hq ρ (by rw [e,vo]; exact h0)
 | x::xs,pre,ρ,e0,h0=>by
  obtain ⟨ρ1,e,ha⟩:=ht pre x xs ρ e0 h0;have en:(x::xs).length * n=n+xs.length * n:=by rw [uZ,wq]; omega
  rw [en,iE,e,Tr.of_some,Tr.ret_bind];unfold jx;refine Tr.all_bind ha λo ⟨ρ2,eo,h2⟩=>?_;subst eo;rw [gR];exact ZdX I ht hq (by rw [e0,wy]; rfl) h2
theorem pA {n N:Nat} {g:yu} {s:yq} {xs:yx} {ρ:yD} {Q:Ou->Prop} (I:List PyData->List Sl->Prop) (h0:I [] ρ) (hN:xs.length * n<=N) (ht:∀ pre x post ρ,xs=pre++x::post->I pre ρ->∃ ρ1,g x ρ=some ρ1/\Al (s ρ1) n λo=>∃ ρ2,o=.next ρ2/\I (pre++[x]) ρ2) (hq:∀ ρ,I xs ρ->Q (.next ρ)):Al (cb g s xs ρ) N Q :=
 .of (Tr.all_mono (ZdX (full:=xs) I (λpre x post ρ e h=>let ⟨ρ1,e,a⟩:=ht pre x post ρ e h; ⟨ρ1,e,a.out⟩) hq (pre:=[]) rfl h0) hN λ_ h=>h)
theorem ra {lo hi:Int} {pre post:yx} {x:PyData} (h:aH lo hi=pre++x::post):x=.int (lo+pre.length)/\(pre.length:Int) < hi - lo:=by
 have h1:(aH lo hi)[pre.length]?=some x:=by rw [h]; simp
 have hl:pre.length < (aH lo hi).length:=(uR.mp h1).1;rw [cw] at hl;unfold aH aL at h1;rw [vg,uT,u7 (by omega)] at h1
 refine ⟨?_,by omega⟩
 cases h1
 rfl
theorem Zh0 {lo hi:Int} {pre post:yx} {x:PyData} (h:(aH lo hi).reverse=pre++x::post):x=.int (hi - 1 - pre.length)/\(pre.length:Int) < hi - lo:=by
 have h1:((aH lo hi).reverse)[pre.length]?=some x:=by rw [h]; simp
 have hl:pre.length < ((aH lo hi).reverse).length:=(uR.mp h1).1;rw [wI,cw] at hl;rw [xF (by rw [cw]; exact hl),cw] at h1
 unfold aH aL at h1;rw [vg,uT,u7 (by omega)] at h1
 refine ⟨?_,by omega⟩
 cases h1;show PyData.int (lo+(((hi - lo).toNat - 1 - pre.length:Nat):Int))=_;congr 1;omega
theorem Zh1 {lo hi:Int} {x:PyData} (h:x∈aH lo hi):∃ z:Int,x=.int z/\lo<=z/\z < hi:=by
 unfold aH at h;obtain ⟨z,hz,rfl⟩:=wt.mp h;have:=ZbX hz;exact ⟨z,rfl,by omega,by omega⟩
theorem Zda {h:PyData->Tr PyData} {f:Int->PyData} {lo hi:Int} (hx:∀ z:Int,lo<=z->z < hi->h (.int z)=.ret (f z)):bG h (aH lo hi)=.ret ((aL lo (hi - lo).toNat).map f):=by
 have key:∀ l:yy,(∀ z∈l,lo<=z/\z < hi)->bG h (l.map PyData.int)=.ret (l.map f):=by
  intro l
  induction l with
  | nil=>intro _; rfl
  | cons z l ih =>
   intro hz;have hh:=hz z (by simp)
   rw [uX,bG,hx z hh.1 hh.2,Tr.ret_bind,ih λy hy=>hz y (uP _ hy)]
   rfl
 unfold aH;refine key _ λz hz=>?_;have:=ZbX hz;omega
theorem ZnW {xs:yx} {pre post:yx} {x:PyData} (h:dL xs=pre++x::post):∃ y,xs[pre.length]?=some y/\x=.tuple [.int pre.length,y]:=by
 have h1:(dL xs)[pre.length]?=some x:=by rw [h]; simp
 unfold dL at h1;rw [List.getElem?_zipWith] at h1;cases hx:xs[pre.length]? with
 | none=>rw [hx] at h1; simp at h1
 | some y =>
  have hl:pre.length < xs.length:=(uR.mp hx).1;rw [hx,u7 hl] at h1;simp at h1;exact ⟨y,rfl,h1.symm⟩
theorem ZnX (xs:yx):(dL xs).length=xs.length:=by unfold dL; simp
end L2
namespace Tw
open L2
noncomputable def bst (g:Int->Int) (top:Int):Nat->Int×Int
 | 0=>(g top,top)
 | n+1=>if (bst g top n).1 < g (top - ((n+1:Nat):Int)) then bst g top n else (g (top - ((n+1:Nat):Int)),top - ((n+1:Nat):Int))
theorem pe (g:Int->Int) (top:Int):∀ n:Nat,top - n<=(bst g top n).2/\(bst g top n).2<=top/\g (bst g top n).2=(bst g top n).1
 | 0=>by unfold bst; simp
 | n+1=>by
  have ih:=pe g top n;unfold bst
  split
  ·exact ⟨by omega,ih.2.1,ih.2.2⟩
  ·exact ⟨vz _,by omega,rfl⟩
theorem tZ (g:Int->Int) (top:Int):∀ (n:Nat) (y:Int),top - n<=y->y<=top->(bst g top n).1<=g y
 | 0,y,h1,h2=>by
  have:y=top:=by omega
  subst this;unfold bst;exact vz _
 | n+1,y,h1,h2=>by
  by_cases hy:y=top - ((n+1:Nat):Int)
  ·unfold bst
   split
   ·subst hy; omega
   ·subst hy; exact vz _
  ·have ih:=tZ g top n y (by omega) h2
   unfold bst
   split
   ·exact ih
   ·omega
noncomputable def pck (g:Int->Int) (top K x:Int):Int×Int :=
 match (top - x).toNat with
 | 0=>(g x,x)
 | n+1=>if K+(bst g top n).1 < g x then (K+(bst g top n).1,(bst g top n).2) else (g x,x)
noncomputable def cst (g:Int->Int) (top K P x:Int):Int:=(pck g top K x).1 - P * x
noncomputable def lvl (g:Int->Int) (top K x:Int):Int:=(pck g top K x).2
theorem i8 (g:Int->Int) (top K:Int):pck g top K top=(g top,top):=by
 unfold pck;rw [Int.sub_self]
 rfl
theorem i9 (g:Int->Int) (top K:Int) (n:Nat):pck g top K (top - ((n+1:Nat):Int))=if K+(bst g top n).1 < g (top - ((n+1:Nat):Int)) then (K+(bst g top n).1,(bst g top n).2) else (g (top - ((n+1:Nat):Int)),top - ((n+1:Nat):Int)):=by
 unfold pck;have e:(top - (top - ((n+1:Nat):Int))).toNat=n+1:=by omega
 rw [e]
theorem ZiY {g:Int->Int} {top K x:Int} (hx:x<=top):(pck g top K x).1<=g x/\∀ y,x < y->y<=top->(pck g top K x).1<=K+g y:=by
 by_cases ht:x=top
 ·subst ht;rw [i8];exact ⟨vz _,λy h1 h2=>by omega⟩
 ·obtain ⟨n,hn⟩:∃ n:Nat,x=top - ((n+1:Nat):Int):=⟨(top - x - 1).toNat,by omega⟩
  subst hn;rw [i9]
  split
  ·rename_i hc;exact ⟨by dsimp only; omega,λy h1 h2=>by have:=tZ g top n y (by omega) h2; dsimp only; omega⟩
  ·rename_i hc;exact ⟨vz _,λy h1 h2=>by have:=tZ g top n y (by omega) h2; dsimp only; omega⟩
theorem lG {g:Int->Int} {top K x:Int} (hx:x<=top):x<=(pck g top K x).2/\(pck g top K x).2<=top/\(((pck g top K x).2=x/\(pck g top K x).1=g x)\/(x < (pck g top K x).2/\(pck g top K x).1=K+g (pck g top K x).2/\(pck g top K x).1 < g x)):=by
 by_cases ht:x=top
 ·subst ht;rw [i8];exact ⟨vz _,vz _,.inl ⟨rfl,rfl⟩⟩
 ·obtain ⟨n,hn⟩:∃ n:Nat,x=top - ((n+1:Nat):Int):=⟨(top - x - 1).toNat,by omega⟩
  subst hn;rw [i9];have hb:=pe g top n
  split
  ·rename_i hc;exact ⟨by dsimp only; omega,hb.2.1,.inr ⟨by dsimp only; omega,by dsimp only; rw [hb.2.2],hc⟩⟩
  ·exact ⟨vz _,by dsimp only; omega,.inl ⟨rfl,rfl⟩⟩
theorem ZiZ {g g':Int->Int} {top K x:Int} (h:∀ y,x<=y->y<=top->g y=g' y) (hx:x<=top):pck g top K x=pck g' top K x:=by
 have key:∀ n:Nat,x<=top - n->bst g top n=bst g' top n:=by
  intro n
  induction n with
  | zero=>intro hn; unfold bst; rw [h top (by omega) (by omega)]
  | succ n ih =>
   intro hn;unfold bst;rw [ih (by omega),h _ hn (by omega)]
 by_cases ht:x=top
 ·subst ht;rw [i8,i8,h x (by omega) (by omega)]
 ·obtain ⟨n,hn⟩:∃ n:Nat,x=top - ((n+1:Nat):Int):=⟨(top - x - 1).toNat,by omega⟩
  subst hn;rw [i9,i9,key n (by omega),h _ (by omega) (by omega)]
structure DayB (l:yy):Prop where
 len:l.length<=16
 nb:∀ w∈l,nb 30 w
 w0:∀ w∈l,0<=w
 pos:0 < l.sum
theorem o5 {s:Shp} (h:s.Ok) {y f:Int} (hy:nb 20 y) (hf:nb 40 f):nb 100 (s.day y f):=by
 have hd:nb 7 s.depth:=by have:=h.t0; have:=h.d0; have:=h.td; exact cR (by show -128 < _; omega) (by show _ < 128; omega)
 have hn:nb 50 (s.nx y f):=by
  unfold Shp.nx cS;exact n5 (bn (kd hd) (by decide)) (bn (fy hy hf) (by decide))
 unfold Shp.day;refine bn (eZ (n5 (k:=95) (cx h.keep hn) (cx h.lack (kd hn))) (cx h.lost (fy hn (fy hy hf)))) (by decide)
def Bd (s:Shp) (b:Nat) (f:Int->Int):Prop:=∀ x,-s.depth<=x->x<=s.top->nb b (f x)
theorem Zf0 {s:Shp} (h:s.Ok) {day:yy} (hd:DayB day) {y:Int} (y1:-s.depth<=y) (y2:y<=s.top) {A:Int->Int} {b:Nat} (hA:Bd s b A) {sc:Int} (hs:nb b sc):nb (b+150) (s.wg day y A sc):=by
 have:=h.t0;have:=h.d0;have:=h.td;have hlen:=hd.len;have hy:nb 20 y:=cR (by show -1048576 < _; omega) (by show _ < 1048576; omega)
 have key:∀ (l:yy) (k:Nat),(∀ w∈l,nb 30 w)->k+l.length<=16->nb (30+(b+101)+l.length) (ws (λf=>sc * s.day y f+A (s.nx y f)) k l):=by
  intro l
  induction l with
  | nil=>intro k _ _; unfold ws nb; exact vX (by simp)
  | cons w l ih =>
   intro k hw hk;rw [uZ] at hk ⊢;have hf:nb 40 (k:Int):=cR (by show -1099511627776 < _; omega) (by show _ < 1099511627776; omega)
   have b1:=eZ (cx hs (o5 h hy hf)) (hA _ (ji s y k) (jh h y2 (show (0:Int)<=k by omega)))
   have h1:=cx (hw w (by simp)) b1
   have h2:=ih (k+1) (λv hv=>hw v (uP _ hv)) (by omega)
   unfold ws;exact bn (eZ h1 h2) (by omega)
 exact bn (key day 0 hd.nb (by omega)) (by omega)
theorem dC {day:yy} (hd:DayB day):nb 46 day.sum:=bn (ZaR hd.nb) (by have:=hd.len; omega)
theorem ZaX {s:Shp} (h:s.Ok) {day:yy} (hd:DayB day) {A:Int->Int} {b:Nat} (hA:Bd s b A) {sc:Int} (hs:nb b sc):Bd s (b+151) (s.sm day A sc):=λy y1 y2=>by
 have:=h.t0;have:=h.d0;have:=h.td;have hy:nb 20 y:=cR (by show -1048576 < _; omega) (by show _ < 1048576; omega)
 unfold Shp.sm;exact bn (eZ (cx (cx (cx hs (dC hd)) h.piece) hy) (Zf0 h hd y1 y2 hA hs)) (by omega)
noncomputable abbrev rng (lo hi:Int):yy:=aL lo (hi - lo).toNat
variable {α:Type}
theorem ZbY (lo:Int) (a b:Nat):aL lo (a+b)=aL lo a++aL (lo+a) b:=by
 unfold aL;rw [List.range_add,vW,vg];congr 1;apply vP;intro k _;show lo+((a+k:Nat):Int)=lo+(a:Int)+(k:Int);omega
noncomputable def f3 (lo a b c:Int) (t:Int->Int->Int->Option α):Option α:=(rng lo a).findSome? λu=>(rng (u+1) b).findSome? λv=>(rng (v+1) c).findSome? λw=>t u v w
noncomputable def enu:Nat->List Int->List PyData
 | _,[]=>[]
 | k,n::ns=>.tuple [.int k,.int n]::enu (k+1) ns
theorem Zef:∀ (ns:yy) (k:Nat),(List.range' k (ns.map PyData.int).length).zipWith (λ(n:Nat) x=>PyData.tuple [.int n,x]) (ns.map PyData.int)=enu k ns
 | [],k=>rfl
 | n::ns,k=>by
  rw [uX,uZ,List.range'_succ,List.zipWith_cons_cons,Zef ns (k+1)]
  rfl
theorem Zeg (ns:yy):dL (ns.map PyData.int)=enu 0 ns:=by
 unfold dL;rw [List.range_eq_range',Zef]
theorem Zee:∀ (ns:yy) (k:Nat),(enu k ns).length=ns.length
 | [],k=>rfl
 | n::ns,k=>by rw [enu,uZ,uZ,Zee ns]
noncomputable def cF:Nat->List Int->List Int
 | _,[]=>[]
 | k,n::ns=>if n > 0 then (k:Int)::cF (k+1) ns else cF (k+1) ns
theorem qA:∀ {ns:yy} {k:Nat},(∃ n∈ns,n > 0)->cF k ns≠[]
 | [],k,h=>by obtain ⟨n,h,_⟩:=h; cases h
 | n::ns,k,h=>by
  unfold cF
  split
  ·simp
  ·rename_i hn;obtain ⟨m,hm,hp⟩:=h;rcases uV.mp hm with rfl | hm
   ·exact absurd hp hn
   ·exact qA ⟨m,hm,hp⟩
noncomputable def great (ls:yy):Int:=eK (cF 0 ls)
structure DayOk (most:Nat) (ls:yy):Prop where
 len:ls.length<=most
 pos:∃ n∈ls,n > 0
 le:∀ n∈ls,0<=n/\n<=1001
theorem Zg3 {ls:yy} (h:∀ n∈ls,0<=n):∀ n∈ls,n<=ls.sum:=by
 induction ls with
 | nil=>intro n hn; cases hn
 | cons a l ih =>
  intro n hn;have h0:0<=l.sum:=by
   clear ih hn;have h':∀ n∈l,0<=n:=λm hm=>h m (uP _ hm);clear h
   induction l with
   | nil=>decide
   | cons b l ih2 =>
    rw [wx];have:=h' b (by simp)
    have:=ih2 λm hm=>h' m (uP _ hm);omega
  have ha:=h a (by simp)
  rw [wx];rcases uV.mp hn with rfl | hn
  ·omega
  ·have:=ih (λm hm=>h m (uP _ hm)) n hn;omega
theorem DayOk.B {m:Nat} {ls:yy} (h:DayOk m ls) (hm:m<=16):DayB ls:=by
 refine ⟨u8 h.len hm,λw hw=>?_,λw hw=>(h.le w hw).1,?_⟩
 ·have:=h.le w hw;exact cR (by show -1073741824 < _; omega) (by show _ < 1073741824; omega)
 ·obtain ⟨n,hn,hp⟩:=h.pos;have:=Zg3 (λn hn=>(h.le n hn).1) n hn;omega
structure Shp.Dr (s:Shp):Prop where
 t0:0<=s.top
 d0:0<=s.depth
 td:s.top+s.depth<=39
 p:∀ n∈[s.start,s.piece,s.keep,s.lack,s.lost,s.back,s.late],0<=n/\n<=1000000
theorem Shp.Dr.ok {s:Shp} (h:s.Dr):s.Ok:=by
 have hp:=h.p;simp only [uV,wF,or_false,forall_eq_or_imp,forall_eq] at hp;obtain ⟨h1,h2,h3,h4,h5,h6,h7⟩:=hp;have k:∀ n:Int,0<=n/\n<=1000000->nb 45 n:=λn hn=>cR (by show -35184372088832 < _; omega) (by show _ < 35184372088832; omega)
 exact ⟨h.t0,h.d0,by have:=h.td; omega,h1.1,k _ h1,k _ h2,k _ h3,k _ h4,k _ h5,k _ h6,k _ h7⟩
theorem Zhg {a b c d e f g h i:Int}:PyData.tuple [.int a,.int b,.int c,.int d,.int e,.int f,.int g,.int h,.int i]=(Shp.mk a b c d e f g h i).d:=by
 unfold Shp.d
 rfl
theorem oN (l:yy):cH (tI l)=.ret (l.map PyData.int):=rfl
theorem ZdB (l:yy):cH (lI l)=.ret (l.map PyData.int):=rfl
theorem gz (l:yy):ce dD [tI l]=.ret (.int l.sum):=sZ l
theorem Zkb (l:yy):ce dt [tI l]=.ret (.int l.length):=by
 show Tr.ret (PyData.int ((l.map PyData.int).length:Int))=_;rw [uO]
structure Rp (d:PyData) (k n:Nat):Prop where
 hd:d.hasDict=false
 sh:d.showable=true
 dp:d.depth<=k
 ln:d.shown.length<=n
theorem qY {d:PyData} {k n k' n':Nat} (h:Rp d k n) (hk:k<=k') (hn:n<=n'):Rp d k' n':=⟨h.hd,h.sh,u8 h.dp hk,u8 h.ln hn⟩
theorem ZbL {i:Int} (h:nb 1900 i):Rp (.int i) 0 1901:=by
 have h1:=Za5 [i] λn hn=>by simp at hn; subst hn; exact h
 have h2:=(Za4 [i] λn hn=>by simp at hn; subst hn; exact h).1
 refine ⟨rfl,?_,wf _,?_⟩
 ·simp only [uX,wK,PyData.showableAll,Bool.and_true] at h1;exact h1
 ·simp only [uX,wK,PyData.shownAll,wx,List.sum_nil,uZ,wn] at h2;omega
theorem ZbM {k n:Nat}:∀ {xs:yx},(∀ x∈xs,Rp x k n)->PyData.hasDictAll xs=false/\PyData.showableAll xs=true/\PyData.depthAll xs<=k/\((PyData.shownAll xs).map (·.length)).sum<=xs.length * n/\(PyData.shownAll xs).length=xs.length
 | [],_=>⟨rfl,rfl,wf _,by simp [PyData.shownAll],rfl⟩
 | x::xs,h=>by
  obtain ⟨h1,h2,h3,h4,h5⟩:=ZbM (xs:=xs) λy hy=>h y (uP _ hy);have hx:=h x (by simp)
  refine ⟨?_,?_,?_,?_,?_⟩
  ·rw [PyData.hasDictAll,hx.hd,h1]; rfl
  ·rw [PyData.showableAll,hx.sh,h2]; rfl
  ·rw [PyData.depthAll]; have:=hx.dp; omega
  ·rw [PyData.shownAll,uX,wx,uZ,wq]; have:=hx.ln; omega
  ·rw [PyData.shownAll,uZ,uZ,h5]
theorem ZhS {xs:yx} {k n:Nat} (h:∀ x∈xs,Rp x k n):Rp (.tuple xs) (k+1) (xs.length * n+2 * xs.length+10):=by
 obtain ⟨h1,h2,h3,h4,h5⟩:=ZbM h;have c3:=tupleText_len_le (PyData.shownAll xs);refine ⟨?_,?_,?_,?_⟩
 ·rw [PyData.hasDict,h1]
 ·rw [PyData.showable,h2]
 ·rw [PyData.depth]; omega
 ·rw [PyData.shown]; omega
theorem ZhT {l:yy} {m:Nat} (h:∀ n∈l,nb 1900 n) (hl:l.length<=m):Rp (tI l) 1 (m * 1903+10):=by
 refine qY (ZhS (k:=0) (n:=1901) λx hx=>?_) (uQ _) ?_
 ·obtain ⟨i,hi,rfl⟩:=wt.mp hx;exact ZbL (h i hi)
 ·rw [uO];have:l.length * 1903<=m * 1903:=wj _ hl;omega
theorem ZhU {s:Shp} (h:s.Ok):Rp s.d 1 20000:=by
 have e:s.d=tI s.l:=by unfold Shp.d; rfl
 rw [e];refine qY (ZhT (m:=9) (λn hn=>?_) (uQ _)) (uQ _) (by decide)
 have:=h.t0;have:=h.d0;have:=h.td;unfold Shp.l at hn;simp only [uV,wF,or_false] at hn;have k:∀ n:Int,nb 45 n->nb 1900 n:=λn hn=>bn hn (by decide)
 have k1:nb 1900 s.top:=k _ (cR (by show -35184372088832 < _; omega) (by show _ < 35184372088832; omega))
 have k2:nb 1900 s.depth:=k _ (cR (by show -35184372088832 < _; omega) (by show _ < 35184372088832; omega))
 rcases hn with rfl | rfl | rfl | rfl | rfl | rfl | rfl | rfl | rfl
 ·exact k1
 ·exact k2
 ·exact k _ h.start
 ·exact k _ h.piece
 ·exact k _ h.keep
 ·exact k _ h.lack
 ·exact k _ h.lost
 ·exact k _ h.back
 ·exact k _ h.late
theorem ZaT (x:Str):(x == x)=true:=by simp
theorem euclid {p:yp} {s:yq} {E:Nat->Nat->List Sl} (hp:∀ a b:Nat,p (E a b)=.ret (decide (b≠0))) (hs:∀ a b:Nat,b≠0->s (E a b)=.ret (.next (E b (a % b)))) :
  ∀ n k a b:Nat,b < 2 ^ n->cN p s (2 * n+1+k) (E a b)=.ret (.next (E (Nat.gcd a b) 0)):=by
 have stop:∀ k a:Nat,cN p s (k+1) (E a 0)=.ret (.next (E a 0)):=λk a=>by
  rw [cN,hp,Tr.ret_bind]
  rfl
 have go:∀ k a b:Nat,b≠0->cN p s (k+1) (E a b)=cN p s k (E b (a % b)):=λk a b hb=>by
  rw [cN,hp,Tr.ret_bind,decide_eq_true hb,if_pos rfl,hs a b hb,Tr.ret_bind]
 intro n
 induction n with
 | zero =>
  intro k a b hb;have e:b=0:=by simp at hb; exact hb
  subst e;rw [Nat.gcd_zero_right,xC (2 * 0+1) k];exact stop k a
 | succ n ih =>
  intro k a b hb;by_cases h0:b=0
  ·subst h0;have e:2 * (n+1)+1+k=(2 * (n+1)+k)+1:=by omega
   rw [Nat.gcd_zero_right,e];exact stop _ a
  ·have e:2 * (n+1)+1+k=(2 * n+2+k)+1:=by omega
   rw [e,go _ a b h0];have hr:a % b < b:=Nat.mod_lt _ (vX h0);by_cases h1:a % b=0
   ·rw [h1];have e2:2 * n+2+k=(2 * n+1+k)+1:=by omega
    have eg:Nat.gcd a b=b:=by rw [Nat.gcd_comm,Nat.gcd_rec,h1,Nat.gcd_zero_left]
    rw [e2,eg];exact stop _ b
   ·have e2:2 * n+2+k=(2 * n+1+k)+1:=by omega
    rw [e2,go _ b (a % b) h1];have hlt:b % (a % b) < 2 ^ n:=by
     have h2:b % (a % b) < a % b:=Nat.mod_lt _ (vX h1);have h3:b % (a % b)+a % b<=b:=by
      have h4:=Nat.div_add_mod b (a % b);have h5:1<=b / (a % b):=(Nat.le_div_iff_mul_le (vX h1)).mpr (by omega)
      have h6:a % b<=(a % b) * (b / (a % b)):=Nat.le_mul_of_pos_right _ h5;omega
     rw [Nat.pow_succ] at hb;omega
    rw [ih k (a % b) (b % (a % b)) hlt];have eg:Nat.gcd a b=Nat.gcd (a % b) (b % (a % b)):=by
     rw [Nat.gcd_comm a b,Nat.gcd_rec b a,Nat.gcd_rec (a % b) b,Nat.gcd_comm]
    rw [eg]
theorem Zla (a b:Nat):(a:Int).fmod (b:Int)=((a % b:Nat):Int):=by
 rw [x8 _ (Int.natCast_nonneg b)]
 rfl
theorem Zqm (n:Int):pE n=(n.natAbs:Int):=by
 unfold pE
 split <;> omega
noncomputable def iU (t b:Int):PyData:=.tuple [.int (Gc.l0 t b),.int (Gc.l4 t b)]
theorem Zol {t b:Int} {l:Nat} (hb:nb l b) (h0:b≠0):nb l (Gc.den t b):=by
 unfold nb;rw [Gc.Zom];exact wM (Nat.gcd_le_right _ (by omega)) hb
noncomputable def pr (p:Int×Int):yy:=[p.1,p.2]
end Tw
namespace L2
mutual
noncomputable def cr:PyData->Bool
 | .none=>false
 | .bool _=>false
 | .int _=>false
 | .str _=>false
 | .list _=>true
 | .tuple xs=>gh xs
 | .dict kvs=>kC kvs
noncomputable def gh:List PyData->Bool
 | []=>false
 | x::xs=>cr x || gh xs
noncomputable def kC:List (PyData×PyData)->Bool
 | []=>false
 | (_,v)::r=>cr v || kC r
end
noncomputable def ju:aD->PyData
 | .inl i=>.int i
 | .inr x=>.str x
theorem ZdQ:∀ {ks ds:yx},ks.length=ds.length->kC (ks.zip ds)=gh ds
 | [],[],_=>by simp only [List.zip_nil_left,kC,gh]
 | k::ks,d::ds,h=>by
  rw [wN,kC,gh,ZdQ (Nat.succ.inj h)]
 | [],_::_,h=>by cases h
 | _::_,[],h=>by cases h
theorem Zkr {P:Program} {w:World} {h:Heap}:∀ {es:List DictEntry} {vs:List (aD×Value)},Pairs (de P w) es vs->ReadsAll h (es.map (·.key)) (vs.map λq=>ju q.1) []:=by
 intro es vs hp
 induction hp with
 | nil=>exact .nil
 | @cons e kv es kvs h1 h2 _ ih =>
  have h1':jt kv.1 e.key=true:=h1;rcases f9 h1' with ⟨i,t,e1,e2⟩ | ⟨x,t,e1,e2⟩
  ·rw [uX,uX,e1,e2];exact ReadsAll.cons (as:=[]) (bs:=[]) (.int i t) ih
  ·rw [uX,uX,e1,e2];exact ReadsAll.cons (as:=[]) (bs:=[]) (.str x t) ih
theorem Zi5 {P:Program} {w:World} {es:List DictEntry} {vs:List (aD×Value)} (hp:Pairs (de P w) es vs):es.map (·.val)=vs.map (·.2):=by
 induction hp with
 | nil=>rfl
 | @cons e kv es kvs h1 h2 _ ih=>rw [uX,uX,h2,ih]
theorem Zko:∀ {ks:List (aD×V)} {vs:List (aD×Value)},KV ks vs->Vals (ks.map (·.2)) (vs.map (·.2))/\(ks.map (·.1))=vs.map (·.1):=by
 intro ks vs kv;unfold KV at kv
 induction kv with
 | nil=>exact ⟨.nil,rfl⟩
 | cons h _ ih=>exact ⟨.cons h.2 ih.1,by rw [uX,uX,h.1,ih.2]⟩
theorem Zaa:∀ {ks ds:yx},ks.length=ds.length->(ks.zip ds).map (·.1)=ks/\(ks.zip ds).map (·.2)=ds
 | [],[],_=>⟨rfl,rfl⟩
 | k::ks,d::ds,h=>by
  obtain ⟨h1,h2⟩:=Zaa (Nat.succ.inj h);rw [wN,uX,uX,h1,h2];exact ⟨rfl,rfl⟩
 | [],_::_,h=>by cases h
 | _::_,[],h=>by cases h
mutual
/-- data without lists -/
theorem Dn.readsD {P:Program} {w:World} {H:Hp} {h:Heap} (ok:HOk P w H h):∀ {v:V} {d:PyData} {u:Value},Dn H v d->cr d=false->RelV v u->∃ as,Reads h u d as/\∀ b∈as,b≠sysModules
 | _,_,_,.non,_,r=>by cases r; exact ⟨_,.none,λb hb=>nomatch hb⟩
 | _,_,_,.bl b,_,r=>by cases r; exact ⟨_,.bool b,λb hb=>nomatch hb⟩
 | _,_,_,.int i,_,r=>by obtain ⟨t,rfl⟩:=r; exact ⟨_,.int i t,λb hb=>nomatch hb⟩
 | _,_,_,.str x,_,r=>by obtain ⟨t,rfl⟩:=r; exact ⟨_,.str x t,λb hb=>nomatch hb⟩
 | _,_,_,.tup e rs,hd,r=>by
  cases r;obtain ⟨z,its,rv,o,h1,h2,n,h3⟩:=ok _ _ e;obtain ⟨as,q,hq⟩:=DnAll.readsD ok rs (by rw [cr] at hd; exact hd) rv
  exact ⟨_,.tuple h1 h2 h3 (by simpa using q),hq⟩
 | _,_,_,.lst e rs,hd,r=>by rw [cr] at hd; cases hd
 | _,_,_,.dct (ks:=ks) (ds:=ds) e rs,hd,r=>by
  cases r;obtain ⟨z,hsys,vs,kv,o,es,ep,h1,⟨h2,_⟩,h3,_,hp,_⟩:=e.ok ok;obtain ⟨k1,k2⟩:=Zko kv;have hl:(ks.map λk=>ju k.1).length=ds.length:=by
   have:=rs.length;rw [uO] at this ⊢;exact this
  have hd2:kC ((ks.map λk=>ju k.1).zip ds)=false:=by rw [cr] at hd; exact hd
  rw [ZdQ hl] at hd2;obtain ⟨as,q,hq⟩:=DnAll.readsD ok rs hd2 k1;obtain ⟨z1,z2⟩:=Zaa hl;have k3:(ks.map λk=>ju k.1)=vs.map λq=>ju q.1:=by
   have:=congrArg (List.map ju) k2;rw [vg,vg] at this;exact this
  show ∃ as,Reads h _ (.dict ((ks.map λk=>ju k.1).zip ds)) as/\_;refine ⟨_,.dict (as:=[]) (bs:=as) h1 h2 h3 ?_ ?_,λb hb=>?_⟩
  ·rw [z1,k3];exact Zkr hp
  ·rw [z2,Zi5 hp];exact q
  ·rcases vV.mp hb with hb | hb
   ·rw [List.mem_singleton] at hb;rw [hb];exact beq_eq_false_iff_ne.mp hsys
   ·exact hq b hb
theorem DnAll.readsD {P:Program} {w:World} {H:Hp} {h:Heap} (ok:HOk P w H h):∀ {vs:yB} {ds:yx} {us:yz},DnAll H vs ds->gh ds=false->Vals vs us->∃ as,ReadsAll h us ds as/\∀ b∈as,b≠sysModules
 | _,_,_,.nil,_,r=>by cases r; exact ⟨_,.nil,λb hb=>nomatch hb⟩
 | _,_,_,.cons p t,hd,r=>by
  cases r with
  | cons r1 r2 =>
   rw [gh,Bool.or_eq_false_iff] at hd;obtain ⟨as,q,hq⟩:=Dn.readsD ok p hd.1 r1;obtain ⟨bs,q2,hq2⟩:=DnAll.readsD ok t hd.2 r2;refine ⟨_,.cons q q2,λb hb=>?_⟩;rcases vV.mp hb with hb | hb
   ·exact hq b hb
   ·exact hq2 b hb
end
def Zb3 (xs:yB) (H:Hp) (Q:VK):Prop:=∃ v d,xs=[v]/\Dn H v d/\(d.hasDict=false\/cr d=false)/\d.showable=true/\d.depth<=32/\d.shown.length<=sizeLine/\Q (.str d.shown) H
theorem ZeV {X:Cx} {k:Nat} (hr:Room k X.A):cW X (.builtin "repr") Zb3:=by
 intro pins s σ H xs us Q I r h;obtain ⟨v,d,rfl,hd,hor,hs,hdp,hz,q⟩:=h;obtain ⟨u,rfl,ru⟩:=dS r;have hun:=hr.units;have key:∀ (as:List Addr),Reads s.heap u d as->(d.hasDict=true->sysModules ∉ as)->wpAny (model X.prog X.w) X.A (call (.builtin "repr") [u]) (EP X pins σ Q) X.xe s:=by
  intro as rd hsm;have viaRef:∀ {a:Addr},u=.ref a->wpAny (model X.prog X.w) X.A (call (.builtin "repr") [u]) (EP X pins σ Q) X.xe s:=λ{a} e=>by
   subst e;exact repr_of_reads' rd hs hsm hr.gd (by omega) (λ_ _ e=>e) (λh' u' tk hk=>⟨.str d.shown,H,I.kept hk,⟨_,rfl⟩,q⟩) hz
  cases rd with
  | none=>exact PySem.P.repr_of_none ⟨.str "None",H,I.tok _,⟨_,rfl⟩,q⟩
  | bool b=>exact PySem.P.repr_of_bool ⟨.str (if b then "True" else "False"),H,I.tok _,⟨_,rfl⟩,q⟩
  | int i t=>exact PySem.P.repr_of_int (by simpa [PyData.showable] using hs) ⟨.str (toString i),H,I.tok _,⟨_,rfl⟩,q⟩
  | str x t=>exact PySem.P.repr_of_str ⟨.str (reprText x),H,I.tok _,⟨_,rfl⟩,q⟩ hz
  | list h1 h2 h3 h4=>exact viaRef rfl
  | tuple h1 h2 h3 h4=>exact viaRef rfl
  | dict h1 h2 h3 h4 h5=>exact viaRef rfl
 rcases hor with hn | hn
 ·obtain ⟨as,rd⟩:=Dn.reads I.hok hd hn ru;exact key as rd (PyData.noDict_hsm hn)
 ·obtain ⟨as,rd,hsys⟩:=Dn.readsD I.hok hd hn ru;exact key as rd λ_ hm=>hsys _ hm rfl
noncomputable def iZ (d:PyData):Bool:=(!d.hasDict || !cr d) && d.showable && decide (d.depth<=32) && decide (d.shown.length<=sizeLine)
noncomputable def lq:List PyData->Option PyData
 | [d]=>if iZ d=true then some (.str d.shown) else none
 | _=>none
theorem Zaj:dR Zb3 lq:=λPK pa m G H vs ds d Q w hv hd k=>by
 unfold lq at hd
 split at hd
 ·split at hd
  ·rename_i hc;unfold iZ at hc;simp only [vm,Bool.or_eq_true,decide_eq_true_eq,wz] at hc;cases hd;cases hv with
   | cons h1 h2=>cases h2; exact ⟨_,_,rfl,h1.mono w.sub,hc.1.1.1,hc.1.1.2,hc.1.2,hc.2,k.here w (.str _)⟩
  ·cases hd
 ·cases hd
section
variable {PK:Pk} {X:Cx} {pos:Pos} {i j:yn}
theorem Kn.dct {pa:Addr} {m:Nat} {G H:Hp} {ks:List (aD×V)} {ds:yx} {Q:VK} {p:Addr} (k:Kn PK pa m G H (.dict ((ks.map λk=>match k.1 with | .inl i=>PyData.int i | .inr x=>PyData.str x).zip ds)) Q) (w:Wd PK pa m G H) (d:DnAll G (ks.map (·.2)) ds) (hp:H p=none):Q (.ref p) (upd H p (.dK ks)):=by
 obtain ⟨w1,s1⟩:=w.new (o:=.dK ks) hp;exact k _ _ _ s1 w1 (.dct (.inl bq) (DnAll.mono s1.gs d))
theorem Zqh:PE X (.Dict [] [] pos) (TAe PK (aC (.dict []))):=ZiR.imp λσ H Q hz0=>by
 obtain ⟨pa,yE,H₀,m,ρ,G,R,q⟩:=hz0;exact λp hp=>Kn.dct (ks:=[]) (ds:=[]) q R.wd .nil hp
end
theorem ZlZ {d:PyData} (h:iZ d=true):ce lq [d]=.ret (.str d.shown):=by
 show Tr.of (if iZ d=true then some (PyData.str d.shown) else none)=_
 rw [if_pos h]
 rfl
noncomputable def plE:Expr->Bool
 | .Starred ..=>false
 | _=>true
theorem Zg6 {e:Expr} {es:List Expr} {env:Env} (h:plE e=true):starEach (e::es) env=(false,eval e env)::starEach es env:=by
 cases e <;> first | rfl | cases h
section
variable {X:Cx} {PK:Pk} {e:Expr} {es:List Expr} {i:yn} {is:yo}
theorem dG (ha:PE X e (TAe PK i)) (hr:PA X es (TAd PK is)) (hs:plE e=true:=by rfl):PA X (e::es) (TAd PK (ah i is)):=ai ha hr (Zg6 hs)
end
noncomputable def gL (h:Heap) (fs:List Addr):Heap:=⟨h.objs.mapIdx λi o=>if i∈fs then { o with data:=.freed } else o,h.life⟩
theorem nW {h:Heap} {fs:List Addr} {b:Addr} (hb:b∈fs):(gL h fs).get? b=none:=by
 unfold gL Heap.get?;simp only [Array.getElem?_mapIdx];cases h.objs[b]? with
 | none=>rfl
 | some o=>simp [hb]
theorem iu {h:Heap} {fs:List Addr} {b:Addr} (hb:b ∉ fs):(gL h fs).get? b=h.get? b:=by
 unfold gL Heap.get?;simp only [Array.getElem?_mapIdx];cases h.objs[b]? with
 | none=>rfl
 | some o=>simp [hb]
theorem ZcV (h:Heap) (fs:List Addr):(gL h fs).StaysIn h:=λb o e=>by
 by_cases hb:b∈fs
 ·rw [nW hb] at e; cases e
 ·rw [iu hb] at e; exact e
theorem ffr {h base:Heap} {l:List Env} (hl:h.FunFrames base l) (fs:List Addr) (hf:∀ b∈frs l,b∈fs):h.FunFrames (gL h fs) l:=by
 induction l with
 | nil=>trivial
 | cons env rest ih =>
  obtain ⟨hk,⟨L,o,he,hn,ho,hd⟩,hr⟩:=hl;have hm:∀ b∈frs rest,b∈frs (env::rest):=λb hb=>by
   unfold frs at hb ⊢;rw [vT,he];exact uP _ hb
  refine ⟨hk,⟨L,o,he,nW (hf L ?_),ho,hd⟩,ih hr λb hb=>hf b (hm b hb)⟩;unfold frs;rw [vT,he];exact vM
theorem HOk.tracked {P:Program} {w:World} {H:Hp} {h h':Heap} (x:HOk P w H h) (k:∀ b u,H b≠none->h.get? b=some u->h'.get? b=some u):HOk P w H h':=λa o e =>
 (x a o e).stay (λb u hb q=>k b u (λz=>by rcases hb with r | r <;> (first | (subst r; rw [z] at e; cases e) | (rw [z] at r; cases r))) q) (λ_ q=>q) (λ_ _ q=>q) λ_ _ _ _ q _=>q
theorem ObjOk.get {P:Program} {w:World} {H:Hp} {h:Heap} {a:Addr} {o:HO} (x:ObjOk P w H h a o):∃ u,h.get? a=some u:=by
 cases o with
 | lst xs=>obtain ⟨_,_,_,_,e⟩:=x; exact ⟨_,e⟩
 | tup xs=>obtain ⟨_,_,_,ob,e,_⟩:=x; exact ⟨_,e⟩
 | dK kvs=>obtain ⟨_,_,_,_,o,_,_,e,_⟩:=x; exact ⟨_,e⟩
 | dT kvs=>obtain ⟨_,_,_,_,o,_,_,e,_⟩:=x; exact ⟨_,e⟩
 | set S n=>obtain ⟨o,_,_,_,e,_⟩:=x; exact ⟨_,e⟩
 | ins C dx fs=>obtain ⟨_,_,_,e,_⟩:=x; exact ⟨_,e⟩
 | own y=>obtain ⟨_,e⟩:=x; exact ⟨_,e⟩
 | xd fs=>obtain ⟨_,⟨_,_,_,e,_⟩,_⟩:=x; exact ⟨_,e⟩
 | rng lo hi=>obtain ⟨_,_,_,e⟩:=x; exact ⟨_,e⟩
 | frz ob u=>obtain ⟨e,_⟩:=x; exact ⟨_,e⟩
 | tbl ps=>exact ⟨_,(show h.get? a=some _ from x)⟩
 | met f y=>exact ⟨_,(show h.get? a=some _ from x)⟩
 | ext φ=>obtain ⟨_,⟨_,e⟩,_⟩:=x; exact ⟨_,e⟩
 | cod ps=>obtain ⟨_,e,_⟩:=x; exact ⟨_,e⟩
noncomputable def CXE (P:Program) (w:World):eQ:=λouter H s E e s'=>∃ (ea t:Addr) (cls:Value) (b':Heap) (H':Hp),e=.ref ea/\s'.os=s.os/\AllBare s'.gens/\Un (frs outer) [] H H' s.heap s'.heap/\HOk P w H' s'.heap /\
 Heap.FlyingW b' outer ea cls (.ref t) s'.heap/\(∀ b o,s.heap.get? b=some o->b ∉ frs outer->∃ o',b'.get? b=some o')/\(∀ b,H' b≠none->∃ o',b'.get? b=some o')/\E cls none H'
theorem Zif {P:Program} {w:World} {K:ym} {mg:yC} {base:Heap} {N:yA} {qual:Str} {scope:Scope} {f:Addr} {cd:Value} {A:Around} {outer:List Env} {s₀:Shared} {H₀:Hp} {E:XK}
  {pins:yF} {σ:St} {H:Hp} {s:Shared} {h':Heap} {e:Addr} {cls:Value} {args:yz}
  (I:Inv (cK (CXE P w) P w K mg base N qual scope f cd A outer s₀ H₀ E) pins σ H s) (hx:Heap.MadeExcOf s.heap h' e cls args) (hE:E cls none H) :
  (cK (CXE P w) P w K mg base N qual scope f cd A outer s₀ H₀ E).xe (.ref e) { s with heap:=h' }:=by
 let X:=cK (CXE P w) P w K mg base N qual scope f cd A outer s₀ H₀ E
 have hst:s.heap.FunFrames base (envOfC qual scope s₀.heap.objs.size f cd::outer):=I.stack;have hfree:∀ b∈frs (envOfC qual scope s₀.heap.objs.size f cd::outer),H b=none:=I.stkFree;have hfr:(A.deeper (envOfC qual scope s₀.heap.objs.size f cd)).frames=some (envOfC qual scope s₀.heap.objs.size f cd::outer):=I.ok.frames;have hbase:Un (frs outer) [] H₀ H s₀.heap s.heap:=I.base;obtain ⟨_,⟨L,oL,hL,_,hoL,_⟩,_⟩:=id hst;have hLe:L=s₀.heap.objs.size:=(vc hL).symm;have hfs:∀ b,b∈frs (envOfC qual scope s₀.heap.objs.size f cd::outer) ↔ b=L\/b∈frs outer:=λb=>by
  unfold frs;rw [vT,hL];exact uV
 show wpAny (model P w) (A.deeper (envOfC qual scope s₀.heap.objs.size f cd)) (leaving (envOfC qual scope s₀.heap.objs.size f cd) (.ref e)) (λ_ s''=>CXE P w outer H₀ s₀ E (.ref e) s'') (λe' s''=>CXE P w outer H₀ s₀ E e' s'') { s with heap:=h' };refine wpAny_leaves_madeW (s:={ s with heap:=h' }) (base:=gL s.heap (frs (envOfC qual scope s₀.heap.objs.size f cd::outer))) hfr hL (ZcV _ _) (ffr hst _ λb hb=>hb) hx λh'' t fl tup tn ups=>?_;have stay:∀ b o,s.heap.get? b=some o->b ∉ frs (envOfC qual scope s₀.heap.objs.size f cd::outer)->h''.get? b=some o:=λb o hb hn=>fl.1 b o (by rw [iu hn]; exact hb)
 have slot:∀ b o,s.heap.get? b=some o->b∈frs (envOfC qual scope s₀.heap.objs.size f cd::outer)->∃ sl,h''.get? b=some { o with slots:=sl }:=λb o hb hn=>by
  obtain ⟨_,o',ho',hd⟩:=hst.mem hn;rw [hb] at ho';cases ho';exact ups b o (hx.keeps b o hb) hd
 have old:∀ b o,s₀.heap.get? b=some o->b≠L:=λb o hb z=>by
  have:=uY hb;rw [z,hLe] at this;exact absurd this (ve _)
 have un:Un (frs outer) [] H₀ H s₀.heap h'':=by
  refine ⟨λb o hb hn hf hx=>?_,λb o hb hn hf hx=>?_,hbase.free,λb o hb hx=>?_,hbase.tups,hbase.frzs,hbase.tbls⟩
  ·exact stay b o (hbase.keep b o hb hn hf hx) λz=>((hfs b).mp z).elim (old b o hb) hf
  ·obtain ⟨sl,e1⟩:=hbase.slot b o hb hn hf hx;obtain ⟨dJ,e2⟩:=slot b _ e1 ((hfs b).mpr (.inr hf));exact ⟨dJ,e2⟩
  ·obtain ⟨o',e1⟩:=hbase.there b o hb hx;by_cases hq:b∈frs (envOfC qual scope s₀.heap.objs.size f cd::outer)
   ·obtain ⟨dJ,e2⟩:=slot b _ e1 hq;exact ⟨_,e2⟩
   ·exact ⟨o',stay b o' e1 hq⟩
 refine ⟨e,t,cls,_,H,rfl,I.os,I.bare,un,HOk.tracked I.hok λb u hb q=>stay b u q λz=>hb (hfree b z),fl,λb o hb hf=>?_,λb hb=>?_,hE⟩
 ·obtain ⟨o',e1⟩:=hbase.there b o hb (by simp)
  exact ⟨o',by rw [iu λz=>((hfs b).mp z).elim (old b o hb) hf]; exact e1⟩
 ·cases e1:H b with
  | none=>exact absurd e1 hb
  | some u =>
   obtain ⟨o',e2⟩:=(I.hok b u e1).get;exact ⟨o',by rw [iu λz=>hb (hfree b z)]; exact e2⟩
theorem rebase {b' h:Heap} {l:List Env} {e:Addr} {cls a0:Value} (x:Heap.FlyingW b' l e cls a0 h):∃ T,b'.get? T=none/\(∃ oT ts,h.get? T=some oT/\oT.data=.fields ts)/\(∃ oe vs,h.get? e=some oe/\oe.cls=cls/\oe.data=.fields vs)/\Heap.FlyingW (gL h (e::T::frs l)) l e cls a0 h:=by
 obtain ⟨f1,f2,f3,oe,vs,T,oT,ts,he,hc,hd,h1,hT,hTe,hoT,hdT,h3⟩:=x;refine ⟨T,hT,⟨oT,ts,hoT,hdT⟩,⟨oe,vs,he,hc.1,hd⟩,ZcV _ _,nW (by simp),ffr f3 _ λb hb=>uP _ (uP _ hb),oe,vs,T,oT,ts,he,hc,hd,h1,nW (by simp),hTe,hoT,hdT,h3⟩
theorem lands {P:Program} {w:World} {A:Around} {env:Env} {outer:List Env} {L:Addr} {H:Hp} {s:Shared} {b':Heap} {e:Addr} {cls a0:Value} {Q:Unit->Shared->Prop} {E:yw}
  (hfr:A.frames=some (env::outer)) (hf:env.frame=some L) (hfl:Heap.FlyingW b' (env::outer) e cls a0 s.heap) (hok:HOk P w H s.heap) (hst:∀ b∈frs (env::outer),H b=none) (ht:∀ b,H b≠none->∃ o',b'.get? b=some o')
  (k:∀ h' T,b'.get? T=none->T ∉ frs (env::outer)->Un (frs (env::outer)) [e,T] H H s.heap h'->HOk P w H h'->Heap.FlyingW (gL s.heap (e::T::frs (env::outer))) (env::outer) e cls a0 h'->Q () { s with heap:=h' }) :
  wpAny (model P w) A (noteFrame (.ref e) env) (λ_ s₂=>wpAny (model P w) A (setFlight (.ref e) none) Q E s₂) E s:=by
 obtain ⟨T,hT,⟨oT,ts,hoT,hdT⟩,⟨oe,vs,hoe,hoc,hod⟩,fl⟩:=rebase hfl;have nof:∀ {b:Addr} {o:Obj} {us:Array Value},s.heap.get? b=some o->o.data=.fields us->b ∉ frs (env::outer):=λ{b o us} h1 h2 z=>by
  obtain ⟨_,o',ho',hd⟩:=hfl.2.2.1.mem z;rw [h1] at ho';cases ho';exact hd us h2
 refine wpAny_looks_onW hfr hf fl λh₄ held ups₄=>?_;refine wpAny_landsW held λh₅ fl₅ ups₅=>?_;have ups:=ups₄.trans ups₅;have stay:∀ b o,s.heap.get? b=some o->b ∉ frs (env::outer)->b ∉ [e,T]->h₅.get? b=some o:=λb o hb hn hx=>fl₅.1 b o (by
  rw [iu]
  ·exact hb
  ·intro z;rcases uV.mp z with z | z
   ·exact hx (by simp [z])
   ·rcases uV.mp z with z | z
    ·exact hx (by simp [z])
    ·exact hn z)
 have slot:∀ b o,s.heap.get? b=some o->b∈frs (env::outer)->∃ sl,h₅.get? b=some { o with slots:=sl }:=λb o hb hn=>by
  obtain ⟨_,o',ho',hd⟩:=hfl.2.2.1.mem hn;rw [hb] at ho';cases ho';exact ups b o hb hd
 have non:∀ b,b'.get? b=none->H b=none:=λb hb=>by
  cases e1:H b with
  | none=>rfl
  | some u =>
   obtain ⟨o',e2⟩:=ht b (by rw [e1]; simp)
   rw [hb] at e2; cases e2
 have he:H e=none:=non e hfl.2.1;have hTn:H T=none:=non T hT;refine k h₅ T hT (nof hoT hdT) ⟨λb o hb hn hf hx=>stay b o hb hf hx,λb o hb hn hf hx=>slot b o hb hf,λb o hb hn hx=>hn,λb o hb hx=>?_,λ_ _ z=>z,λ_ _ _ z=>z,λb ps z=>⟨#[],by rw [z,Array.append_empty]⟩⟩
  (HOk.tracked hok λb u hb q=>stay b u q (λz=>hb (hst b z)) λz=>?_) fl₅
 ·by_cases hq:b∈frs (env::outer)
  ·obtain ⟨sl,e1⟩:=slot b o hb hq;exact ⟨_,e1⟩
  ·exact ⟨o,stay b o hb hq hx⟩
 ·rcases uV.mp z with z | z
  ·subst z; exact hb he
  ·rcases uV.mp z with z | z
   ·subst z; exact hb hTn
   ·cases z
structure Xcl (K:ym) (C:Addr) (bmB:yz) (newId:String):Prop where
 ex:∃ (nm q:Str) (N:Addr) (bs bm:yz) (hdct:Bool) (sn:yA) (sub:yz) (ab:Bool) (col:Option Bool) (dd:Option Addr) (k0 k1 k2 k3 k5:Option Value) (mN:yC),
  K.lookup C=some (excClassObj nm q C N bs bm hdct sn sub ab col dd k0 k1 k2 k3 k5 newId)/\(∀ h:Heap,K.In h->h.Ns N mN/\OwnTail h bmB bm)/\mN "__init__"=none/\bm.contains (.type "BaseException")=true
theorem Zie {X:Cx} {pins:yF} {σ:St} {H:Hp} {s:Shared} {x:Str} {np cpos pos:Pos} {arg:Expr} {C:Addr} {B newId initId:String} {bmB:yz} {t:TE} {Q:Flow->Shared->Prop}
  (F:ExcBaseFacts B newId initId bmB) (c:Xcl X.K C bmB newId) (hg:Gl X x) (hm:X.mg x=some (.ref C)) (hc:X.calm=true) (ha:PE X arg t) (I:Inv X pins σ H s)
  (h:t σ H λv H1=>∀ s1 h' e args,Inv X pins σ H1 s1->Heap.MadeExcOf s1.heap h' e (.ref C) args->X.xe (.ref e) { s1 with heap:=h' })
  (hs:starEach [arg] X.env=[(false,eval arg X.env)]:=by rfl) (hdb:(x == ("__debug__":Str))=false:=by decide) :
  wpAny (model X.prog X.w) X.A (exec (.Raise (some (.Call (.Name x np) [arg] [] cpos)) none pos) X.env) Q X.xe s:=by
 obtain ⟨nm,q,N,bs,bm,hdct,sn,sub,ab,col,dd,k0,k1,k2,k3,k5,mN,lk,hn,hni,hb⟩:=c.ex;refine wpAny_Raise_call_subT (C:=C) (nm:=nm) (q:=q) (N:=N) (bs:=bs) (bm:=bm) (hdct:=hdct) (sn:=sn) (sub:=sub) (ab:=ab) (col:=col) (dd:=dd) (k0:=k0) (k1:=k1) (k2:=k2) (k3:=k3) (k5:=k5) (mN:=mN) F hb (I.ok.hd hc) (by rw [hs]; rfl) hni ?_
 refine oG I hg hm ⟨rfl,?_⟩ (hd:=hdb);rw [hs];refine Calls.evalArgs_plain (Calls.spliced_cons (thn (ha pins s σ H _ I h) λu s1 hz0=>Calls.spliced_nil ?_));obtain ⟨v,H1,I1,r1,z⟩:=hz0;have KX:X.K.In s1.heap:=I1.kIn;exact ⟨rfl,by show 1<=sizeLine; decide,KX _ _ lk,(hn _ KX).1,(hn _ KX).2,λh' e hx=>z s1 h' e _ I1 hx⟩
theorem Zit {P:Program} {w:World} {K:ym} {mg:yC} {base:Heap} {N:yA} {qual:Str} {scope:Scope} {f:Addr} {cd:Value} {A:Around} {outer:List Env} {s₀:Shared} {H₀:Hp} {E:XK}
  {x msg:Str} {np cpos pos mp:Pos} {mk:Nat} {C:Addr} {B newId initId:String} {bmB:yz}
  (F:ExcBaseFacts B newId initId bmB) (c:Xcl K C bmB newId) (hg:Gl (cK (CXE P w) P w K mg base N qual scope f cd A outer s₀ H₀ E) x) (hm:mg x=some (.ref C)) (hdb:(x == ("__debug__":Str))=false:=by decide) :
  PS (cK (CXE P w) P w K mg base N qual scope f cd A outer s₀ H₀ E) (.Raise (some (.Call (.Name x np) [.Constant (.str msg) mk mp] [] cpos)) none pos) (λ_ _ H=>E (.ref C) none H):=by
 intro pins s σ H D I h;exact Zie F c hg hm rfl cX I (λs1 h' e args I1 hx=>Zif I1 hx h) rfl hdb
theorem Un.skip {fs ex:List Addr} {H H1 H2:Hp} {h h1 h2:Heap} (a:Un fs [] H H1 h h1) (b:Un fs ex H1 H2 h1 h2) (hx:∀ c∈ex,h.get? c=none):Un fs [] H H2 h h2:=by
 have no:∀ {c:Addr} {o:Obj},h.get? c=some o->c ∉ ex:=λ{c o} e z=>by rw [hx c z] at e; cases e
 refine ⟨λc o e n f _=>?_,λc o e n f _=>?_,λc o e n _=>?_,λc o e _=>?_,λc xs e=>b.tups c xs (a.tups c xs e),λc o u e=>b.frzs c o u (a.frzs c o u e),λc ps e=>?_⟩
 ·exact b.keep c o (a.keep c o e n f (by simp)) (a.free c o e n (by simp)) f (no e)
 ·obtain ⟨sl,e1⟩:=a.slot c o e n f (by simp)
  obtain ⟨dJ,e2⟩:=b.slot c _ e1 (a.free c o e n (by simp)) f (no e)
  exact ⟨dJ,e2⟩
 ·obtain ⟨o',e1⟩:=a.there c o e (by simp)
  exact b.free c o' e1 (a.free c o e n (by simp)) (no e)
 ·obtain ⟨o',e1⟩:=a.there c o e (by simp)
  exact b.there c o' e1 (no e)
 ·obtain ⟨m1,e1⟩:=a.tbls c ps e;obtain ⟨m2,e2⟩:=b.tbls c _ e1;exact ⟨m1++m2,by rw [e2,xh]⟩
theorem tR {X:Cx} {pins:yF} {σ:St} {H:Hp} {s s':Shared} {E:XK} {e:Value} {outer:List Env} {L:Addr} {Q:Unit->Shared->Prop} {EE:yw}
  (I:Inv X pins σ H s) (hstk:X.stack=X.env::outer) (hL:X.env.frame=some L) (hq:CXE X.prog X.w X.stack H s E e s')
  (k:∀ (ea:Addr) (cls:Value) (H':Hp) (h':Heap),e=.ref ea->Inv X pins σ H' { s' with heap:=h' }->H' ea=none->(∃ oe,h'.get? ea=some oe/\oe.cls=cls)->(∃ b'' t,Heap.FlyingW b'' X.stack ea cls (.ref t) h'/\(∀ c,b''.get? c=none->c ∉ frs X.stack->s.heap.get? c=none)/\∀ b,H' b≠none->∃ o',b''.get? b=some o')->Un (frs X.stack) [] H H' s.heap h'->E cls none H'->Q () { s' with heap:=h' }) :
  wpAny (model X.prog X.w) X.A (noteFrame e X.env) (λ_ s₂=>wpAny (model X.prog X.w) X.A (setFlight e none) Q EE s₂) EE s':=by
 obtain ⟨ea,t,cls,b',H',rfl,os,bare,un,hok,fl,hb',ht,hE⟩:=hq;have hst:∀ b∈frs X.stack,H b=none:=I.stkFree;have funs:s.heap.FunFrames X.base X.stack:=I.stack;have hst':∀ b∈frs X.stack,H' b=none:=λb hb=>by
  obtain ⟨_,o,ho,_⟩:=funs.mem hb;exact un.free b o ho (hst b hb) (by simp)
 have hfr:X.A.frames=some X.stack:=I.ok.frames;have notin:∀ c:Addr,b'.get? c=none->c ∉ frs X.stack->s.heap.get? c=none:=λc hc hf=>by
  cases e1:s.heap.get? c with
  | none=>rfl
  | some o =>
   obtain ⟨o',e2⟩:=hb' c o e1 hf;rw [hc] at e2; cases e2
 have hea:ea ∉ frs X.stack:=λz=>by
  obtain ⟨_,o',ho',hd⟩:=fl.2.2.1.mem z;obtain ⟨oe,vs,e1,_,e2,_⟩:=fl.first;rw [e1] at ho';cases ho';exact hd vs e2
 rw [hstk] at hfr fl hst' un hea notin;refine lands hfr hL fl hok hst' ht λh₅ T hT hTf un5 hok5 fl5=>?_;have un':=un.skip un5 λc hc=>by
  rcases uV.mp hc with z | z
  ·subst z; exact notin c fl.2.1 hea
  ·rcases uV.mp z with z | z
   ·subst z; exact notin c hT hTf
   ·cases z
 rw [<- hstk] at un';have I5:Inv X pins σ H' { s' with heap:=h₅ }:=I.call' (s':={ s' with heap:=h₅ }) os un' hok5 bare λb hb=>absurd hb (by simp)
 have he:H' ea=none:=by
  cases e1:H' ea with
  | none=>rfl
  | some u =>
   obtain ⟨o',e2⟩:=ht ea (by rw [e1]; simp)
   rw [fl.2.1] at e2; cases e2
 refine k ea cls H' h₅ rfl I5 he fl5.there ⟨_,t,by rw [hstk]; exact fl5,λc hc hf=>?_,λb hb=>?_⟩ un' hE
 rotate_left
 ·cases e1:H' b with
  | none=>exact absurd e1 hb
  | some u =>
   obtain ⟨o',e2⟩:=(hok b u e1).get;refine ⟨o',?_⟩;rw [iu]
   ·exact e2
   ·intro z;rcases uV.mp z with z | z
    ·subst z; exact hb he
    ·rcases uV.mp z with z | z
     ·subst z;obtain ⟨o3,e3⟩:=ht b hb;rw [hT] at e3; cases e3
     ·exact hb (hst' b z)
 by_cases h1:c=ea
 ·subst h1; exact notin c fl.2.1 hea
 ·by_cases h2:c=T
  ·subst h2; exact notin c hT hTf
  ·rw [iu (λz=>by
    rcases uV.mp z with z | z
    ·exact h1 z
    ·rcases uV.mp z with z | z
     ·exact h2 z
     ·rw [hstk] at hf; exact hf z)] at hc
   cases e1:s.heap.get? c with
   | none=>rfl
   | some o =>
    obtain ⟨o',e2⟩:=un.there c o e1 (by simp)
    rw [hc] at e2; cases e2
end L2
namespace L2
open PySem.Calls
section
variable {M:Model} {A:Around} {E:yw}
variable {nm q:Str} {C N:Addr} {bs bm:yz} {hdct:Bool} {sn:yA} {sub:yz} {ab:Bool} {col:Option Bool} {dd:Option Addr} {k0 k1 k2 k3 k5:Option Value} {newId:String}
variable {nm' q':Str} {D N':Addr} {bs' bm':yz} {hdct':Bool} {sn':yA} {sub':yz} {ab':Bool} {col':Option Bool} {dd':Option Addr} {j0 j1 j2 j3 j5:Option Value} {newId':String}
theorem Zld {h:Heap} {g:Array GenState} {d:Drawn} {t:Nat} {os:OsState} {e:Addr} {oe:Obj} {Q:Bool->Shared->Prop}
  (hC:h.get? C=some (excClassObj nm q C N bs bm hdct sn sub ab col dd k0 k1 k2 k3 k5 newId)) (hD:h.get? D=some (excClassObj nm' q' D N' bs' bm' hdct' sn' sub' ab' col' dd' j0 j1 j2 j3 j5 newId')) (he:h.get? e=some oe) (hcls:oe.cls=.ref C)
  (hbase:bm'.contains (.type "BaseException")=true) (hin:bm.contains (.ref D)=true)
  (hq:Q true ⟨h,g,d,t,os⟩):wpAny M A (excMatches (.ref e) (.ref D)) Q E ⟨h,g,d,t,os⟩:=by
 have hcB:(Value.ref D::bm').contains (.type "BaseException")=true:=by rw [wQ,hbase,Bool.or_true]
 have hcC:(Value.ref C::bm).contains (.ref D)=true:=by rw [wQ,hin,Bool.or_true]
 have f:=tc_notTuple;unfold excMatches
 repeat (first | (with_reducible refine wpAny_loadPart_at he ?_; rw [hcls]) | with_reducible refine wpAny_loadPart_at hD ?_ | (with_reducible refine wpAny_isSubtype_exc hD ?_; rw [hcB]) | (with_reducible refine wpAny_isSubtype_exc hC ?_; rw [hcC]) | wp_step)
 exact hq
end
section
variable {prog:Program} {w:World} {A:Around} {E:yw} {s:Shared} {env:Env}
theorem ZkS {e C D:Addr} {t:Expr} {n:Str} {b₀:Stmt} {suite:List Stmt} {pos:Pos} {rest:List ExceptHandler} {Q:Flow->Shared->Prop}
  {nm q:Str} {N:Addr} {bs bm:yz} {hdct:Bool} {sn:yA} {sub:yz} {ab:Bool} {col:Option Bool} {dd:Option Addr} {k0 k1 k2 k3 k5:Option Value} {newId:String}
  {nm' q':Str} {N':Addr} {bs' bm':yz} {hdct':Bool} {sn':yA} {sub':yz} {ab':Bool} {col':Option Bool} {dd':Option Addr} {j0 j1 j2 j3 j5:Option Value} {newId':String}
  (hbase:bm'.contains (.type "BaseException")=true) (hin:bm.contains (.ref D)=true)
  (h:wpAny (model prog w) (A.mark (some (.ref e))) (eval t env) (λc s₁=>c=.ref D/\s₁.heap.get? C=some (excClassObj nm q C N bs bm hdct sn sub ab col dd k0 k1 k2 k3 k5 newId)/\s₁.heap.get? D=some (excClassObj nm' q' D N' bs' bm' hdct' sn' sub' ab' col' dd' j0 j1 j2 j3 j5 newId')/\(∃ oe,s₁.heap.get? e=some oe/\oe.cls=.ref C) /\
   wpAny (model prog w) (A.mark (some (.ref e))) (setFlight (.ref e) none) (λ_ s₂ =>
     wpAny (model prog w) (A.mark (some (.ref e))) (storeName env n (.ref e)) (λ_ s₃ =>
      wpAny (model prog w) (A.mark (some (.ref e))) (execs (b₀::suite) env)
       (λf s₄=>wpAny (model prog w) A (do bindName env n .none; unbindBehindTheSuite env n pos) (λ_ s₅=>Q f s₅) E s₄)
       (AsSuiteRaised (model prog w) (A.mark (some (.ref e))) env n pos (notedBy (model prog w) (A.mark (some (.ref e))) env (cameBackBy (model prog w) A env E))) s₃) (notedBy (model prog w) (A.mark (some (.ref e))) env (cameBackBy (model prog w) A env E)) s₂) (notedBy (model prog w) (A.mark (some (.ref e))) env (cameBackBy (model prog w) A env E)) s₁) (notedBy (model prog w) (A.mark (some (.ref e))) env (cameBackBy (model prog w) A env E)) s) :
  wpAny (model prog w) A (handleBy (.ref e) env (.ExceptHandler (some t) (some n) (b₀::suite) pos::rest)) Q E s:=by
 refine wpAny_handleBy_cons (codeAny_handlers_test (wpAny_mono h (λc s₁ h₁=>?_) λ_ _ y=>y)) (by intro q; cases q)
 obtain ⟨rfl,hC,hD,⟨oe,he,hcls⟩,hk⟩:=h₁;obtain ⟨hh,g,d,tk,os⟩:=s₁;exact Zld hC hD he hcls hbase hin (codeAny_handlers_suite_as hk)
end
end L2
namespace L2
section
variable {X:Cx} {pins:yF} {σ:St} {H:Hp} {s:Shared}
theorem sv {A:Around} {E:yw} {x:Str} {u:Value} {pos:Pos} {Q:yw} (I:Inv X pins σ H s) (hg:Gl X x) (hm:X.mg x=some u) (h:Q u s)
  (hd:(x == ("__debug__":Str))=false:=by decide):wpAny (model X.prog X.w) A (eval (.Name x pos) X.env) Q E s :=
 xt I.ok.kind hg (Calls.loadGlobal_global (by rw [I.ok.glob]; exact I.mod.glob.keeps I.bk) hm h) hd
theorem ZjC {M:Model} {A:Around} {E:yw} {i:Nat} {x:Str} {pos:Pos} {Q:Unit->Shared->Prop} (I:Inv X pins σ H s) (hN:X.N.Nodup) (hi:X.N[i]?=some x) (hk:X.env.kindOf x=some .local)
  (h:∀ s',Inv X pins (σ.set i none) H s'->Q () s'):wpAny M A (do bindName X.env x .none; unbindBehindTheSuite X.env x pos) Q E s:=by
 obtain ⟨m,hn,hl⟩:=id I.loc;have hcls:(X.env.scope.kind == .class || (X.env.scope.kind == .module && X.env.locals != X.env.globals))=false:=by rw [I.ok.kind]; rfl
 have hiσ:i < σ.length:=by rw [I.len]; exact (uR.mp hi).1
 have cne:=I.cne;have tracked:∀ {a:Addr} {h':Heap},(∃ o,s.heap.get? a=some o/\H a=none)->Heap.SameBut a s.heap h'->HOk X.prog X.w H h':=λ{a h'} ha hs b ob e=>by
  obtain ⟨_,_,hfree⟩:=ha;refine (I.hok b ob e).stay (λc w' hc q=>(hs.2 c ?_).trans q) (λ_ q=>q) (λ_ _ q=>q) λ_ _ _ _ q _=>q;rintro rfl;rcases hc with rfl | hc
  ·rw [hfree] at e; cases e
  ·rw [hfree] at hc; cases hc
 refine wpAny_nameGoes_keeps hk hn hcls λh' v hn' hs=>?_;obtain ⟨oL,_,_,hoL,_⟩:=id hn;refine h _ ⟨I.ok,I.os,I.bare,⟨λb o e n hb hx=>?_,λb o e n hb hx=>?_,I.base.free,λb o e hx=>?_,I.base.tups,I.base.frzs,I.base.tbls⟩,⟨_,hn',λj y v' e1 e2 e3=>?_⟩,λy c e=>?_,I.free,I.freeC,λp hp=>?_,tracked ⟨oL,hoL,I.free⟩ hs,by simpa using I.len⟩
 ·exact (hs.2 b (u9 (uU (uY e) I.ok.above))).trans (I.base.keep b o e n hb hx)
 ·obtain ⟨sl,e1⟩:=I.base.slot b o e n hb hx;exact ⟨sl,(hs.2 b (u9 (uU (uY e) I.ok.above))).trans e1⟩
 ·obtain ⟨o',e1⟩:=I.base.there b o e hx;exact ⟨o',(hs.2 b (u9 (uU (uY e) I.ok.above))).trans e1⟩
 ·by_cases hj:j=i
  ·subst hj;rw [vf hiσ] at e2;cases e2
  ·rw [u5 (Ne.symm hj)] at e2;obtain ⟨u',r',q⟩:=hl j y v' e1 e2 e3;refine ⟨u',r',?_⟩;rcases q with ⟨k,e⟩ | ⟨k,c,e,z⟩
   ·refine .inl ⟨k,?_⟩;have:y≠x:=λe=>hj (rX hN e1 (e ▸ hi));simp [this,e]
   ·exact .inr ⟨k,c,e,z.sameBut hs (cne y c e)⟩
 ·obtain ⟨w',z⟩:=I.cell y c e;exact ⟨w',z.sameBut hs (cne y c e)⟩
 ·obtain ⟨e,n,ne,nf,d⟩:=I.pin p hp;exact ⟨(hs.2 p.1 ne).trans e,n,ne,nf,d⟩
def dl (e:Addr) (cls:Value) (h:Heap):Prop:=∃ oe,h.get? e=some oe/\oe.cls=cls
theorem Zkl {A:Around} {H0:Hp} {s0:Shared} {b':Heap} {e t:Addr} {cls:Value} {Q:Unit->Shared->Prop} {E:yw}
  (I0:Inv X pins σ H0 s0) (I:Inv X pins σ H s) (un:Un (frs X.stack) [] H0 H s0.heap s.heap) (he:H e=none) (fl:Heap.FlyingW b' X.stack e cls (.ref t) s.heap) (hf:∀ c,b'.get? c=none->c ∉ frs X.stack->s0.heap.get? c=none)
  (hb:∀ b,H b≠none->∃ o',b'.get? b=some o') (hos:s.os=s0.os)
  (k:∀ h',Inv X pins σ (upd H e (.ext (dl e cls))) { s with heap:=h' }->Q () { s with heap:=h' }):wpAny (model X.prog X.w) A (setFlight (.ref e) none) Q E s:=by
 obtain ⟨T,hT,⟨oT,ts,hoT,hdT⟩,⟨oe,vs,hoe,hoc,hod⟩,fl'⟩:=rebase fl;have hst:∀ b∈frs X.stack,H b=none:=I.stkFree;have nof:∀ {b:Addr} {o:Obj} {us:Array Value},s.heap.get? b=some o->o.data=.fields us->b ∉ frs X.stack:=λ{b o us} h1 h2 z=>by
  obtain ⟨_,o',ho',hd⟩:=fl.2.2.1.mem z;rw [h1] at ho';cases ho';exact hd us h2
 refine lands_againW fl' λh₅ fl₅ ups=>?_;have stay:∀ b o,s.heap.get? b=some o->b ∉ frs X.stack->b ∉ [e,T]->h₅.get? b=some o:=λb o hb hn hx=>fl₅.1 b o (by
  rw [iu]
  ·exact hb
  ·intro z;rcases uV.mp z with z | z
   ·exact hx (by simp [z])
   ·rcases uV.mp z with z | z
    ·exact hx (by simp [z])
    ·exact hn z)
 have slot:∀ b o,s.heap.get? b=some o->b∈frs X.stack->∃ sl,h₅.get? b=some { o with slots:=sl }:=λb o hb hn=>by
  obtain ⟨_,o',ho',hd⟩:=fl.2.2.1.mem hn;rw [hb] at ho';cases ho';exact ups b o hb hd
 have hTn:H T=none:=by
  cases e1:H T with
  | none=>rfl
  | some u =>
   obtain ⟨o',e2⟩:=hb T (by rw [e1]; simp)
   rw [hT] at e2; cases e2
 have un5:Un (frs X.stack) [e,T] H H s.heap h₅:=⟨λb o hb hn hf hx=>stay b o hb hf hx,λb o hb hn hf hx=>slot b o hb hf,λb o hb hn hx=>hn,λb o hb hx=>by
  by_cases hq:b∈frs X.stack
  ·obtain ⟨sl,e1⟩:=slot b o hb hq;exact ⟨_,e1⟩
  ·exact ⟨o,stay b o hb hq hx⟩,λ_ _ z=>z,λ_ _ _ z=>z,λb ps z=>⟨#[],by rw [z,Array.append_empty]⟩⟩
 have hok5:HOk X.prog X.w H h₅:=HOk.tracked I.hok λb u hb q=>stay b u q (λz=>hb (hst b z)) λz=>by
  rcases uV.mp z with z | z
  ·subst z; exact hb he
  ·rcases uV.mp z with z | z
   ·subst z; exact hb hTn
   ·cases z
 have un':=un.skip un5 λc hc=>by
  rcases uV.mp hc with z | z
  ·subst z; exact hf c fl.2.1 (nof hoe hod)
  ·rcases uV.mp z with z | z
   ·subst z; exact hf c hT (nof hoT hdT)
   ·cases z
 obtain ⟨oe5,hoe5,hoc5⟩:=fl₅.there;have hs0:s0.heap.get? e=none:=hf e fl.2.1 (nof hoe hod);have ne0:∀ {b:Addr} {o:Obj},s0.heap.get? b=some o->b≠e:=λ{b o} h1 z=>by rw [z,hs0] at h1; cases h1
 have nH:∀ {b:Addr} {o:HO},H b=some o->b≠e:=λ{b o} h1 z=>by rw [z,he] at h1; cases h1
 have un2:Un (frs X.stack) [] H0 (upd H e (.ext (dl e cls))) s0.heap h₅:=⟨un'.keep,un'.slot,λb o hb hn hx=>by rw [ap (ne0 hb)]; exact un'.free b o hb hn hx,un'.there,
  λb xs z=>by rw [ap (nH (un'.tups b xs z))]; exact un'.tups b xs z,λb o u z=>by rw [ap (nH (un'.frzs b o u z))]; exact un'.frzs b o u z,λb ps z=>by
   obtain ⟨m,z⟩:=un'.tbls b ps z;exact ⟨m,by rw [ap (nH z)]; exact z⟩⟩
 have hok2:HOk X.prog X.w (upd H e (.ext (dl e cls))) h₅:=λb o hb=>by
  by_cases hbe:b=e
  ·subst hbe;rw [bq] at hb;cases hb;exact ⟨⟨oe5,hoe5,hoc5⟩,⟨oe5,hoe5⟩,λh1 h2 ⟨o1,e1,c1⟩ kk=>⟨o1,kk o1 e1,c1⟩⟩
  ·rw [ap hbe] at hb;exact (hok5 b o hb).stay (λ_ _ _ q=>q) (λc z=>by rw [ap (nH z)]; exact z) (λc xs z=>by rw [ap (nH z)]; exact z) λc ob xs _ z _=>by rw [ap (nH z)]; exact z
 exact k h₅ (I0.call' (s':={ s with heap:=h₅ }) hos un2 hok2 I.bare λb hb=>absurd hb (by simp))
end
abbrev Cx.marked (X:Cx) (ea:Addr):Cx:={ X with A:=X.A.mark (some (.ref ea)),calm:=false,xe:=λ_ _=>False }
theorem Inv.marked {X:Cx} {pins:yF} {σ:St} {H:Hp} {s:Shared} (I:Inv X pins σ H s) (ea:Addr):Inv (X.marked ea) pins σ H s :=
 ⟨⟨I.ok.mod,I.ok.kind,I.ok.glob,I.ok.blt,I.ok.above,I.ok.inj,I.ok.has,I.ok.cab,λz=>(by cases z),I.ok.frames,I.ok.stk,I.ok.exf,I.ok.bs,I.ok.bsz,I.ok.noex,I.ok.exfs,I.ok.funs,I.ok.frf⟩,I.os,I.bare,I.base,I.loc,I.cell,I.free,I.freeC,I.pin,I.hok,I.len⟩
theorem Inv.unmarked {X:Cx} {pins:yF} {σ:St} {H:Hp} {s:Shared} {ea:Addr} (I:Inv (X.marked ea) pins σ H s) (I0:X.Ok):Inv X pins σ H s :=
 ⟨I0,I.os,I.bare,I.base,I.loc,I.cell,I.free,I.freeC,I.pin,I.hok,I.len⟩
structure Under (K:ym) (C D:Addr):Prop where
 ex:∃ (nm q:Str) (N:Addr) (bs bm:yz) (hdct:Bool) (sn:yA) (sub:yz) (ab:Bool) (col:Option Bool) (dd:Option Addr) (k0 k1 k2 k3 k5:Option Value) (newId:String),K.lookup C=some (excClassObj nm q C N bs bm hdct sn sub ab col dd k0 k1 k2 k3 k5 newId)/\bm.contains (.ref D)=true
 top:∃ (nm q:Str) (N:Addr) (bs bm:yz) (hdct:Bool) (sn:yA) (sub:yz) (ab:Bool) (col:Option Bool) (dd:Option Addr) (k0 k1 k2 k3 k5:Option Value) (newId:String),K.lookup D=some (excClassObj nm q D N bs bm hdct sn sub ab col dd k0 k1 k2 k3 k5 newId)/\bm.contains (.type "BaseException")=true
end L2
namespace PySem
def clsNames:yA:=["__getattribute__","__getattr__","__class__"]
inductive OwnTailN (h:Heap) (bmB:yz):List Value->Prop
 | base:OwnTailN h bmB bmB
 | own {A:Addr} {c0:Value} {dd:Option Addr} {cd:ClassData} {sl:Array (Option Value)} {mA:yC} {tl:yz} :
   h.get? A=some { cls:=c0,dict:=dd,data:=.cls cd,slots:=sl }->h.Ns cd.ns mA->(∀ n∈clsNames,mA n=none)->OwnTailN h bmB tl->OwnTailN h bmB (.ref A::tl)
theorem OwnTailN.hasType {h:Heap} {bmB tl:yz} (T:OwnTailN h bmB tl) {X:String} {b:Bool} (hb:bmB.contains (.type X)=b):tl.contains (.type X)=b:=by
 induction T with
 | base=>exact hb
 | own _ _ _ _ ih=>rw [wQ,ih]; rfl
section
variable {M:Model} {A:Around} {E:yw} {h:Heap} {g:Array GenState} {d:Drawn} {t:Nat} {os:OsState}
theorem wpAny_lookupAlong_tailN {bmB tl:yz} {n:Str} {y:Option Value} {Q:Option Value->Shared->Prop} (hn:n∈clsNames) (T:OwnTailN h bmB tl) (hrest:lookupAlong bmB n=pure y) (hq:Q y ⟨h,g,d,t,os⟩) :
  wpAny M A (lookupAlong tl n) Q E ⟨h,g,d,t,os⟩:=by
 induction T with
 | base=>rw [hrest]; exact wpAny_pure hq
 | own hA hN hni _ ih =>
  rw [lookupAlong_cons];refine wpAny_bind (wpAny_classOwn_cls hA hN ?_);rw [hni n hn];exact ih
variable {nm q:Str} {C N:Addr} {bs bm bmB:yz} {hdct:Bool} {sn:yA} {sub:yz} {ab:Bool} {col:Option Bool} {dd:Option Addr} {k0 k1 k2 k3 k5:Option Value} {B newId:String}
theorem wpAny_typeLookup_tailN {mN:yC} {n:Str} {y:Option Value} {Q:Option Value->Shared->Prop} (hn:n∈clsNames)
  (hC:h.get? C=some (excClassObj nm q C N bs bm hdct sn sub ab col dd k0 k1 k2 k3 k5 newId)) (hN:h.Ns N mN) (hmN:∀ n∈clsNames,mN n=none) (T:OwnTailN h bmB bm) (hbm:mroOf (.type B)=pure bmB)
  (hB:typeLookup (.type B) n=pure y) (hq:Q y ⟨h,g,d,t,os⟩):wpAny M A (typeLookup (.ref C) n) Q E ⟨h,g,d,t,os⟩:=by
 have hrest:lookupAlong bmB n=pure y:=by rw [typeLookup_eq,hbm] at hB; exact hB
 rw [typeLookup_eq];refine wpAny_bind (wpAny_mroOf_exc hC ?_);rw [lookupAlong_cons];refine wpAny_bind (wpAny_classOwn_exc hC hN ?_);rw [hmN n hn];exact wpAny_lookupAlong_tailN hn T hrest hq
end
section
variable {prog:Program} {w:World} {A:Around} {E:yw} {h:Heap} {g:Array GenState} {d:Drawn} {t:Nat} {os:OsState} {a:Addr} {o:Obj}
 {nm q:Str} {C N:Addr} {bs bm bmB:yz} {hdct:Bool} {sn:yA} {sub:yz} {ab:Bool} {col:Option Bool} {dd:Option Addr} {k0 k1 k2 k3 k5:Option Value} {B newId:String} {mN:yC}
theorem class_get_exc {R:Result->Shared->Prop} (hC:h.get? C=some (excClassObj nm q C N bs bm hdct sn sub ab col dd k0 k1 k2 k3 k5 newId)) (hob:bm.contains (.type "object")=true)
  (hx:h.get? a=some o) (hc:o.cls=.ref C) (hq:R (.ok (.ret (.ref C))) ⟨h,g,d,t,os⟩) :
  codeAny (model prog w) A (.call (.builtin "getset_descriptor.__get__") ⟨[.builtin "object.__class__",.ref a,.ref C],[]⟩) R ⟨h,g,d,t,os⟩:=by
 have hT5:(⟨h,g,d,t,os⟩:Shared).TypeIs (.builtin "object.__class__") "getset_descriptor":=xN;have hcB:(Value.ref C::bm).contains (.type (".".intercalate ("object.__class__".cutAt '.').dropLast))=true:=by
  rw [F.owner_object_class,wQ,hob]; rfl
 refine codeAny_call_builtin F.slot_gs_get.plain F.entry_gs_get (F.slot_gs_get.check _ _ _ _ _ _ _ _ hT5 (F.args_gs_get _ _ _) ?_)
 repeat (any_goals (first | assumption | (with_reducible refine wpAny_loadPart_at hx ?_; rw [hc]) | (with_reducible refine wpAny_isSubtype_exc hC ?_; rw [hcB]) | wp_step))
 refine ⟨Code.quiet_builtin _ (by trivial),codeAny_builtin F.entry_object_class ?_⟩
 repeat (any_goals (first | assumption | (with_reducible refine wpAny_loadPart_at hx ?_; rw [hc]) | wp_step))
theorem class_entry_exc {tk:Tok} {Q:Fin->Shared->Prop} (hC:h.get? C=some (excClassObj nm q C N bs bm hdct sn sub ab col dd k0 k1 k2 k3 k5 newId)) (hob:bm.contains (.type "object")=true) (hN:h.Ns N mN)
  (hmN:∀ n∈clsNames,mN n=none) (T:OwnTailN h bmB bm) (hmro:mroOf (.type B)=pure bmB) (hlk:typeLookup (.type B) "__class__"=pure (some (.builtin "object.__class__"))) (hx:h.get? a=some o) (hc:o.cls=.ref C) (hq:Q (.done (.ret (.ref C))) ⟨h,g,d,t,os⟩) :
  wpAny (model prog w) A (Builtin.«object.__getattribute__» ⟨[.ref a,.str "__class__" tk],[]⟩) Q E ⟨h,g,d,t,os⟩:=by
 have hT5:(⟨h,g,d,t,os⟩:Shared).TypeIs (.builtin "object.__class__") "getset_descriptor":=xN;have f5:=xN;have f6:=F.slot_gs_get.lookup;have f7:=F.slot_gs_set.lookup;have hmA:("__class__":Str)∈clsNames:=.tail _ (.tail _ (.head _))
 repeat (any_goals (first | assumption | (with_reducible refine wpAny_loadPart_at hx ?_; rw [hc]) | with_reducible refine wpAny_typeLookup_tailN hmA hC hN hmN T hmro hlk ?_ | wp_step))
 refine class_get_exc hC hob hx hc ?_
 repeat (any_goals (first | assumption | wp_step))
theorem check_ga_exc {M:Model} {nameV:Value} {Q:Unit->Shared->Prop} (hC:h.get? C=some (excClassObj nm q C N bs bm hdct sn sub ab col dd k0 k1 k2 k3 k5 newId)) (hbase:bm.contains (.type "BaseException")=true)
  (hx:h.get? a=some o) (hc:o.cls=.ref C) (hq:Q () ⟨h,g,d,t,os⟩):wpAny M A (checkBuiltinCall "BaseException.__getattribute__" ⟨[.ref a,nameV],[]⟩) Q E ⟨h,g,d,t,os⟩:=by
 have hk:builtinKind "BaseException.__getattribute__"=some .slot:=by trivial
 have hsplit:splitId "BaseException.__getattribute__"=some ("BaseException","__getattribute__"):=by trivial
 have hcB:(Value.ref C::bm).contains (.type "BaseException")=true:=by rw [wQ,hbase]; rfl
 have ha:=F.args_bexc_ga (.ref a) nameV;simp only [checkBuiltinCall,hk,hsplit];refine wpAny_bind ?_
 ·unfold isInstance
  repeat (first | (with_reducible refine wpAny_loadPart_at hx ?_; rw [hc]) | (with_reducible refine wpAny_isSubtype_exc hC ?_; rw [hcB]) | wp_step)
  exact hq
theorem class_by_exc {tk:Tok} {Q:yw} (FB:ExcAttrBase B bmB) (hC:h.get? C=some (excClassObj nm q C N bs bm hdct sn sub ab col dd k0 k1 k2 k3 k5 newId)) (hob:bmB.contains (.type "object")=true) (hN:h.Ns N mN)
  (hmN:∀ n∈clsNames,mN n=none) (T:OwnTailN h bmB bm) (hlk:typeLookup (.type B) "__class__"=pure (some (.builtin "object.__class__"))) (hx:h.get? a=some o) (hc:o.cls=.ref C) (hq:Q (.ref C) ⟨h,g,d,t,os⟩) :
  wpAny (model prog w) A (getAttrBy (.ref a) (.str "__class__" tk) false) Q E ⟨h,g,d,t,os⟩:=by
 have f3:=FB.ga.bind (.ref a);have hx2:(Value.builtin "BaseException.__getattribute__" == Value.builtin "object.__getattribute__")=false:=by trivial
 have hx1:(onTheHeap (Value.ref C) && Value.builtin "BaseException.__getattribute__" == Value.builtin "object.__getattribute__")=false:=by rw [hx2]; rfl
 have hm1:("__getattribute__":Str)∈clsNames:=.head _;have hm2:("__getattr__":Str)∈clsNames:=.tail _ (.head _)
 repeat (any_goals (first | assumption | (with_reducible refine wpAny_loadPart_at hx ?_; rw [hc]) | with_reducible refine wpAny_typeLookup_tailN hm1 hC hN hmN T FB.mro FB.ga.lookup ?_ | with_reducible refine wpAny_typeLookup_tailN hm2 hC hN hmN T FB.mro FB.noGetattr ?_ | wp_step))
 refine codeAny_call_builtin FB.ga.plain F.entry_bexc_ga (check_ga_exc hC (T.hasType FB.hasBase) hx hc (class_entry_exc hC (T.hasType hob) hN hmN T FB.mro hlk hx hc ?_))
 repeat (any_goals (first | assumption | wp_step))
theorem class_attr_exc {Q:Option Value->Shared->Prop} (FB:ExcAttrBase B bmB) (hC:h.get? C=some (excClassObj nm q C N bs bm hdct sn sub ab col dd k0 k1 k2 k3 k5 newId)) (hob:bmB.contains (.type "object")=true) (hN:h.Ns N mN)
  (hmN:∀ n∈clsNames,mN n=none) (T:OwnTailN h bmB bm) (hlk:typeLookup (.type B) "__class__"=pure (some (.builtin "object.__class__"))) (hx:h.get? a=some o) (hc:o.cls=.ref C) (hq:Q (some (.ref C)) ⟨h,g,d,t+1,os⟩) :
  wpAny (model prog w) A (getAttr? (.ref a) "__class__") Q E ⟨h,g,d,t,os⟩:=by
 unfold getAttr? getAttrBy?
 repeat (any_goals (first | assumption | with_reducible apply class_by_exc FB hC hob hN hmN T hlk hx hc | wp_step))
end
end PySem
namespace L2
structure Xci (K:ym) (C:Addr) (bmB:yz):Prop where
 ex:∃ (nm q:Str) (N:Addr) (bs bm:yz) (hdct:Bool) (sn:yA) (sub:yz) (ab:Bool) (col:Option Bool) (dd:Option Addr) (k0 k1 k2 k3 k5:Option Value) (newId:String) (mN:yC),
  K.lookup C=some (excClassObj nm q C N bs bm hdct sn sub ab col dd k0 k1 k2 k3 k5 newId)/\(∀ h:Heap,K.In h->h.Ns N mN/\OwnTailN h bmB bm)/\∀ n∈clsNames,mN n=none
theorem sj:typeLookup (.type "ValueError") "__class__"=pure (some (.builtin "object.__class__")):=by rw [typeLookup_type,builtinLookup_eq_fast]; kernel_rfl
theorem sJ {K:ym} {ea C:Addr} {B:String} {bmB:yz} (c:Xci K C bmB) (FB:ExcAttrBase B bmB) (hob:bmB.contains (.type "object")=true) (hlk:typeLookup (.type B) "__class__"=pure (some (.builtin "object.__class__"))) :
  PySem.W.KitX K (.ref ea) (.ref C) (dl ea (.ref C)) where
 ty:=λM h _ p=>by
  obtain ⟨o,h1,h2⟩:=p;exact h2 ▸ (PySem.W.Looks.ld h1).andThen .now
 it:=λ_ _ X _=>by
  obtain ⟨nm,q,N,bs,bm,hdct,sn,sub,ab,col,dd,k0,k1,k2,k3,k5,newId,mN,lk,_⟩:=c.ex;intro A' Q' E' s' k q;unfold isType loadHead;exact wpAny_bind (wpAny_loadPart (k _ _ (X _ _ lk)) (wpAny_pure q))
 ne:=λh tp dd its n sl X htp=>by
  obtain ⟨nm,q,N,bs,bm,hdct,sn,sub,ab,col,dd',k0,k1,k2,k3,k5,newId,mN,lk,_⟩:=c.ex;refine Bool.eq_false_iff.mpr λq=>?_;have e:C=tp:=Value.ref.inj (beq_iff_eq.mp q);subst e;have z:=(X _ _ lk).symm.trans htp;have z2:=congrArg (λo=>(o.getD default).cls) z;exact absurd z2 (by simp)
 ca:=λ{prog w A E Q s} X p k=>by
  obtain ⟨nm,q,N,bs,bm,hdct,sn,sub,ab,col,dd',k0,k1,k2,k3,k5,newId,mN,lk,hn,hmN⟩:=c.ex;obtain ⟨h,g,d,t,os⟩:=s;obtain ⟨o,h1,h2⟩:=p;exact class_attr_exc FB (X _ _ lk) hob (hn _ X).1 hmN (hn _ X).2 hlk h1 h2 k
section
variable {X:Cx} {C:Addr} {B:String} {bmB:yz}
theorem Zpk (c:Xci X.K C bmB) (FB:ExcAttrBase B bmB) (hob:bmB.contains (.type "object")=true) (hlk:typeLookup (.type B) "__class__"=pure (some (.builtin "object.__class__"))) :
  cW X (.builtin "isinstance") (λxs H Q=>∃ ea D b,xs=[.ref ea,.ref D]/\H ea=some (.ext (dl ea (.ref C)))/\PySem.W.kitOne X.K (.ref C) (.ref D)=some b/\Q (.bl b) H):=by
 intro pins s σ H xs us Q I r h;obtain ⟨ea,D,b,rfl,he,e,q⟩:=h;obtain ⟨u,v,rfl,ru,rv⟩:=hZ r;cases ru;cases rv;have p:dl ea (.ref C) s.heap:=(I.hok ea _ he).1;exact vJ (sJ c FB hob hlk) I.kIn p e (λz=>nomatch z) λtk=>⟨.bl b,H,I.tok tk,rfl,q⟩
theorem Zpj (c:Xci X.K C bmB) (FB:ExcAttrBase B bmB) (hob:bmB.contains (.type "object")=true) (hlk:typeLookup (.type B) "__class__"=pure (some (.builtin "object.__class__"))) :
  cW X (.builtin "isinstance") (λxs H Q=>∃ ea T b,xs=[.ref ea,.ty T]/\H ea=some (.ext (dl ea (.ref C)))/\PySem.W.kitOne X.K (.ref C) (.type T)=some b/\Q (.bl b) H):=by
 intro pins s σ H xs us Q I r h;obtain ⟨ea,T,b,rfl,he,e,q⟩:=h;obtain ⟨u,v,rfl,ru,rv⟩:=hZ r;cases ru;cases rv;have p:dl ea (.ref C) s.heap:=(I.hok ea _ he).1;exact vJ (sJ c FB hob hlk) I.kIn p e (λz=>nomatch z) λtk=>⟨.bl b,H,I.tok tk,rfl,q⟩
theorem Zap:∀ {ds:List Addr} {us:yz},Vals (ds.map V.ref) us->us=ds.map Value.ref
 | [],_,r=>by cases r; rfl
 | d::ds,_,r=>by
  cases r with
  | cons r1 rr =>
   cases r1;rw [Zap rr]
   rfl
theorem Zpi (c:Xci X.K C bmB) (FB:ExcAttrBase B bmB) (hob:bmB.contains (.type "object")=true) (hlk:typeLookup (.type B) "__class__"=pure (some (.builtin "object.__class__"))) :
  cW X (.builtin "isinstance") (λxs H Q=>∃ (ea tp:Addr) (ds:List Addr) (b:Bool),xs=[.ref ea,.ref tp]/\H ea=some (.ext (dl ea (.ref C)))/\H tp=some (.tup (ds.map V.ref))/\PySem.W.kitAny X.K (.ref C) (ds.map Value.ref)=some b/\Q (.bl b) H):=by
 intro pins s σ H xs us Q I r h;obtain ⟨ea,tp,ds,b,rfl,he,ht,e,q⟩:=h;obtain ⟨u,v,rfl,ru,rv⟩:=hZ r;cases ru;cases rv;have p:dl ea (.ref C) s.heap:=(I.hok ea _ he).1;obtain ⟨_,its,rr,o,ho,hoc,n,hod⟩:=(show ObjOk X.prog X.w H s.heap tp (.tup (ds.map V.ref)) from I.hok tp _ ht)
 have hits:=Zap rr;subst hits;obtain ⟨oc,od,odt,osl⟩:=o;cases hoc;cases hod;exact PySem.W.kia_tup (sJ c FB hob hlk) I.kIn p ho e (λz=>nomatch z) λtk=>⟨.bl b,H,I.tok tk,rfl,q⟩
end
structure CalleeX (P:Program) (w:World) (K:ym) (mg:yC) (base:Heap) (x:Str) (k:Nat) (ps:yA) (sp:Sp):Prop where
 ex:∃ f fd,FnOk P w K mg base (CXE P w) k f fd ps sp/\mg x=some (.ref f)/\PySem.W.keepIn K (.ref f)=true/\Binds K fd ps []
theorem Def.okX {P:Program} {w:World} {K:ym} {mg:yC} {base:Heap} {x:Str} {st:Stmt} {N ps:yA} {k:Nat} {sp:Sp} (D:Def K mg x st ps) (S:FnScope N ps (aG st)) (len:∀ vs H Q E,sp vs H Q E->vs.length=ps.length)
  (hbody:∀ (f:Addr) (cdv:Value) (A:Around) (outer:List Env) (s:Shared) (H:Hp) (vs:yB) (Q:VK) (E:XK),Room k (A.deeper (envOfC x (aG st) s.heap.objs.size f cdv))->sp vs H Q E ->
   ∃ t,PSs (cK (CXE P w) P w K mg base N x (aG st) f cdv A outer s H E) (dA st) t/\t { nx:=λ_ H'=>Q .non H',rt:=Q } (start N vs) H):CalleeX P w K mg base x (k+1) ps sp:=by
 obtain ⟨f,fd,F,hm,hb⟩:=D.ex;obtain ⟨oc,od,kV,doc,pm,an,cdv,ct,osl,rfl,lk,hcd⟩:=F.ex;exact ⟨f,_,sX lk hcd S len λA outer s H vs Q E hr hsp=>hbody f cdv A outer s H vs Q E hr hsp,hm,F.kp,hb⟩
end L2
namespace L2
open PySem.W
theorem ZpO:bootBuiltins "ValueError"=some (.type "ValueError"):=by trivial
noncomputable def fI:yz:=[.type "ValueError",.type "Exception",.type "BaseException",.type "object"]
noncomputable def nh (K:Frag) (bmB:yz):List Value->Bool
 | []=>bmB == []
 | v::r=>(v::r) == bmB || match v with
  | .ref A=>(match K.lookup A with
   | some ⟨_,_,.cls cd,_⟩=>nsOkIn K cd.ns && (nsIn K cd.ns "__getattribute__" == some none && nsIn K cd.ns "__getattr__" == some none && nsIn K cd.ns "__class__" == some none) && nh K bmB r
   | _=>false)
  | _=>false
theorem ZeN {m:yC} (a:m "__getattribute__"=none) (b:m "__getattr__"=none) (c:m "__class__"=none):∀ n∈clsNames,m n=none:=by
 intro n hn;unfold clsNames at hn;simp only [uV,wF,or_false] at hn;rcases hn with rfl | rfl | rfl
 ·exact a
 ·exact b
 ·exact c
theorem Zaw {K:Frag} {h:Heap} {bmB:yz} (X:K.In h):∀ {l:yz},nh K bmB l=true->OwnTailN h bmB l
 | [],e=>by rw [<- beq_iff_eq.mp e]; exact .base
 | v::r,e=>by
  unfold nh at e;rcases Bool.or_eq_true_iff.mp e with q | q
  ·rw [beq_iff_eq.mp q]; exact .base
  ·split at q
   ·split at q
    ·rename_i ho;simp only [vm,beq_iff_eq] at q;exact .own (X _ _ ho) (.of_isNs (isNs_of_in X q.1.1)) (ZeN (nsMap_none_of_in X q.1.1 q.1.2.1.1) (nsMap_none_of_in X q.1.1 q.1.2.1.2) (nsMap_none_of_in X q.1.1 q.1.2.2)) (Zaw X q.2)
    ·cases q
   ·cases q
noncomputable def fP (K:Frag) (C:Addr) (bmB:yz) (newId:String):Bool:=match K.lookup C with
 | some ⟨.type "type",_,.cls cd,sl⟩=>(match cd.mro,sl.toList with
  | .ref C'::bm,[_,_,_,_,some (.builtin n),_]=>C' == C && n == newId && !cd.hasDel && tailIn K bmB bm && nh K bmB bm && nsOkIn K cd.ns && nsIn K cd.ns "__init__" == some none
    && nsIn K cd.ns "__getattribute__" == some none && nsIn K cd.ns "__getattr__" == some none && nsIn K cd.ns "__class__" == some none && bm.contains (.type "BaseException")
  | _,_=>false)
 | _=>false
noncomputable def oh (K:Frag) (C D:Addr):Bool:=match K.lookup C with
 | some ⟨_,_,.cls cd,_⟩=>cd.mro.tail.contains (.ref D)
 | _=>false
theorem Zjt {K:Frag} {N:Addr} {h h':Heap} {m:yC} (X:K.In h) (X':K.In h') (e:nsOkIn K N=true) (n:h.Ns N m):h'.Ns N m:=by
 obtain ⟨o,es,ep,ho,r⟩:=n;refine ⟨o,es,ep,?_,r⟩;unfold nsOkIn at e;cases hl:K.lookup N with
 | none=>rw [hl] at e; cases e
 | some u =>
  have h1:=X _ _ hl;rw [ho] at h1;cases h1;exact X' _ _ hl
theorem mT {K:Frag} {h:Heap} {C:Addr} {bmB:yz} {newId:String} (X:K.In h) (q:fP K C bmB newId=true) :
  ∃ (nm q:Str) (N:Addr) (bs bm:yz) (hdct:Bool) (sn:yA) (sub:yz) (ab:Bool) (col:Option Bool) (dd:Option Addr) (k0 k1 k2 k3 k5:Option Value) (mN:yC),
  K.lookup C=some (excClassObj nm q C N bs bm hdct sn sub ab col dd k0 k1 k2 k3 k5 newId)/\(∀ h:Heap,K.In h->h.Ns N mN/\OwnTail h bmB bm/\OwnTailN h bmB bm)/\mN "__init__"=none/\(∀ n∈clsNames,mN n=none)/\bm.contains (.type "BaseException")=true:=by
 unfold fP at q
 split at q
 ·rename_i dd cd sl ho
  split at q
  ·rename_i C' bm k0 k1 k2 k3 n k5 hm hs;simp only [vm,beq_iff_eq,wz] at q;obtain ⟨⟨⟨⟨⟨⟨⟨⟨⟨⟨rfl,rfl⟩,hdel⟩,ht⟩,htn⟩,hok⟩,hni⟩,n1⟩,n2⟩,n3⟩,hb⟩:=q;obtain ⟨nm,bs,mro,ns,qn,hd,sn,sub,ab,col,del⟩:=cd;dsimp only at hm hdel hok hni n1 n2 n3;subst hm hdel;have hsl:sl=#[k0,k1,k2,k3,some (.builtin n),k5]:=by
    obtain ⟨l⟩:=sl;simp only at hs;rw [hs]
   subst hsl;exact ⟨nm,qn,ns,bs,bm,hd,sn,sub,ab,col,dd,k0,k1,k2,k3,k5,_,ho,λh' X'=>⟨Zjt X X' hok (.of_isNs (isNs_of_in X hok)),tail_of_in X' ht,Zaw X' htn⟩,nsMap_none_of_in X hok hni,ZeN (nsMap_none_of_in X hok n1) (nsMap_none_of_in X hok n2) (nsMap_none_of_in X hok n3),hb⟩
  ·cases q
 ·cases q
theorem ZfV {K:Frag} {h:Heap} {C:Addr} {bmB:yz} {newId:String} (X:K.In h) (q:fP K C bmB newId=true):Xcl K C bmB newId:=by
 obtain ⟨nm,q,N,bs,bm,hdct,sn,sub,ab,col,dd,k0,k1,k2,k3,k5,mN,lk,hn,hi,hc,hb⟩:=mT X q;exact ⟨nm,q,N,bs,bm,hdct,sn,sub,ab,col,dd,k0,k1,k2,k3,k5,mN,lk,λh X=>⟨(hn h X).1,(hn h X).2.1⟩,hi,hb⟩
theorem ZfW {K:Frag} {h:Heap} {C:Addr} {bmB:yz} {newId:String} (X:K.In h) (q:fP K C bmB newId=true):Xci K C bmB:=by
 obtain ⟨nm,q,N,bs,bm,hdct,sn,sub,ab,col,dd,k0,k1,k2,k3,k5,mN,lk,hn,hi,hc,hb⟩:=mT X q;exact ⟨nm,q,N,bs,bm,hdct,sn,sub,ab,col,dd,k0,k1,k2,k3,k5,newId,mN,lk,λh X=>⟨(hn h X).1,(hn h X).2.2⟩,hc⟩
theorem Zgd {K:Frag} {h:Heap} {C D:Addr} {bmB:yz} {newId:String} (X:K.In h) (q:fP K C bmB newId=true) (q':fP K D bmB newId=true) (u:oh K C D=true):Under K C D:=by
 obtain ⟨nm,qq,N,bs,bm,hdct,sn,sub,ab,col,dd,k0,k1,k2,k3,k5,mN,lk,hn,hi,hc,hb⟩:=mT X q;obtain ⟨nm',qq',N',bs',bm',hdct',sn',sub',ab',col',dd',j0,j1,j2,j3,j5,mN',lk',hn',hi',hc',hb'⟩:=mT X q';refine ⟨⟨nm,qq,N,bs,bm,hdct,sn,sub,ab,col,dd,k0,k1,k2,k3,k5,newId,lk,?_⟩,⟨nm',qq',N',bs',bm',hdct',sn',sub',ab',col',dd',j0,j1,j2,j3,j5,newId,lk',hb'⟩⟩;unfold oh at u;rw [lk] at u;exact u
structure Exc (K:Frag) (C D:Addr) (ds:List Addr):Prop where
 cl:Xcl K C fI "ValueError.__new__"
 ci:Xci K C fI
 un:Under K C D
 vt:kitOne K (.ref C) (.type "ValueError")=some true
 any:kitAny K (.ref C) (ds.map Value.ref)=some false
theorem Zlc {K:Frag} {h:Heap} {C D:Addr} {ds:List Addr} (X:K.In h) (q:fP K C fI "ValueError.__new__"=true) (q':fP K D fI "ValueError.__new__"=true) (u:oh K C D=true) (vt:kitOne K (.ref C) (.type "ValueError")=some true)
  (any:kitAny K (.ref C) (ds.map Value.ref)=some false):Exc K C D ds:=⟨ZfV X q,ZfW X q,Zgd X q q' u,vt,any⟩
theorem Zkq {K:Frag} {C:Addr}:kitOne K (.ref C) (.ref C)=some true:=by
 unfold kitOne;rw [if_pos (beq_self_eq_true _)]
end L2
namespace L2
variable {PK:Pk} {X:Cx} {st:Stmt} {i n:yn}
noncomputable def Zce (K:ym):V->V->Hp->VK->Prop:=λx y H Q=>∃ p xs i v,x=.ref p/\y=.int i/\SqL K H p xs/\0<=i/\bp xs i=some v/\Q v H
theorem ZdS:ZfI X (Zce X.K):=by
 intro pins s σ H x y v u Q I rx ry h;obtain ⟨p,xs,i,z,rfl,rfl,hq,h0,he,q⟩:=h;cases rx;obtain ⟨t,rfl⟩:=ry;obtain ⟨its,r,pl,hz⟩:=I.list hq;obtain ⟨j,h1,h2,h3,h4,h5⟩:=pf he;obtain ⟨w,ew,rw'⟩:=r.get h2;have hl:=r.length;have hn:=iB;have fin:EP X pins σ Q w s:=⟨z,H,I,rw',q⟩;have hj:i.toNat=j:=by
  rw [seqIndex_of h0 h5] at h1;exact vc h1
 exact wpAny_getItem_list pl.isList h0 (by omega) (by rw [hj]; simpa using ew) fin
noncomputable def rW (xs:yx):PyData->Option (Nat×Int)
 | .int y=>if 0<=y then (match xs[y.toNat]? with | some (.int a)=>some (y.toNat,a) | _=>none) else none
 | _=>none
noncomputable def ZdI:PyData->Option Int
 | .int b=>some b
 | _=>none
noncomputable def jJ (g:Int->Int->Int) (k:Nat) (n i:yn):yq:=λρ=>match ρ[k]? with
 | some (.own xs)=>(n ρ).bind λy=>(Tr.of (rW xs y)).bind λja=>(i ρ).bind λz=>(Tr.of (ZdI z)).bind λb=>.ret (.next (ρ.set k (.own (xs.set ja.1 (.int (g ja.2 b))))))
 | _=>.fail
theorem Zfs {k:Nat} {g:Int->Int->Int} (h:PS X st (ZaG (eS k) (TAe PK n) (TAe PK i) (Zce X.K) (sL g) rh)):PS X st (bF PK (jJ g k n i)):=h.imp λD σ H hz0=>by
 obtain ⟨pa,yE,H₀,m,ρ,G,R,z⟩:=hz0;unfold jJ at z
 split at z
 ·rename_i xs hx;obtain ⟨o,h1,h2⟩:=R.sl k _ hx;cases h2 with
  | @own p vs _ a1 a2 a3 a4 =>
   refine ⟨_,h1,?_⟩;refine TAe.then R z λm1 y v G1 H1 s1 w1 R1 d1 q1=>?_;rw [Tr.ok_bind] at q1;obtain ⟨ja,hja,q1⟩:=Tr.ok_of q1;cases d1 with
   | int y =>
    have hy:∃ a,0<=y/\xs[y.toNat]?=some (.int a)/\ja=(y.toNat,a):=by
     have hja:(if 0<=y then (match xs[y.toNat]? with | some (.int a)=>some (y.toNat,a) | _=>none) else none)=some ja:=hja
     by_cases h0:0<=y
     ·rw [if_pos h0] at hja;cases e:xs[y.toNat]? with
      | none=>rw [e] at hja; cases hja
      | some u =>
       rw [e] at hja;cases u with
       | int a=>cases hja; exact ⟨a,h0,rfl,rfl⟩
       | _=>cases hja
     ·rw [if_neg h0] at hja; cases hja
    obtain ⟨a,h0,hat,rfl⟩:=hy;obtain ⟨o,h1',h2⟩:=R1.sl k _ hx;rw [h1] at h1';cases h1';cases h2 with
    | @own _ vs1 _ b1 b2 b3 b4 =>
     obtain ⟨va,hva,da⟩:=DnAll.get y.toNat b4 hat;cases da;refine ⟨p,vs1,y,.int a,rfl,rfl,SqL.of b1,h0,fJ h0 hva,?_⟩;refine TAe.then R1 q1 λm2 z2 u G2 H2 s2 w2 R2 d2 q2=>?_;rw [Tr.ok_bind] at q2;obtain ⟨b,hb,q2⟩:=Tr.ok_of q2;cases d2 with
     | int b' =>
      cases hb;obtain ⟨o,h1',h2⟩:=R2.sl k _ hx;rw [h1] at h1';cases h1';cases h2 with
      | @own _ vs2 _ c1 c2 c3 c4 =>
       have hlt:y.toNat < xs.length:=(uR.mp hat).1;refine ⟨a,b,rfl,rfl,p,vs2,y,y.toNat,rfl,rfl,c1,?_,?_⟩
       ·unfold cT;rw [if_pos h0,if_pos (by rw [c4.length]; omega)]
       ·exact q2 σ G2 _ (s1.gs.trans s2.gs) (R2.change hx h1 (c4.set y.toNat (.int _)))
     | _=>cases hb
   | _=>cases hja
 ·exact z.elim
variable {ρ:yD} {k:Nat} {g:Int->Int->Int} {xs:yx} {sl:Sl}
noncomputable def ag3 (g:Int->Int->Int) (k:Nat) (xs:yx) (ρ:yD) (ja:Nat×Int) (b:Int):Tr Ou:=.ret (.next (ρ.set k (.own (xs.set ja.1 (.int (g ja.2 b))))))
noncomputable def uk (g:Int->Int->Int) (k:Nat) (xs:yx) (ρ:yD) (ja:Nat×Int) (z:PyData):Tr Ou:=(Tr.of (ZdI z)).bind (ag3 g k xs ρ ja)
noncomputable def ul (g:Int->Int->Int) (k:Nat) (i:yn) (xs:yx) (ρ:yD) (ja:Nat×Int):Tr Ou:=(i ρ).bind (uk g k xs ρ ja)
noncomputable def um (g:Int->Int->Int) (k:Nat) (i:yn) (xs:yx) (ρ:yD) (y:PyData):Tr Ou:=(Tr.of (rW xs y)).bind (ul g k i xs ρ)
theorem Zd7 (h:ρ[k]?=some (.own xs)):jJ g k n i ρ=(n ρ).bind (um g k i xs ρ):=by
 unfold jJ;rw [h]
 rfl
theorem Zea {y:Int} {a:Int} (h0:0<=y) (h:xs[y.toNat]?=some (.int a)):um g k i xs ρ (.int y)=ul g k i xs ρ (y.toNat,a):=by
 have e:rW xs (.int y)=some (y.toNat,a):=by
  show (if 0<=y then (match xs[y.toNat]? with | some (.int a)=>some (y.toNat,a) | _=>none) else none)=_
  rw [if_pos h0,h]
 unfold um;rw [e]
 rfl
theorem Zd9 {ja:Nat×Int}:ul g k i xs ρ ja=(i ρ).bind (uk g k xs ρ ja):=rfl
theorem Zd8 {ja:Nat×Int} (b:Int):uk g k xs ρ ja (.int b)=.ret (.next (ρ.set k (.own (xs.set ja.1 (.int (g ja.2 b)))))):=rfl
variable {PK:Pk} {X:Cx} {e:Expr} {pos:Pos} {is:yo} {st:Stmt} {s:yq}
noncomputable def rem (H:Hp) (p:Addr):Hp:=λb=>if b=p then none else H b
theorem rg {H:Hp} {p b:Addr} (h:b≠p):rem H p b=H b:=if_neg h
theorem Zh7 {H:Hp} {p:Addr}:rem H p p=none:=if_pos rfl
theorem Zh6 {H:Hp} {p b:Addr} {o:HO} (h:rem H p b=some o):H b=some o:=by
 unfold rem at h
 split at h
 ·cases h
 ·exact h
def Zqn (PK:Pk) (f:yr):Sp:=λvs H Q _=>∃ p us xs pa m G,vs=[.ref p]/\H p=some (.lst us)/\G p=none/\p≠pa/\Wd PK pa m G H/\DnAll G us xs/\(f [.own xs]).ok m λm' r=>Kr PK pa m' G (rem H p) r Q
def uM (PK:Pk) (P:Program) (w:World) (K:ym) (mg:yC) (base:Heap) (x:Str) (k:Nat) (y:Str) (f:yr):Prop:=Callee P w K mg base x k [y] (Zqn PK f)
theorem Zqk {P:Program} {w:World} {K:ym} {mg:yC} {base:Heap} {x y:Str} {N:yA} {kk k:Nat} (D:Def K mg x st [y]) (S:FnScope N [y] (aG st)) (hk:N.length - 1=k) (hN:1<=N.length)
  (hbody:∀ (f:Addr) (cdv:Value) (A:Around) (outer:List Env) (sh:Shared) (H:Hp) (E:XK),Room kk (A.deeper (envOfC x (aG st) sh.heap.objs.size f cdv)) ->
   PSs (cK dH P w K mg base N x (aG st) f cdv A outer sh H E).nox (dA st) (bF PK s)):uM PK P w K mg base x (kk+1) y (bg 1 k s):=by
 refine D.ok S (λvs H Q E h=>?_) λf cdv A outer sh H vs Q E hr hsp=>?_
 ·obtain ⟨p,us,xs,pa,m,G,rfl,_⟩:=h
  rfl
 ·obtain ⟨p,us,xs,pa,m,G,rfl,h1,h2,h3,wd,dn,z⟩:=hsp;refine ⟨_,hbody f cdv A outer sh H E hr,?_⟩;unfold bg at z;obtain ⟨_,z⟩:=eY z;have R:Rl PK pa G (rem H p) m (L2.start N [.ref p]) ([.own xs]++List.replicate k .un) G H:=by
   obtain ⟨o,ho,hpk⟩:=wd.pen;have hs:∀ (q:Nat) (sl:Sl),([Sl.own xs]++List.replicate k .un)[q]?=some sl->(q=0/\sl=.own xs)\/(1<=q/\q < k+1/\sl=.un):=λq sl h=>by
    cases q with
    | zero=>simp at h; exact .inl ⟨rfl,h.symm⟩
    | succ q =>
     simp only [wH,wX,xq,vn] at h
     split at h
     ·cases h;exact .inr ⟨by omega,by omega,rfl⟩
     ·cases h
   refine ⟨wd,⟨λ_ _ h=>h,λ_ _ h=>.inl h,λb o h _=>Zh6 h⟩,⟨o,by rw [rg (Ne.symm h3)]; exact ho⟩,λq sl h=>?_,?_,λq n xs ys hn q1 q2=>?_,λq n xs ys hn q1 q2=>?_⟩
   ·rcases hs q sl h with ⟨rfl,rfl⟩ | ⟨a,b,rfl⟩
    ·exact ⟨_,rfl,.own h1 h2 Zh7 dn⟩
    ·unfold L2.start;refine ⟨none,?_,.un⟩;rw [vA (by simpa using a),vn,if_pos (by simp; omega)]
   ·unfold L2.start;simp;omega
   ·rcases hs q _ q1 with ⟨rfl,_⟩ | ⟨_,_,z⟩
    ·rcases hs n _ q2 with ⟨rfl,_⟩ | ⟨_,_,z⟩
     ·exact absurd rfl hn
     ·cases z
    ·cases z
   ·rcases hs q _ q1 with ⟨_,z⟩ | ⟨_,_,z⟩ <;> cases z
  refine ⟨pa,G,rem H p,m,_,G,R,Tr.ok_mono (Tr.ok_bind.mp z) λm1 o ko=>?_⟩;cases o with
  | next ρ=>exact λσ G1 H1 sb R1=>ko .non G1 H1 R1.st R1.wd .non
  | ret r=>exact ko
  | brk ρ=>exact ko.elim
  | cont ρ=>exact ko.elim
noncomputable def cO (f:yr) (xs:yx):Tr Re:=f [.own xs]
noncomputable def uz (f:yr) (is:yo):yr:=λρ=>(is ρ).bind (cO f)
theorem Zd5 {f:yr} {ρ:yD}:uz f is ρ=(is ρ).bind (cO f):=rfl
theorem Zd6 {f:yr} {xs:yx}:cO f xs=f [.own xs]:=rfl
theorem Zp0 {x y:Str} {k:Nat} {f:yr} {pp:Pos} (C:uM PK X.prog X.w X.K X.mg X.base x k y f) (hr:Room k X.A) (hg:Gl X x) (ha:PE X e (eD PK is))
  (hdb:(x == ("__debug__":Str))=false:=by decide)
  (hs:starEach [e] X.env=(false,eval e X.env)::starEach [] X.env:=by rfl) (hpl:(backTo pos (starEach [] X.env)).any (·.1)=false:=by rfl):PE X (.Call (.Name x pp) [e] [] pos) (mJ PK (uz f is)) :=
 (nK C hr hg (aV ha bM hs) hdb hs hpl).imp λσ H Q hz0=>by
  obtain ⟨pa,yE,H₀,m,ρ,G,R,z⟩:=hz0;refine ⟨pa,yE,H₀,m,ρ,G,R,Tr.ok_mono (Tr.ok_bind.mp z) λm1 xs q1=>?_⟩;intro p vs G' H' s1 w1 hp hgp hl dn;obtain ⟨o,ho,_⟩:=R.wd.pen;have hne:p≠pa:=λe=>by rw [e,ho] at hp; cases hp
  refine ⟨p,vs,xs,pa,m1,G',rfl,hl,hgp,hne,w1,dn,Tr.ok_mono q1 λm2 r k=>?_⟩;refine Kr.later k ⟨s1.gs,s1.gn,λb o h n=>?_⟩ ?_
  ·have hb:b≠p:=λe=>by rw [e,hp] at h; cases h
   rw [rg hb];exact s1.hk b o h n
  ·obtain ⟨o',ho',_⟩:=w1.pen;exact ⟨o',by rw [rg (Ne.symm hne)]; exact ho'⟩
section
variable {prog:Program} {w:World} {A:Around} {R:Result->Shared->Prop} {s:Shared}
theorem Zo4 {e:Expr} {env:Env}
  (h:wpAny (model prog w) (A.deeper env) (eval e env) (λv z=>R (.ok (.ret v)) z) (λx z=>wpAny (model prog w) (A.deeper env) (leaving env x) (λ_ y=>R (.error x) y) (λx' y=>R (.error x') y) z) s) :
  codeAny (model prog w) A (.expr e env) R s :=
 codeAny_of_tree (show wpAny _ (A.deeper env) (do point; ret (<- (eval e env).onRaise (leaving env))) _ _ s from
  wpAny_bind (wpAny_point (wpAny_bind (wpAny_onRaise (wpAny_mono h (λv z q=>wpAny_pure q) λ_ _ q=>q)))))
theorem ZcW:∀ (l:List (Str×NameKind)) (n:Nat) (cl:List (Str×Addr)) (h:Heap),(∀ y∈l,y.2≠.cell)->cellsFrom n l cl=cl/\pushCells h l=h
 | [],n,cl,h,_=>⟨rfl,rfl⟩
 | (x,k)::l,n,cl,h,hn=>by
  have hk:(k == NameKind.cell)=false:=by
   have:=hn (x,k) (by simp)
   simpa using this
  have ih:=ZcW l n cl h λy hy=>hn y (uP _ hy);constructor
  ·unfold cellsFrom;simp only [hk,we,if_false];exact ih.1
  ·unfold pushCells;simp only [hk,we,if_false];exact ih.2
noncomputable def cJ (scope:Scope) (cl:List (Str×Addr)) (q:Str) (L f:Addr) (cd:Value):Env :=
 { scope:=scope,locals:=L,globals:=mainGlobals,cells:=cl,qual:=q,func:=some f,code:=cd,frame:=some L,builtins:=builtinsNs }
theorem Zkn {M:Model} {E:yw} {scope:Scope} {cl:List (Str×Addr)} {q:Str} {f:Addr} {cd:Value} {Q:Env->Shared->Prop} (hn:∀ y∈scope.names,y.2≠.cell)
  (h:Q (cJ scope cl q s.heap.objs.size f cd) { s with heap:=s.heap.push { cls:=.type "frame",data:=.dict #[] } }) :
  wpAny M A (newFunctionEnv scope mainGlobals cl [] q (some f) cd none builtinsNs) Q E s:=by
 simp only [newFunctionEnv,Option.isSome_none,we,if_false];refine wpAny_bind (wpAny_alloc (wpAny_bind (wpAny_layCells _ (λname kind cells=>by cases hkc:kind == NameKind.cell <;> simp [hkc]) _ _ _ _ ?_)))
 obtain ⟨e1,e2⟩:=ZcW scope.names (s.heap.push { cls:=.type "frame",data:=.dict #[] }).objs.size cl (s.heap.push { cls:=.type "frame",data:=.dict #[] }) hn;show wpAny M A _ Q E { s with heap:=pushCells (s.heap.push { cls:=.type "frame",data:=.dict #[] }) scope.names };rw [e2,xH];refine wpAny_bind (wpAny_pure (wpAny_pure ?_));rw [e1];exact h
theorem Zph {f c:Addr} {o oc:Obj} {fd:FuncData} {e:Expr} {ag:Args} {vs:Array Value} {q:Str} {t:Tok} (dep:A.depth < recursionLimit) (hf:s.heap.get? f=some o) (df:o.data=.func fd) (n1:fd.scope.isCoroutine=false) (n2:fd.scope.isGenerator=false) (hb:fd.body=.expr e)
  (hc:fd.code=.ref c) (gc:s.heap.get? c=some oc) (dc:oc.data=.fields vs) (hq:vs[1]?=some (.str q t))
  (h:wpAny (model prog w) A.in1 (bindArgs fd ag) (λbs z=>wpAny (model prog w) A.in1 (newFunctionEnv fd.scope fd.globals fd.closure bs (q++".<locals>.") (some f) (.ref c) none fd.builtins)
   (λenv y=>y.heap.NoLimit/\codeAny (model prog w) A (.expr e env) R y) (λx y=>R (.error x) y) z) (λx z=>R (.error x) z) s):codeAny (model prog w) A (.call (.ref f) ag) R s :=
 codeAny_of_tree (show wpAny _ A.in1 (callAny (.ref f) ag) _ _ s from by
  unfold callAny;refine wpAny_bind (wpAny_load hf ?_);simp only [df,callFunction,n1,n2,hb,hc];refine wpAny_bind (m:=field (.ref c) 1) (wpAny_field gc dc hq (wpAny_bind (wpAny_pure (wpAny_bind (wpAny_mono h (λbs z k=>wpAny_bind (wpAny_mono k (λenv y k2=>?_) λ_ _ k'=>k')) λ_ _ k'=>k')))));exact wpAny_bind (wpAny_enterFrame k2.1 dep (wpAny_pure ⟨rfl,k2.2⟩)))
end
structure LamSc (N:yA) (sc:Scope):Prop where
 kind:sc.kind=.function
 co:sc.isCoroutine=false
 gen:sc.isGenerator=false
 nd:N.Nodup
 nc:∀ y∈sc.names,y.2≠.cell
 fr:∀ x,sc.names.lookup x=some .free->x∈N
 all:∀ x∈N,sc.names.lookup x=some .free
noncomputable def eh (CX:eQ) (P:Program) (w:World) (K:ym) (mg:yC) (base:Heap) (N:yA) (scope:Scope) (cl:List (Str×Addr)) (q:Str) (f:Addr) (cd:Value) (A:Around) (outer:List Env) (s:Shared) (H:Hp) (E:XK):Cx where
 prog:=P
 w:=w
 K:=K
 mg:=mg
 base:=base
 A:=A.deeper (cJ scope cl q s.heap.objs.size f cd)
 N:=N
 s₀:=s
 H₀:=H
 env:=cJ scope cl q s.heap.objs.size f cd
 outer:=outer
 stack:=cJ scope cl q s.heap.objs.size f cd::outer
 ex:=[]
 calm:=true
 fn:=λ_=>false
 pn:=[]
 xe:=λe z=>wpAny (model P w) (A.deeper (cJ scope cl q s.heap.objs.size f cd)) (leaving (cJ scope cl q s.heap.objs.size f cd) e) (λ_ y=>CX outer H s E e y) (λe' y=>CX outer H s E e' y) z
structure CelOk (N:yA) (cl:List (Str×Addr)) (σ:St) (H:Hp) (h:Heap):Prop where
 inj:∀ x y c,cl.lookup x=some c->cl.lookup y=some c->x=y
 is:∀ x c,cl.lookup x=some c->(∃ v,h.IsCell c v)/\H c=none
 at':∀ (i:Nat) (x:Str),N[i]?=some x->∃ c,cl.lookup x=some c/\∀ v,σ[i]?=some (some v)->∃ u,RelV v u/\h.IsCell c (some u)
 len:σ.length=N.length
section
variable {CX:eQ} {P:Program} {w:World} {K:ym} {mg:yC} {base:Heap} {N:yA} {scope:Scope} {cl:List (Str×Addr)} {q:Str} {f:Addr} {cd:Value} {A:Around} {outer:List Env} {s:Shared} {H:Hp} {E:XK} {σ:St}
theorem ZkO (S:LamSc N scope) (hd:A.handled=none) (e0:Env0 P w K mg base A outer s H) (c:CelOk N cl σ H s.heap) :
  Inv (eh CX P w K mg base N scope cl q f cd A outer s H E) [] σ H { s with heap:=s.heap.push { cls:=.type "frame",data:=.dict #[] } }:=by
 have kp:∀ b u,s.heap.get? b=some u->(s.heap.push { cls:=.type "frame",data:=.dict #[] }).get? b=some u:=λb u e=>uN _ e;have noA:∀ b:Addr,b ∉ (eh CX P w K mg base N scope cl q f cd A outer s H E).ex:=λb z=>absurd (show b∈([]:List Addr) from z) (by simp)
 have cellK:∀ {c':Addr} {v:Option Value},s.heap.IsCell c' v->(s.heap.push { cls:=.type "frame",data:=.dict #[] }).IsCell c' v:=λ{c' v} hz=>by
  obtain ⟨o,ho,hd⟩:=hz;exact ⟨o,kp _ _ ho,hd⟩
 refine ⟨⟨e0.mod,S.kind,rfl,rfl,uQ _,c.inj,λx hx=>?_,λx c' z=>(nomatch z),λ_=>hd,Around.frames_deeper e0.frames,.inr ⟨rfl,rfl⟩,λb z=>absurd z (noA b),e0.bs,e0.bsz,λb _ _=>noA b,λb z=>absurd z (noA b),e0.funs,e0.frf⟩,
  rfl,e0.bare,Un.kept kp,⟨_,Heap.Ns.new s.heap (.type "frame"),λi x v h1 h2 h3=>?_⟩,λx c' h=>?_,e0.hok.fresh (uQ _),λx c' h=>(c.is x c' h).2,λp hp=>absurd (show p∈([]:yF) from hp) (by simp),e0.hok.kept kp,c.len⟩
 ·have hx:scope.names.lookup x=some .cell\/scope.names.lookup x=some .free:=hx;rcases hx with z | z
  ·exact absurd rfl (S.nc _ (vx z))
  ·obtain ⟨i,hi⟩:=List.mem_iff_getElem?.mp (S.fr x z);obtain ⟨c',e,_⟩:=c.at' i x hi;exact ⟨c',e⟩
 ·obtain ⟨c',e,k⟩:=c.at' i x h1;obtain ⟨u,r,z⟩:=k v h2;exact ⟨u,r,.inr ⟨.inr (S.all x (vY h1)),c',e,cellK z⟩⟩
 ·obtain ⟨⟨v,z⟩,_⟩:=c.is x c' h;exact ⟨v,cellK z⟩
structure LamFd (fd:FuncData) (e:Expr) (scope:Scope) (cl:List (Str×Addr)) (cd:Value):Prop where
 body:fd.body=.expr e
 sc:fd.scope=scope
 cl:fd.closure=cl
 cd:fd.code=cd
 gl:fd.globals=mainGlobals
 bl:fd.builtins=builtinsNs
 bi:bindArgs fd ⟨[],[]⟩=pure []
theorem Zkm {k:Nat} {o oc:Obj} {fd:FuncData} {e:Expr} {c:Addr} {vs:Array Value} {qn:Str} {t:Tok} {te:TE} {Q:VK} (hr:Room (k+1) A) (e0:Env0 P w K mg base A outer s H) (S:LamSc N scope) (hf:s.heap.get? f=some o) (df:o.data=.func fd) (F:LamFd fd e scope cl (.ref c))
  (gc:s.heap.get? c=some oc) (dc:oc.data=.fields vs) (hq:vs[1]?=some (.str qn t)) (C:CelOk N cl σ H s.heap)
  (he:PE (eh CX P w K mg base N scope cl (qn++".<locals>.") f (.ref c) A outer s H E) e te) (ht:te σ H Q):codeAny (model P w) A (.call (.ref f) ⟨[],[]⟩) (CR CX outer P w H s Q E) s:=by
 have lim:s.heap.NoLimit:=e0.mod.nolimit.keeps λb o e=>(e0.bs b o e).1;refine Zph hr.depth hf df (by rw [F.sc]; exact S.co) (by rw [F.sc]; exact S.gen) F.body F.cd gc dc hq ?_
 rw [F.bi,F.sc,F.gl,F.cl,F.bl];refine wpAny_pure (Zkn S.nc ⟨lim.keeps λb o e=>uN _ e,Zo4 ?_⟩);refine wpAny_mono (he [] _ σ H Q (ZkO S hr.hd e0 C) ht) (λu z hz=>?_) λx z hz=>hz;obtain ⟨v,H',J,r,hQ⟩:=hz;exact ⟨v,H',J.os,J.bare,J.base,J.hok,r,hQ⟩
end
structure CodK (K:ym) (c P:Addr):Prop where
 ex:∃ o vs file tf flags tg inF text tt,K.lookup c=some o/\o.cls=.type "code"/\o.data=.fields vs/\vs[11]?=some (.ref P)/\vs.getD 18 .none=.str file tf/\vs.getD 7 .none=.int flags tg/\vs.getD 9 .none=.bool inF/\vs.getD 10 .none=.int text tt
 ne:c≠P
structure BltK (h:Heap) (mg:yC):Prop where
 ex:∃ bm o,mg "__builtins__"=some (.ref bm)/\bm≠builtinsNs/\h.get? bm=some o/\o.cls=.type "module"/\o.dict=some builtinsNs/\o.data=.plain
theorem Zfz {po:Pos} {a b c:Value} (hab:∃ i t j u,a=.int i t/\b=.int j u):∀ l:yz,PySem.TriplesOk l->∀ v,codeAmong po (l++[a,b,c])=some v->codeAmong po l=some v\/v=c
 | [],_,v,h=>by
  obtain ⟨i,t,j,u,rfl,rfl⟩:=hab;rw [wX,codeAmong] at h
  split at h
  ·exact .inr (vc h).symm
  ·cases h
 | .int i t::.int j u::d::r,k,v,h=>by
  rw [wH,wH,wH,codeAmong] at h;rw [codeAmong]
  split at h
  ·rename_i q;rw [if_pos q];exact .inl h
  ·rename_i q;rw [if_neg q];exact Zfz hab r k v h
 | .int i t::.int j u::[],k,v,h=>(k:False).elim
 | .int i t::[],k,v,h=>(k:False).elim
section
variable {X:Cx} {pins:yF} {σ:St} {H:Hp} {s:Shared}
theorem Inv.code {c P:Addr} {ps:Array Value} (I:Inv X pins σ H s) (ck:CodK X.K c P) (hP:H P=some (.cod ps)) :
  ∃ more,s.heap.IsCode c P (ps++more)/\s.heap.TableAt c P (ps++more)/\PySem.TriplesOk (ps++more).toList/\∀ (po:Pos) (v:Value),codeAmong po (ps++more).toList=some v->∃ (c:Addr) (ob:Obj) (vs:Array Value) (q:Str) (t:Tok),v=.ref c/\H c=some (.frz ob (.own 0))/\ob.data=.fields vs/\vs[1]?=some (.str q t):=by
 obtain ⟨o,vs,file,tf,flags,tg,inF,text,tt,e1,e2,e3,e4,e5,e6,e7,e8⟩:=ck.ex;obtain ⟨more,t1,t2,t3⟩:=I.hok P _ hP;have g:=I.kIn c o e1;have e4':vs.getD 11 .none=.ref P:=by
  rw [Array.getD_eq_getD_getElem?,e4]
  rfl
 exact ⟨more,⟨o,vs,file,tf,flags,tg,inF,text,tt,_,g,e3,e4',e5,e6,e7,e8,t1,rfl,t2,ck.ne⟩,⟨⟨o,vs,g,e2,e3,e4⟩,t1⟩,t2,t3⟩
theorem Inv.lam {P f c:Addr} {ps more:Array Value} {h3:Heap} {tk:Nat} {fo oc:Obj} {H1:Hp} (I:Inv X pins σ H s) (hP:H P=some (.cod ps)) (kp:∀ b o,b≠P->s.heap.get? b=some o->h3.get? b=some o) (hf:s.heap.objs.size<=f) (gf:h3.get? f=some fo)
  (tb:h3.get? P=some { cls:=.none,data:=.fields (ps++more) }) (tr:PySem.TriplesOk (ps++more).toList)
  (hc:H1 c=some (.frz oc (.own 0))) (gc:h3.get? c=some oc) (hH:H1=H\/(s.heap.objs.size<=c/\c≠f/\H1=upd H c (.frz oc (.own 0))))
  (al:∀ (po:Pos) (v:Value),codeAmong po (ps++more).toList=some v->∃ (c:Addr) (ob:Obj) (vs:Array Value) (q:Str) (t:Tok),v=.ref c/\H1 c=some (.frz ob (.own 0))/\ob.data=.fields vs/\vs[1]?=some (.str q t)) :
  Inv X pins σ (upd H1 f (.frz fo (.own 0))) { s with heap:=h3,toks:=tk }/\H1 f=none:=by
 have nf:=I.hok.fresh hf;have cf:H1 f=none:=by
  rcases hH with rfl | ⟨_,hne,rfl⟩
  ·exact nf
  ·rw [ap (Ne.symm hne)]; exact nf
 have up:∀ b u,H b=some u->H1 b=some u:=λb u e=>by
  rcases hH with rfl | ⟨z,_,rfl⟩
  ·exact e
  ·rw [ap (bS e (I.hok.fresh z))]; exact e
 have up2:∀ b u,H b=some u->upd H1 f (.frz fo (.own 0)) b=some u:=λb u e=>by rw [ap (bS (up b u e) cf)]; exact up b u e
 have old:∀ b o,s.heap.get? b=some o->H b=none->upd H1 f (.frz fo (.own 0)) b=none:=λb o e n=>by
  have hb:=uY e;rw [ap (u9 (uU hb hf))];rcases hH with rfl | ⟨z,_,rfl⟩
  ·exact n
  ·rw [ap (u9 (uU hb z))]; exact n
 have nP:∀ b,H b=none->b≠P:=λb n z=>by rw [z,hP] at n; cases n
 refine ⟨I.un (h':=h3) (t':=tk) ⟨λb o e n _ _=>kp b o (nP b n) e,λb o e n _ _=>⟨o.slots,kp b o (nP b n) e⟩,λb o e n _=>old b o e n,λb o e _=>?_,λb xs e=>up2 b _ e,λb o u e=>up2 b _ e,λb qs e=>⟨#[],by rw [up2 b _ e]; simp⟩⟩ λb u e=>?_,cf⟩
 ·by_cases hb:b=P
  ·exact ⟨_,by rw [hb]; exact tb⟩
  ·exact ⟨o,kp b o hb e⟩
 ·by_cases hb:b=f
  ·subst hb;rw [bq] at e;cases e;exact ⟨gf,fo,gf⟩
  ·have e0:=e;rw [ap hb] at e;have own1:∀ b' y,H b'=some (.own y)->upd H1 f (.frz fo (.own 0)) b'=some (.own y):=λb' y q=>up2 b' _ q;by_cases hbP:b=P
   ·subst hbP;have:u=.cod ps:=by
     have:=up b _ hP;rw [this] at e;exact (vc e).symm
    subst this;refine ⟨more,tb,tr,λpo v hv=>?_⟩;obtain ⟨c',ob,vs,q,t,r1,r2,r3⟩:=al po v hv;exact ⟨c',ob,vs,q,t,r1,by rw [ap (bS r2 cf)]; exact r2,r3⟩
   ·have key:H b=some u\/(b=c/\u=.frz oc (.own 0)):=by
     rcases hH with rfl | ⟨z,_,rfl⟩
     ·exact .inl e
     ·by_cases q:b=c
      ·subst q;rw [bq] at e;exact .inr ⟨rfl,(vc e).symm⟩
      ·rw [ap q] at e;exact .inl e
    rcases key with e1 | ⟨rfl,rfl⟩
    ·refine (I.hok b u e1).stay (λb' v hv q=>kp b' v (λz=>?_) q) (λb' q=>own1 b' _ q) (λb' xs q=>up2 b' _ q) λb' ob u' _ q _=>up2 b' _ q;subst z;rcases hv with z | z
     ·exact hbP z.symm
     ·rw [hP] at z; cases z
    ·exact ⟨gc,oc,gc⟩
noncomputable def dw:Arguments:=⟨[],[],none,[],[],none,[]⟩
def ZaA (cells:List (Str×Addr)) (P:Addr) (e:Expr) (scope:Scope):TE:=λσ H Q=>(∃ ps,H P=some (.cod ps))/\∀ (f c:Addr) (cl:List (Str×Addr)) (fo oc:Obj) (fd:FuncData) (vs:Array Value) (q:Str) (t:Tok) (H1:Hp),
 LamFd fd e scope cl (.ref c)->fo.data=.func fd->(∀ x c,cl.lookup x=some c->cells.lookup x=some c)->(∀ y∈scope.names,y.2=.free->∃ c,cl.lookup y.1=some c)->H1 c=some (.frz oc (.own 0))->oc.data=.fields vs->vs[1]?=some (.str q t) ->
 (H1=H\/(H c=none/\H1=upd H c (.frz oc (.own 0))))->H1 f=none->Q (.ref f) (upd H1 f (.frz fo (.own 0)))
end
section
variable {X:Cx}
theorem ZiO {c0 P:Addr} {e:Expr} {scope:Scope} {pos:Pos} (ck:CodK X.K c0 P) (bk:BltK X.base X.mg) (hc0:X.env.code=.ref c0) (hfr:∀ y∈scope.names,y.2=.free->X.env.kindOf y.1=some .cell\/X.env.kindOf y.1=some .free) :
  PE X (.Lambda dw e scope pos) (ZaA X.env.cells P e scope):=by
 intro pins s σ H Q I h;obtain ⟨⟨ps,hP⟩,hQ⟩:=h;obtain ⟨cl,hcl,cl1,cl2⟩:=o8 (scope:=scope) (env:=X.env) λy hy hf=>I.ok.has y.1 (hfr y hy hf);obtain ⟨bm,bo,hbm,bne,bK,b1,b2,b3⟩:=bk.ex;obtain ⟨mn,hg⟩:∃ mg,s.heap.Ns X.env.globals mg/\mg=X.mg:=⟨X.mg,by rw [I.ok.glob]; exact I.mod.glob.keeps I.bk,rfl⟩
 obtain ⟨hg,rfl⟩:=hg;rw [arm_eval_Lambda];show wpAny _ X.A (do let dv <- evalAll []; let kdv <- holding dv (evalAllOpt []); makeFunction "<lambda>" (X.env.qual++"<lambda>") dw (.expr e) scope X.env dv kdv [] pos pos.line) _ _ s
 refine wpAny_bind (wpAny_pure (wpAny_bind (wpAny_holding (wpAny_pure ?_))));simp only [makeFunction,dw,List.zip_nil_right,List.filterMap_nil,List.isEmpty_nil,if_true,pure_bind,hcl]
 -- the closure's tuple
 have go:∀ (ct:Value) (h1:Heap),(∀ b o,s.heap.get? b=some o->h1.get? b=some o)->s.heap.objs.size<=h1.objs.size->wpAny (model X.prog X.w) X.A (do
   let cd <- functionCode X.env pos pos.line "<lambda>" (X.env.qual++"<lambda>") dw scope (.expr e)
   let bl <- builtinsFor X.env.globals X.env.builtins
   let nm <- nsGet X.env.globals "__name__"
   newObj (.type "function") (.func { name:="<lambda>",qualname:=X.env.qual++"<lambda>",params:=dw,body:=.expr e,scope:=scope,globals:=X.env.globals,closure:=cl,closureTuple:=ct,code:=cd,builtins:=bl,defaults:=.none,kwdefaults:=.none,annotations:=none,pyModule:=nm.getD .none,doc:=.none })) (EP X pins σ Q) X.xe { s with heap:=h1 }:=by
  intro ct h1 kp1 hz1;have I1:Inv X pins σ H { s with heap:=h1 }:=I.kept (t':=s.toks) kp1;obtain ⟨more,ic,ta,tr,al⟩:=I1.code ck hP;have fin:∀ (c:Addr) (oc:Obj) (vs:Array Value) (q:Str) (t:Tok) (h2:Heap) (tk:Nat) (more2:Array Value) (H1:Hp),(∀ b o,b≠P->h1.get? b=some o->h2.get? b=some o)->h1.objs.size<=h2.objs.size->h2.get? P=some { cls:=.none,data:=.fields (ps++more2) }->PySem.TriplesOk (ps++more2).toList ->
    H1 c=some (.frz oc (.own 0))->h2.get? c=some oc->oc.data=.fields vs->vs[1]?=some (.str q t)->(H1=H\/(s.heap.objs.size<=c/\H1=upd H c (.frz oc (.own 0)))) ->
    (∀ (po:Pos) (v:Value),codeAmong po (ps++more2).toList=some v->∃ (c:Addr) (ob:Obj) (vs:Array Value) (q:Str) (t:Tok),v=.ref c/\H1 c=some (.frz ob (.own 0))/\ob.data=.fields vs/\vs[1]?=some (.str q t)) ->
    wpAny (model X.prog X.w) X.A (do
     let bl <- builtinsFor X.env.globals X.env.builtins
     let nm <- nsGet X.env.globals "__name__"
     newObj (.type "function") (.func { name:="<lambda>",qualname:=X.env.qual++"<lambda>",params:=dw,body:=.expr e,scope:=scope,globals:=X.env.globals,closure:=cl,closureTuple:=ct,code:=.ref c,builtins:=bl,defaults:=.none,kwdefaults:=.none,annotations:=none,pyModule:=nm.getD .none,doc:=.none })) (EP X pins σ Q) X.xe { s with heap:=h2,toks:=tk }:=by
   intro c oc vs q t h2 tk more2 H1 kp2 hz2 tb tr2 hc gc dc hq hH al2;have gP:∀ b o,X.K.lookup b=some o->b≠P:=λb o e z=>by
    have:=(I.bs b o (I.mod.kin b o e)).2;rw [z,hP] at this;cases this
   have hg2:h2.Ns X.env.globals X.mg:=by
    obtain ⟨o,es,ep,e1,e2⟩:=hg;refine ⟨o,es,ep,kp2 _ o (λz=>?_) (kp1 _ o e1),e2⟩;obtain ⟨o',_,_,e',_⟩:=I.mod.glob;have:=(I.bs _ o' e').2;rw [<- I.ok.glob,z,hP] at this;cases this
   refine wpAny_bind (wpAny_builtinsFor (s:={ s with heap:=h2,toks:=tk }) hg2 hbm bne (kp2 bm bo (λz=>by have:=(I.bs bm bo bK).2; rw [z,hP] at this; cases this) (kp1 _ _ (I.bs bm bo bK).1)) b1 b2 b3 (wpAny_bind (wpAny_nsGet hg2 ?_)))
   simp only [newObj];refine wpAny_bind (wpAny_alloc (wpAny_pure ?_));generalize hfd:({ name:="<lambda>",qualname:=X.env.qual++"<lambda>",params:=dw,body:=.expr e,scope:=scope,globals:=X.env.globals,closure:=cl,closureTuple:=ct,code:=.ref c,builtins:=builtinsNs,defaults:=.none,kwdefaults:=.none,annotations:=none,pyModule:=(X.mg "__name__").getD .none,doc:=.none }:FuncData)=fd;have hfo:h2.objs.size < (h2.push { cls:=.type "function",data:=.func fd }).objs.size:=by rw [vD]; exact wE _
   have gcl:=uY gc;obtain ⟨J,nf⟩:=I.lam (P:=P) (f:=h2.objs.size) (c:=c) (ps:=ps) (more:=more2) (h3:=h2.push { cls:=.type "function",data:=.func fd }) (tk:=tk) (fo:={ cls:=.type "function",data:=.func fd }) (oc:=oc) (H1:=H1) hP
    (λb o hb e=>uN _ (kp2 b o hb (kp1 b o e))) (u8 hz1 hz2) (uS _ rfl) (uN _ tb) tr2 hc (uN _ gc) (by
     rcases hH with z | ⟨z1,z2⟩
     ·exact .inl z
     ·exact .inr ⟨z1,u9 gcl,z2⟩) al2
   refine ⟨.ref h2.objs.size,_,J,rfl,hQ _ c cl _ oc fd vs q t H1 ⟨by rw [<- hfd],by rw [<- hfd],by rw [<- hfd],by rw [<- hfd],by rw [<- hfd]; exact I.ok.glob,by rw [<- hfd],by rw [<- hfd]; rfl⟩ rfl cl1 cl2 hc dc hq (by
     rcases hH with z | ⟨z1,z2⟩
     ·exact .inl z
     ·exact .inr ⟨I.hok.fresh z1,z2⟩) nf⟩
  cases hit:codeAmong pos (ps++more).toList with
  | some v =>
   obtain ⟨c,ob,vs,q,t,rfl,r2,r3,r4⟩:=al pos v hit;refine wpAny_bind (wpAny_functionCode_hit hc0 ic hit ?_);exact fin c ob vs q t h1 s.toks more H (λb o _ e=>e) (uQ _) ta.2 tr r2 (I1.hok c _ r2).1 r3 r4 (.inl rfl) al
  | none =>
   refine wpAny_bind (wpAny_functionCodeX hc0 ic ta hit λc h2 tk hx hge hlt ic2 hrec ta2 _=>?_);obtain ⟨c',oc,vs,t,e',gc,dc,hq⟩:=hrec;cases e';have sz:h1.objs.size<=h2.objs.size:=u8 hge (wJ hlt);have hge':s.heap.objs.size<=c:=u8 hz1 hge;have tb:h2.get? P=some { cls:=.none,data:=.fields (ps++(more++#[rawInt pos.line,rawInt pos.col,.ref c])) }:=by
    rw [<- xh];exact ta2.2
   have tl:(ps++(more++#[rawInt pos.line,rawInt pos.col,.ref c])).toList=(ps++more).toList++[rawInt pos.line,rawInt pos.col,.ref c]:=by
    rw [<- xh];simp
   refine fin c oc vs _ t h2 tk (more++#[rawInt pos.line,rawInt pos.col,.ref c]) (upd H c (.frz oc (.own 0))) (λb o hb e=>hx b o hb e) sz tb (by rw [tl]; exact TriplesOk_snoc _ _ _ _ tr) bq gc dc hq (.inr ⟨hge',rfl⟩) λpo v hv=>?_
   rw [tl] at hv;rcases Zfz ⟨_,_,_,_,rfl,rfl⟩ _ tr v hv with z | rfl
   ·obtain ⟨c2,ob,vs2,q2,t2,r1,r2,r3⟩:=al po v z;exact ⟨c2,ob,vs2,q2,t2,r1,by rw [ap (bS r2 (I.hok.fresh hge'))]; exact r2,r3⟩
   ·exact ⟨c,oc,vs,_,t,rfl,bq,dc,hq⟩
 by_cases hce:cl.isEmpty=true
 ·simp only [hce,if_true,pure_bind];exact go .none s.heap (λ_ _ e=>e) (uQ _)
 ·simp only [hce,if_false];refine wpAny_bind (wpAny_newObjAsIs_type ?_);exact go _ _ (λb o e=>uN _ e) (by rw [vD]; exact Nat.le_succ _)
end
open Classical in
noncomputable def cut (cs:List Addr) (H:Hp):Hp:=λb=>if b∈cs then none else H b
open Classical in
noncomputable def glue (cs:List Addr) (H H':Hp):Hp:=λb=>if b∈cs then H b else H' b
theorem eu {cs:List Addr} {H:Hp} {b:Addr} (h:b∈cs):cut cs H b=none:=if_pos h
theorem c5 {cs:List Addr} {H:Hp} {b:Addr} (h:b ∉ cs):cut cs H b=H b:=if_neg h
theorem sS {cs:List Addr} {H H':Hp} {b:Addr} (h:b∈cs):glue cs H H' b=H b:=if_pos h
theorem gi {cs:List Addr} {H H':Hp} {b:Addr} (h:b ∉ cs):glue cs H H' b=H' b:=if_neg h
theorem ZeG {cs:List Addr} {H:Hp} {b:Addr} (n:H b=none):cut cs H b=none:=by
 by_cases z:b∈cs
 ·exact eu z
 ·rw [c5 z]; exact n
def Lent (cs:List Addr) (H:Hp):Prop:=∀ c∈cs,∃ (o:Obj) (v:Option Value),H c=some (.frz o (.own 0))/\o.data=.cell v
section
variable {P:Program} {w:World} {K:ym} {mg:yC} {base:Heap} {A:Around} {outer:List Env} {s s':Shared} {H H':Hp} {cs:List Addr} {h h':Heap}
theorem Lent.no {b:Addr} {u:HO} (L:Lent cs H) (e:H b=some u) (hu:∀ o v,u=.frz o (.own 0)->o.data≠.cell v):b ∉ cs:=λz=>by
 obtain ⟨o,v,e1,e2⟩:=L b z;rw [e] at e1;exact hu o v (vc e1) e2
theorem HOk.cut (L:Lent cs H) (ok:HOk P w H h):HOk P w (L2.cut cs H) h:=λb u e=>by
 have hb:b ∉ cs:=λz=>by rw [eu z] at e; cases e
 rw [c5 hb] at e;refine (ok b u e).stay (λ_ _ _ q=>q) (λc q=>?_) (λc xs q=>?_) λc ob u' vs q d=>?_
 ·rw [c5 (L.no q λo v z=>by cases z)]; exact q
 ·rw [c5 (L.no q λo v z=>by cases z)]; exact q
 ·rw [c5 (L.no q λo v z=>by cases z; rw [d]; intro z; cases z)]; exact q
theorem Env0.cut (e0:Env0 P w K mg base A outer s H) (L:Lent cs H):Env0 P w K mg base A outer s (L2.cut cs H) :=
 ⟨e0.frames,e0.mod,λb o e=>⟨(e0.bs b o e).1,by
  by_cases z:b∈cs
  ·exact eu z
  ·rw [c5 z]; exact (e0.bs b o e).2⟩,e0.bsz,e0.funs,λb hb=>by
  by_cases z:b∈cs
  ·exact eu z
  ·rw [c5 z]; exact e0.frf b hb,e0.hok.cut L,e0.bare⟩
theorem Un.glue (L:Lent cs H) (ok:HOk P w H s.heap) (un:Un (frs outer) [] (L2.cut cs H) H' s.heap h'):Un (frs outer) [] H (L2.glue cs H H') s.heap h' where
 keep:=λb o e n hb hx=>un.keep b o e (ZeG n) hb hx
 slot:=λb o e n hb hx=>un.slot b o e (ZeG n) hb hx
 free:=λb o e n hx=>by
  by_cases z:b∈cs
  ·rw [sS z]; exact n
  ·rw [gi z]; exact un.free b o e (by rw [c5 z]; exact n) hx
 there:=λb o e hx=>un.there b o e hx
 tups:=λb xs e=>by
  have z:=L.no e λo v q=>by cases q
  rw [gi z]; exact un.tups b xs (by rw [c5 z]; exact e)
 frzs:=λb o u e=>by
  by_cases z:b∈cs
  ·rw [sS z]; exact e
  ·rw [gi z]; exact un.frzs b o u (by rw [c5 z]; exact e)
 tbls:=λb ps e=>by
  have z:=L.no e λo v q=>by cases q
  rw [gi z]; exact un.tbls b ps (by rw [c5 z]; exact e)
theorem HOk.glue (L:Lent cs H) (e0:Env0 P w K mg base A outer s H) (un:Un (frs outer) [] (L2.cut cs H) H' s.heap h') (ok':HOk P w H' h'):HOk P w (L2.glue cs H H') h':=λb u e=>by
 have nC:∀ c∈cs,H' c=none:=λc hc=>by
  obtain ⟨o,v,e1,_⟩:=L c hc;exact un.free c o (e0.hok c _ e1).1 (eu hc) (by simp)
 have up:∀ c u',H' c=some u'->c ∉ cs:=λc u' q z=>by rw [nC c z] at q; cases q
 by_cases hb:b∈cs
 ·rw [sS hb] at e;obtain ⟨o,v,e1,_⟩:=L b hb;rw [e] at e1;cases e1;have g:=un.keep b o (e0.hok b _ e).1 (eu hb) (λz=>by have:=e0.frf b z; rw [e] at this; cases this) (by simp)
  exact ⟨g,o,g⟩
 ·rw [gi hb] at e;exact (ok' b u e).stay (λ_ _ _ q=>q) (λc q=>by rw [gi (up c _ q)]; exact q) (λc xs q=>by rw [gi (up c _ q)]; exact q) λc ob u' vs q _=>by rw [gi (up c _ q)]; exact q
theorem CE.glue {Q:VK} {u:Value} (L:Lent cs H) (e0:Env0 P w K mg base A outer s H) (h:CE outer P w (L2.cut cs H) s (λv H'=>Q v (L2.glue cs H H')) u s'):CE outer P w H s Q u s':=by
 obtain ⟨v,H',os,bare,un,ok',r,q⟩:=h;exact ⟨v,_,os,bare,un.glue L e0.hok,HOk.glue L e0 un ok',r,q⟩
theorem CXE.glue {E:XK} {e:Value} (L:Lent cs H) (e0:Env0 P w K mg base A outer s H) (h:CXE P w outer (L2.cut cs H) s (λc t H'=>E c t (L2.glue cs H H')) e s'):CXE P w outer H s E e s':=by
 obtain ⟨ea,t,cls,b',H',eq,os,bare,un,ok',fl,k1,k2,hE⟩:=h;refine ⟨ea,t,cls,b',_,eq,os,bare,un.glue L e0.hok,HOk.glue L e0 un ok',fl,k1,λb hb=>?_,hE⟩;by_cases z:b∈cs
 ·obtain ⟨o,v,e1,_⟩:=L b z;exact k1 b o (e0.hok b _ e1).1 λq=>by have:=e0.frf b q; rw [e1] at this; cases this
 ·rw [gi z] at hb;exact k2 b hb
theorem CE.cut {Q:VK} {u:Value} (L:Lent cs H) (e0:Env0 P w K mg base A outer s H) (h:CE outer P w H s (λv H'=>Q v (L2.cut cs H')) u s'):CE outer P w (L2.cut cs H) s Q u s':=by
 obtain ⟨v,H',os,bare,un,ok',r,q⟩:=h;have L':Lent cs H':=λc hc=>by
  obtain ⟨o,v,e1,e2⟩:=L c hc;exact ⟨o,v,un.frzs c o _ e1,e2⟩
 refine ⟨v,_,os,bare,⟨λb o e n hb hx=>?_,λb o e n hb hx=>?_,λb o e n hx=>?_,λb o e hx=>un.there b o e hx,λb xs e=>?_,λb o u e=>?_,λb ps e=>?_⟩,ok'.cut L',r,q⟩
 ·by_cases z:b∈cs
  ·obtain ⟨o',v,e1,_⟩:=L b z;have g1:=(e0.hok b _ e1).1;have g2:=(ok' b _ (un.frzs b o' _ e1)).1;rw [e] at g1;cases g1;exact g2
  ·rw [c5 z] at n;exact un.keep b o e n hb hx
 ·by_cases z:b∈cs
  ·obtain ⟨o',v,e1,_⟩:=L b z;have:=e0.frf b hb;rw [e1] at this;cases this
  ·rw [c5 z] at n;exact un.slot b o e n hb hx
 ·by_cases z:b∈cs
  ·exact eu z
  ·rw [c5 z] at n ⊢;exact un.free b o e n hx
 ·have z:b ∉ cs:=λz=>by rw [eu z] at e; cases e
  rw [c5 z] at e ⊢;exact un.tups b xs e
 ·have z:b ∉ cs:=λz=>by rw [eu z] at e; cases e
  rw [c5 z] at e ⊢;exact un.frzs b o u e
 ·have z:b ∉ cs:=λz=>by rw [eu z] at e; cases e
  rw [c5 z] at e ⊢;exact un.tbls b ps e
end
noncomputable def uI (P:Program) (w:World) (K:ym) (mg:yC) (base:Heap) (k:Nat) (f:Addr) (sp:Hp->VK->XK->Prop):Prop :=
 (∀ H Q E,sp H Q E->∃ (oc:Value) (od:Option Addr) (fd:FuncData) (osl:Array (Option Value)),H f=some (.frz ⟨oc,od,.func fd,osl⟩ (.own 0))) /\
 ∀ (A:Around) (outer:List Env) (s:Shared) (H:Hp) (Q:VK) (E:XK),Room k A->Env0 P w K mg base A outer s H->sp H Q E->codeAny (model P w) A (.call (.ref f) ⟨[],[]⟩) (CR (CXE P w) outer P w H s Q E) s
noncomputable def qz (N:yA) (cl:List (Str×Addr)) (cs:List Addr) (f c:Addr) (fo oc:Obj) (σ:St) (te:XK->TE):Hp->VK->XK->Prop:=λH Q E =>
 H f=some (.frz fo (.own 0))/\H c=some (.frz oc (.own 0))/\Lent cs H/\(∀ x a,cl.lookup x=some a->a∈cs) /\
 (∀ (i:Nat) (x:Str),N[i]?=some x->∃ a o,cl.lookup x=some a/\H a=some (.frz o (.own 0))/\∀ v,σ[i]?=some (some v)->∃ u,RelV v u/\o.data=.cell (some u)) /\
 te (λk t H'=>(∀ b∈cs,H' b=none)->E k t (glue cs H H')) σ (cut cs H) (λv H'=>(∀ b∈cs,H' b=none)->Q v (glue cs H H'))
section
variable {P:Program} {w:World} {K:ym} {mg:yC} {base:Heap}
theorem Zdu {N:yA} {scope:Scope} {cl:List (Str×Addr)} {cs:List Addr} {f c:Addr} {oc:Obj} {e:Expr} {fd:FuncData} {fc:Value} {fdd:Option Addr} {osl:Array (Option Value)} {vs:Array Value} {q:Str} {t:Tok} {σ:St} {te:XK->TE} {k:Nat}
  (S:LamSc N scope) (F:LamFd fd e scope cl (.ref c)) (dc:oc.data=.fields vs) (hq:vs[1]?=some (.str q t)) (inj:∀ x y a,cl.lookup x=some a->cl.lookup y=some a->x=y) (hl:σ.length=N.length)
  (he:∀ (A:Around) (outer:List Env) (s:Shared) (H:Hp) (E:XK),Room k (A.deeper (cJ scope cl (q++".<locals>.") s.heap.objs.size f (.ref c)))->PE (eh (CXE P w) P w K mg base N scope cl (q++".<locals>.") f (.ref c) A outer s H E) e (te E)) :
  uI P w K mg base (k+1) f (qz N cl cs f c ⟨fc,fdd,.func fd,osl⟩ oc σ te):=by
 refine ⟨λH Q E h=>⟨_,_,_,_,h.1⟩,λA outer s H Q E hr e0 h=>?_⟩;obtain ⟨h1,h2,L,h3,h4,ht⟩:=h;have ec:=e0.cut L;have cel:∀ {a:Addr} {o:Obj},H a=some (.frz o (.own 0))->s.heap.get? a=some o:=λz=>(e0.hok _ _ z).1;have nC:∀ {H':Hp} {h':Heap},Un (frs outer) [] (cut cs H) H' s.heap h'->∀ b∈cs,H' b=none:=λ{H' h'} un b hb=>by
  obtain ⟨o,v,e1,_⟩:=L b hb;exact un.free b o (cel e1) (eu hb) (by simp)
 have C:CelOk N cl σ (cut cs H) s.heap:=by
  refine ⟨inj,λx a z=>?_,λi x hx=>?_,hl⟩
  ·obtain ⟨o,v,e1,e2⟩:=L a (h3 x a z);exact ⟨⟨v,o,cel e1,e2⟩,eu (h3 x a z)⟩
  ·obtain ⟨a,o,e1,e2,e3⟩:=h4 i x hx;refine ⟨a,e1,λv hv=>?_⟩;obtain ⟨u,r,d⟩:=e3 v hv;exact ⟨u,r,o,cel e2,d⟩
 refine codeAny_mono (Zkm (CX:=CXE P w) (E:=λk t H'=>(∀ b∈cs,H' b=none)->E k t (glue cs H H')) (Q:=λv H'=>(∀ b∈cs,H' b=none)->Q v (glue cs H H')) hr ec S (cel h1) rfl F (cel h2) dc hq C (he A outer s (cut cs H) _ (hr.deeper _)) ht) λr s' hz=>?_;cases r with
 | error x =>
  obtain ⟨ea,t,cls,b',H',eq,os,bare,un,ok',fl,k1,k2,hE⟩:=hz;exact CXE.glue L e0 ⟨ea,t,cls,b',H',eq,os,bare,un,ok',fl,k1,k2,hE (nC un)⟩
 | ok fl =>
  cases fl with
  | ret u =>
   obtain ⟨v,H',os,bare,un,ok',r,q⟩:=hz;exact CE.glue L e0 ⟨v,H',os,bare,un,ok',r,q (nC un)⟩
  | next=>exact hz
  | brk=>exact hz
  | cont=>exact hz
end
section
variable {X:Cx} {pins:yF} {σ:St} {H:Hp} {s:Shared}
theorem Zkf {A:Around} {E:yw} {i:Nat} {x:Str} {v:V} {pos:Pos} {Q:yw} (I:Inv X pins σ H s) (hN:X.N[i]?=some x) (hv:kQ X.env.scope x) (e:σ[i]?=some (some v)) (h:∀ u,RelV v u->Q u s)
  (hd:(x == ("__debug__":Str))=false:=by decide) (hcd:(x == ("__classdict__":Str))=false:=by decide):wpAny (model X.prog X.w) A (eval (.Name x pos) X.env) Q E s:=by
 obtain ⟨m,hn,hl⟩:=I.loc;obtain ⟨u,r,l⟩:=hl i x v hN e hv;rcases l with ⟨hk,hm⟩ | ⟨hk,c,hc,hcell⟩
 ·exact wpAny_Name (wpAny_loadName_local I.ok.kind hk hn hm (h u r)) hd
 ·rcases hk with hk | hk
  ·exact wpAny_Name (wpAny_loadName_cell I.ok.kind hk hc hcell (h u r)) hd
  ·exact wpAny_Name (wpAny_loadName_free I.ok.kind hk hc hcell (h u r) hcd) hd
theorem Zpm {M:Model} {A:Around} {E:yw} {env:Env} {pos:Pos} {f:Addr} {oc:Value} {od:Option Addr} {fd:FuncData} {osl:Array (Option Value)} {Q:yw} (hf:s.heap.get? f=some ⟨oc,od,.func fd,osl⟩) (h:wpAny M A (call (.ref f) []) Q E s):wpAny M A (callWith pos (.ref f) [] (backTo pos (starEach [] env)) []) Q E s :=
 PySem.W.callWith_of (P:=λg=>g.get? f=some ⟨oc,od,.func fd,osl⟩) rfl (λg e=>⟨.frame,.inl rfl,(PySem.W.Looks.ld (part:=none) e).andThen .now⟩) (evalArgs_nil3 ⟨hf,h⟩)
def Zgx (P:Program) (w:World) (K:ym) (mg:yC) (base:Heap) (k:Nat) (j:Nat) (C:Addr) (i:Nat) (tb:Addr->TS):TS:=λD σ H=>∃ f sp Q0 E0,σ[j]?=some (some (.ref f))/\uI P w K mg base k f sp/\sp H Q0 E0/\(∀ v H',Q0 v H'->D.nx σ H')/\∀ cls t H',E0 cls t H'->cls=.ref C/\∀ ea,H' ea=none ->
 tb ea { nx:=λσ' H2=>D.nx (σ'.set i none) H2,rt:=λ_ _=>False } (σ.set i (some (.ref ea))) (upd H' ea (.ext (dl ea (.ref C))))
theorem Zis {k j:Nat} {x c n:Str} {C D' L:Addr} {outer:List Env} {i:Nat} {tb:Addr->TS} {p cpos epos cp hpos pos:Pos} {b₀:Stmt} {suite:List Stmt}
  (hstk:X.stack=X.env::outer) (hL:X.env.frame=some L) (hN:X.N.Nodup) (hr:Room k X.A) (hj:X.N[j]?=some x) (hv:kQ X.env.scope x)
  (U:Under X.K C D') (hgc:Gl X c) (hmc:X.mg c=some (.ref D')) (hi:X.N[i]?=some n) (hn:X.env.kindOf n=some .local) (hln:iO X.env.scope n) (hfn:X.fn n=true\/X.env.scope.names.lookup n=some .local) (hsu:∀ ea,PSs (X.marked ea) (b₀::suite) (tb ea))
  (hdb:(x == ("__debug__":Str))=false:=by decide) (hcd:(x == ("__classdict__":Str))=false:=by decide) (hdc:(c == ("__debug__":Str))=false:=by decide) (hs:swapsWith (.Call (.Name x p) [] [] cpos) none epos.line X.env=pure false:=by rfl) :
  PS X (.Try [.Expr (.Call (.Name x p) [] [] cpos) epos] [.ExceptHandler (some (.Name c cp)) (some n) (b₀::suite) hpos] [] [] pos) (Zgx X.prog X.w X.K X.mg X.base k j C i tb):=by
 intro pins s σ H D I h;obtain ⟨f,sp,Q0,E0,hf,LP,hsp,hQ0,hE0⟩:=h;obtain ⟨oc,od,fd,osl,gf⟩:=LP.1 _ _ _ hsp;refine wpAny_Try_except (wpAny_execs_cons (wpAny_Expr_any (wpAny_Call_Name_kw (Zkf I hj hv hf (λu r=>?_) hdb hcd)) I.quiet hs));obtain rfl:u=.ref f:=r;refine Zpm (I.hok f _ gf).1 (wpAny_call (codeAny_mono (LP.2 X.A X.stack s H _ _ hr I.env0 hsp) λrr s' hq=>?_));cases rr with
 | ok fl =>
  cases fl with
  | ret u =>
   obtain ⟨v,H',I',r,q⟩:=I.after hq;exact wpAny_execs_nil (wpAny_execs_nil ⟨σ,H',I',hQ0 v H' q⟩)
  | next=>exact False.elim hq
  | brk=>exact False.elim hq
  | cont=>exact False.elim hq
 | error ex =>
  have hq':CXE X.prog X.w X.stack H s E0 ex s':=hq;refine tR I hstk hL hq' λea cls H' h' eq I5 hea hcl fly un hE=>?_;subst eq;obtain ⟨hcls,hE1⟩:=hE0 _ _ _ hE;subst hcls;obtain ⟨b'',tt,fl,hf,hbt⟩:=fly;obtain ⟨nm,q0,N0,bs,bm,hdct,sn,sub,ab,col,dd,k0,k1,k2,k3,k5,newId,lkC,hin⟩:=U.ex;obtain ⟨nm',q',N',bs',bm',hdct',sn',sub',ab',col',dd',j0,j1,j2,j3,j5,newId',lkD,hbase⟩:=U.top;have KX:=I5.kIn;refine ZkS hbase hin (sv I5 hgc hmc ⟨rfl,KX _ _ lkC,KX _ _ lkD,hcl,?_⟩ hdc);refine Zkl I I5 un hea fl hf hbt (I5.os.trans I.os.symm) λh6 I6=>?_;refine jS I6 hN hi hln (show RelV (.ref ea) (.ref ea) from rfl) (λs7 I7=>?_) hfn
  refine wpAny_mono (hsu ea pins s7 _ _ _ (I7.marked ea) (hE1 ea hea)) (λfl8 s8 h8=>?_) λ_ _ z=>z.elim;cases fl8 with
  | next =>
   obtain ⟨σ8,H8,I8,q8⟩:=h8;exact ZjC (I8.unmarked I5.ok) hN hi hn λs9 I9=>⟨_,_,I9,q8⟩
  | ret u=>obtain ⟨_,_,_,_,_,z⟩:=h8; exact z.elim
  | brk=>obtain ⟨_,_,_,z⟩:=h8; exact z.elim
  | cont=>obtain ⟨_,_,_,z⟩:=h8; exact z.elim
end
open Classical in
noncomputable def lend (cs:List Addr) (h:Heap) (H:Hp):Hp:=λb=>if b∈cs then (h.get? b).map λo=>HO.frz o (.own 0) else H b
theorem su {cs:List Addr} {h:Heap} {H:Hp} {b:Addr} (z:b∈cs):lend cs h H b=(h.get? b).map λo=>HO.frz o (.own 0):=if_pos z
theorem js {cs:List Addr} {h:Heap} {H:Hp} {b:Addr} (z:b ∉ cs):lend cs h H b=H b:=if_neg z
noncomputable def bT (env:Env):List Addr:=env.cells.filterMap λp=>env.cells.lookup p.1
theorem lK {env:Env} {c:Addr} (h:c∈bT env):∃ x,env.cells.lookup x=some c:=by
 obtain ⟨p,_,e⟩:=xb.mp h;exact ⟨p.1,e⟩
theorem ZdJ {env:Env} {x:Str} {c:Addr} (h:env.cells.lookup x=some c):c∈bT env:=xb.mpr ⟨(x,c),vx h,h⟩
section
variable {X:Cx} {pins:yF} {σ:St} {H:Hp} {s:Shared}
theorem Inv.lent (I:Inv X pins σ H s):Lent (bT X.env) (lend (bT X.env) s.heap H):=λc hc=>by
 obtain ⟨x,e⟩:=lK hc;obtain ⟨v,o,e1,e2⟩:=I.cell x c e;exact ⟨o,v,by rw [su hc,e1]; rfl,e2⟩
theorem Inv.lend_cut (I:Inv X pins σ H s):cut (bT X.env) (lend (bT X.env) s.heap H)=H:=funext λb=>by
 by_cases z:b∈bT X.env
 ·rw [eu z];obtain ⟨x,e⟩:=lK z;exact (I.freeC x b e).symm
 ·rw [c5 z,js z]
theorem Inv.lend0 (I:Inv X pins σ H s) (hfn:∀ x,X.fn x=true):Env0 X.prog X.w X.K X.mg X.base X.A X.stack s (lend (bT X.env) s.heap H):=by
 have e0:=I.env0;have big:∀ c∈bT X.env,X.s₀.heap.objs.size<=c:=λc hc=>by
  obtain ⟨x,e⟩:=lK hc;exact I.ok.cab x c (hfn x) e
 have none':∀ b u,H b=some u->b ∉ bT X.env:=λb u e z=>by
  obtain ⟨x,q⟩:=lK z;rw [I.freeC x b q] at e;cases e
 refine ⟨e0.frames,e0.mod,λb o e=>⟨(e0.bs b o e).1,?_⟩,e0.bsz,e0.funs,λb hb=>?_,λb u e=>?_,e0.bare⟩
 ·rw [js λz=>absurd (uU (uY e) (u8 I.ok.bsz (big b z))) (ve _)];exact (e0.bs b o e).2
 ·have hz:b ∉ bT X.env:=λz=>by
   rcases uV.mp (I.stkSub b hb) with q | q
   ·obtain ⟨x,e⟩:=lK z;exact I.cne x b e q
   ·obtain ⟨_,o,ho,_⟩:=I.ok.funs.mem q;exact absurd (uU (uY ho) (big b z)) (ve _)
  rw [js hz];exact e0.frf b hb
 ·by_cases z:b∈bT X.env
  ·rw [su z] at e;cases g:s.heap.get? b with
   | none=>rw [g] at e; cases e
   | some o =>
    rw [g] at e;cases e;exact ⟨g,o,g⟩
  ·rw [js z] at e;exact (I.hok b u e).stay (λ_ _ _ q=>q) (λc q=>by rw [js (none' c _ q)]; exact q) (λc xs q=>by rw [js (none' c _ q)]; exact q) λc ob u' vs q _=>by rw [js (none' c _ q)]; exact q
def Zgt (N:yA) (env:Env) (P:Addr) (e:Expr) (scope:Scope) (sp:Sp):TE:=λσ H Q=>(∃ ps,H P=some (.cod ps))/\∀ (f c:Addr) (cl:List (Str×Addr)) (fo oc:Obj) (fd:FuncData) (vs:Array Value) (q:Str) (t:Tok) (H1 H2:Hp),
 LamFd fd e scope cl (.ref c)->fo.data=.func fd->(∀ x c,cl.lookup x=some c->env.cells.lookup x=some c)->(∀ y∈scope.names,y.2=.free->∃ c,cl.lookup y.1=some c)->H1 c=some (.frz oc (.own 0))->oc.data=.fields vs->vs[1]?=some (.str q t) ->
 (H1=H\/(H c=none/\H1=upd H c (.frz oc (.own 0))))->H1 f=none->(∀ x y c,env.cells.lookup x=some c->env.cells.lookup y=some c->x=y)->Lent (bT env) H2->cut (bT env) H2=upd H1 f (.frz fo (.own 0)) ->
 (∀ (j:Nat) (y:Str) (v:V) (a:Addr),N[j]?=some y->σ[j]?=some (some v)->(env.scope.names.lookup y=some .cell\/env.scope.names.lookup y=some .free)->env.cells.lookup y=some a->∃ o u,H2 a=some (.frz o (.own 0))/\o.data=.cell (some u)/\RelV v u) ->
 sp [.ref f] H2 (λv H'=>Q v (cut (bT env) H')) λ_ _ _=>False
theorem ZiJ {k:Nat} {g c0 P:Addr} {fd:FuncData} {ps:yA} {sp:Sp} {x:Str} {e:Expr} {scope:Scope} {p lpos pos:Pos} (hfn:∀ y,X.fn y=true) (ck:CodK X.K c0 P) (bk:BltK X.base X.mg) (hc0:X.env.code=.ref c0) (hfr:∀ y∈scope.names,y.2=.free->X.env.kindOf y.1=some .cell\/X.env.kindOf y.1=some .free)
  (F:FnOk X.prog X.w X.K X.mg X.base dH k g fd ps sp) (hr:Room k X.A) (hg:Gl X x) (hm:X.mg x=some (.ref g)) (hk:PySem.W.keepIn X.K (.ref g)=true) (hb:Binds X.K fd ps [])
  (hdb:(x == ("__debug__":Str))=false:=by decide)
  (he:starEach [.Lambda dw e scope lpos] X.env=(false,eval (.Lambda dw e scope lpos) X.env)::starEach [] X.env:=by rfl) (hpl:(backTo pos (starEach [] X.env)).any (·.1)=false:=by rfl) :
  PE X (.Call (.Name x p) [.Lambda dw e scope lpos] [] pos) (Zgt X.N X.env P e scope sp):=by
 intro pins s σ H Q I h;obtain ⟨hP,h⟩:=h;refine wpAny_Call_Name_kw (oG I hg hm ?_ hdb);have ha:PA X [.Lambda dw e scope lpos] (eE (ZaA X.env.cells P e scope) bb):=aV (ZiO ck bk hc0 hfr) bM he;refine w8 (h₀:=X.base) I.ok.mod.kin hk (wpAny_mono (ha pos pins s σ H (λvs H3=>∃ (f c:Addr) (cl:List (Str×Addr)) (fo oc:Obj) (fd:FuncData) (as:Array Value) (q:Str) (t:Tok) (H1:Hp),LamFd fd e scope cl (.ref c)/\fo.data=.func fd/\(∀ x c,cl.lookup x=some c->X.env.cells.lookup x=some c)/\(∀ y∈scope.names,y.2=.free->∃ c,cl.lookup y.1=some c)/\H1 c=some (.frz oc (.own 0))/\oc.data=.fields as/\as[1]?=some (.str q t) /\
  (H1=H\/(H c=none/\H1=upd H c (.frz oc (.own 0))))/\H1 f=none/\vs=[.ref f]/\H3=upd H1 f (.frz fo (.own 0))) I ⟨hP,λf c cl fo oc fd as q t H1 a1 a2 a3 a4 a5 a6 a7 a8 a9=>⟨f,c,cl,fo,oc,fd,as,q,t,H1,a1,a2,a3,a4,a5,a6,a7,a8,a9,rfl,rfl⟩⟩) (λus s1 ⟨vs,H3,I1,r,q⟩=>⟨I1.kIn,?_⟩) λ_ _ z=>z) he hpl
 obtain ⟨f,c,cl,fo,oc,fd',as,qn,t,H1,a1,a2,a3,a4,a5,a6,a7,a8,a9,rfl,rfl⟩:=q;have L:=I1.lent;have e0:=I1.lend0 hfn;have ec:=I1.lend_cut;have q:=h f c cl fo oc fd' as qn t H1 _ a1 a2 a3 a4 a5 a6 a7 a8 a9 I1.ok.inj L ec λj y v a h1 h2 h3 h4=>by
  obtain ⟨m,hn,hl⟩:=I1.loc;obtain ⟨u,ru,l⟩:=hl j y v h1 h2 (.inr h3);rcases l with ⟨z,_⟩ | ⟨_,a',z,⟨o,g1,g2⟩⟩
  ·have z:X.env.scope.names.lookup y=some .local:=z;rcases h3 with h3 | h3 <;> (rw [h3] at z; cases z)
  ·rw [h4] at z;cases z;exact ⟨o,u,by rw [su (ZdJ h4),g1]; rfl,g2,ru⟩
 have hl:us.length=ps.length:=by rw [<- r.length]; exact F.len _ _ _ _ q
 have hbb:=hb s1 us I1.kIn (by rw [vo]; exact hl)
 rw [vo] at hbb;refine wpAny_call (codeAny_mono (F.run X.A X.stack s1 _ ⟨us,[]⟩ us _ _ _ hr e0 hbb r q) λrr s' hq=>?_);cases rr with
 | ok fl =>
  cases fl with
  | ret u =>
   have:=CE.cut L e0 hq;rw [ec] at this;exact I1.after this
  | next=>exact False.elim hq
  | brk=>exact False.elim hq
  | cont=>exact False.elim hq
 | error ex=>exact False.elim hq
end
theorem Zi2 {P:Program} {w:World} {K:ym} {mg:yC} {base:Heap} {N:yA} {qual:Str} {scope:Scope} {f:Addr} {cd:Value} {A:Around} {outer:List Env} {s₀:Shared} {H₀:Hp} {E E1:XK}
  {pins:yF} {σ:St} {H:Hp} {s s':Shared} {e:Value}
  (I:Inv (cK (CXE P w) P w K mg base N qual scope f cd A outer s₀ H₀ E) pins σ H s) (hq:CXE P w (envOfC qual scope s₀.heap.objs.size f cd::outer) H s E1 e s') (hE:∀ cls H',E1 cls none H'->E cls none H') :
  (cK (CXE P w) P w K mg base N qual scope f cd A outer s₀ H₀ E).xe e s':=by
 have hst:s.heap.FunFrames base (envOfC qual scope s₀.heap.objs.size f cd::outer):=I.stack;have hbase:Un (frs outer) [] H₀ H s₀.heap s.heap:=I.base;obtain ⟨_,⟨L,oL,hL,_,hoL,_⟩,_⟩:=id hst;have hLe:L=s₀.heap.objs.size:=(vc hL).symm;have hfs:∀ b,b∈frs (envOfC qual scope s₀.heap.objs.size f cd::outer) ↔ b=L\/b∈frs outer:=λb=>by
  unfold frs;rw [vT,hL];exact uV
 have old:∀ b o,s₀.heap.get? b=some o->b≠L:=λb o hb z=>by
  have:=uY hb;rw [z,hLe] at this;exact absurd this (ve _)
 show wpAny (model P w) (A.deeper (envOfC qual scope s₀.heap.objs.size f cd)) (leaving (envOfC qual scope s₀.heap.objs.size f cd) e) (λ_ s''=>CXE P w outer H₀ s₀ E e s'') (λe' s''=>CXE P w outer H₀ s₀ E e' s'') s';unfold leaving;refine wpAny_bind (tR (X:=cK (CXE P w) P w K mg base N qual scope f cd A outer s₀ H₀ E) (outer:=outer) (L:=L) I rfl hL hq λea cls H' h' eq I5 hea hcl fly un hE1=>?_);obtain ⟨b'',t,fl,hf,hbt⟩:=fly;obtain ⟨f1,f2,⟨_,_,f3⟩,f4⟩:=fl;refine ⟨ea,t,cls,b'',H',eq,I5.os,I5.bare,I5.base,I5.hok,⟨f1,f2,f3,f4⟩,λb o hb hn=>?_,hbt,hE cls H' hE1⟩;cases e1:b''.get? b with
 | some o'=>exact ⟨o',rfl⟩
 | none =>
  obtain ⟨o',e2⟩:=hbase.there b o hb (by simp)
  have:=hf b e1 λz=>((hfs b).mp z).elim (old b o hb) hn;rw [e2] at this;cases this
def Zay (t:TA) (sp:Sp) (E:XK):TS:=λ_ σ H=>t σ H λvs H1=>sp vs H1 (λ_ _=>False) λcls _ H'=>E cls none H'
theorem nF {P:Program} {w:World} {K:ym} {mg:yC} {base:Heap} {N:yA} {qual:Str} {scope:Scope} {f:Addr} {cd:Value} {A:Around} {outer:List Env} {s₀:Shared} {H₀:Hp} {E:XK}
  {k:Nat} {g:Addr} {fd:FuncData} {ps:yA} {sp:Sp} {x:Str} {e:Expr} {es:List Expr} {t:TA} {p cpos epos:Pos}
  (F:FnOk P w K mg base (CXE P w) k g fd ps sp) (hr:Room k (A.deeper (envOfC qual scope s₀.heap.objs.size f cd))) (hg:Gl (cK (CXE P w) P w K mg base N qual scope f cd A outer s₀ H₀ E) x) (hm:mg x=some (.ref g)) (hk:PySem.W.keepIn K (.ref g)=true) (hb:Binds K fd ps []) (ha:PA (cK (CXE P w) P w K mg base N qual scope f cd A outer s₀ H₀ E).nox (e::es) t)
  (hdb:(x == ("__debug__":Str))=false:=by decide)
  (he:starEach (e::es) (envOfC qual scope s₀.heap.objs.size f cd)=(false,eval e (envOfC qual scope s₀.heap.objs.size f cd))::starEach es (envOfC qual scope s₀.heap.objs.size f cd):=by rfl) (hpl:(backTo cpos (starEach es (envOfC qual scope s₀.heap.objs.size f cd))).any (·.1)=false:=by rfl) (hs:swapsWith (.Call (.Name x p) (e::es) [] cpos) none epos.line (envOfC qual scope s₀.heap.objs.size f cd)=pure false:=by rfl) :
  PS (cK (CXE P w) P w K mg base N qual scope f cd A outer s₀ H₀ E) (.Expr (.Call (.Name x p) (e::es) [] cpos) epos) (Zay t sp E):=by
 intro pins s σ H D I h;refine wpAny_Expr_any ?_ I.quiet hs;refine wpAny_Call_Name_kw (sv I hg hm ?_ hdb);refine w8 (h₀:=base) I.ok.mod.kin hk (wpAny_mono (ha cpos pins s σ H _ (I.wish _) h) (λus s1 ⟨vs,H1,I1',r,q⟩=>⟨I1'.unwish.kIn,?_⟩) λ_ _ z=>z.elim) he hpl;have I1:=I1'.unwish;have hl:us.length=ps.length:=by rw [<- r.length]; exact F.len _ _ _ _ q
 have hbb:=hb s1 us I1.kIn (by rw [vo]; exact hl)
 rw [vo] at hbb;refine wpAny_call (codeAny_mono (F.run _ (envOfC qual scope s₀.heap.objs.size f cd::outer) s1 H1 ⟨us,[]⟩ us vs _ _ hr I1.env0 hbb r q) λrr s' hq=>?_);cases rr with
 | ok fl =>
  cases fl with
  | ret u =>
   obtain ⟨_,_,_,_,_,_,_,z⟩:=hq;exact z.elim
  | next=>exact False.elim hq
  | brk=>exact False.elim hq
  | cont=>exact False.elim hq
 | error ex=>exact Zi2 I1 hq λcls H' z=>z
def spX (PK:Pk) (n:Nat) (q:yp) (C:Addr):Sp:=λvs H _ E=>vs.length=n/\∃ pa m G as,Wd PK pa m G H/\ArsOk pa G vs as/\(q as).ok m λm' b=>b=true/\∀ G' H',Stp pa G H G' H'->Wd PK pa m' G' H'->E (.ref C) none H'
noncomputable def fF (n k:Nat) (q:yp):yp:=λas=>if decide (as.length=n)=true then q (as++List.replicate k .un) else .fail
theorem iD {n k:Nat} {q:yp} (as:yD) (m:Nat) (Z:Nat->Bool->Prop) (h:(fF n k q as).ok m Z):as.length=n:=by
 unfold fF at h;exact of_decide_eq_true (eY h).1
theorem ZfX {PK:Pk} {n k:Nat} {q:yp} {C:Addr} {E:XK} {Q:VK} {D:Ends} {N:yA} {vs:yB} {H:Hp} {u:TS} (hk:N.length - n=k) (h:spX PK n (fF n k q) C vs H Q E):ZaB (TAt PK q) (λ_ _ H'=>E (.ref C) none H') u D (L2.start N vs) H:=by
 obtain ⟨hv,pa,m,G,as,wd,ar,z⟩:=h;unfold fF at z;obtain ⟨_,z⟩:=eY z;refine ⟨pa,G,H,m,_,G,Rl.start wd ar (by rw [hv]; exact hk),Tr.ok_mono z λm1 b hb G' H' s1 w1=>?_⟩
 obtain ⟨rfl,k1⟩:=hb;exact k1 G' H' s1 w1
theorem mU {PK:Pk} {n k n':Nat} {i:List Sl->Tr yD} {q:yp} {C:Addr} {E:XK} {Q:VK} {D:Ends} {N:yA} {vs:yB} {H:Hp} (hk:N.length - n=k) (hq:∀ as m Z,(q as).ok m Z->as.length=n') (h:spX PK n (fF n k λρ=>(i ρ).bind q) C vs H Q E):Zay (TAa PK i) (spX PK n' q C) E D (L2.start N vs) H:=by
 obtain ⟨hv,pa,m,G,as,wd,ar,z⟩:=h;unfold fF at z;obtain ⟨_,z⟩:=eY z;refine ⟨pa,G,H,m,_,G,Rl.start wd ar (by rw [hv]; exact hk),Tr.ok_mono (Tr.ok_bind.mp z) λm1 as1 z1 vs1 G1 H1 s1 w1 a1=>?_⟩
 exact ⟨by rw [a1.length]; exact hq _ _ _ z1,pa,m1,G1,as1,w1,a1,Tr.ok_mono z1 λm2 b hb=>⟨hb.1,λG' H' s2 w2=>hb.2 G' H' (s1.trans s2 w1.some) w2⟩⟩
theorem Zi1 {P:Program} {w:World} {K:ym} {mg:yC} {base:Heap} {N:yA} {scope:Scope} {cl:List (Str×Addr)} {qual:Str} {f:Addr} {cd:Value} {A:Around} {outer:List Env} {s₀:Shared} {H₀:Hp} {E E1:XK}
  {pins:yF} {σ:St} {H:Hp} {s s':Shared} {e:Value}
  (I:Inv (eh (CXE P w) P w K mg base N scope cl qual f cd A outer s₀ H₀ E) pins σ H s) (hq:CXE P w (cJ scope cl qual s₀.heap.objs.size f cd::outer) H s E1 e s') (hE:∀ cls H',E1 cls none H'->E cls none H') :
  (eh (CXE P w) P w K mg base N scope cl qual f cd A outer s₀ H₀ E).xe e s':=by
 have hst:s.heap.FunFrames base (cJ scope cl qual s₀.heap.objs.size f cd::outer):=I.stack;have hbase:Un (frs outer) [] H₀ H s₀.heap s.heap:=I.base;obtain ⟨_,⟨L,oL,hL,_,hoL,_⟩,_⟩:=id hst;have hLe:L=s₀.heap.objs.size:=(vc hL).symm;have hfs:∀ b,b∈frs (cJ scope cl qual s₀.heap.objs.size f cd::outer) ↔ b=L\/b∈frs outer:=λb=>by
  unfold frs;rw [vT,hL];exact uV
 have old:∀ b o,s₀.heap.get? b=some o->b≠L:=λb o hb z=>by
  have:=uY hb;rw [z,hLe] at this;exact absurd this (ve _)
 show wpAny (model P w) (A.deeper (cJ scope cl qual s₀.heap.objs.size f cd)) (leaving (cJ scope cl qual s₀.heap.objs.size f cd) e) (λ_ s''=>CXE P w outer H₀ s₀ E e s'') (λe' s''=>CXE P w outer H₀ s₀ E e' s'') s';unfold leaving;refine wpAny_bind (tR (X:=eh (CXE P w) P w K mg base N scope cl qual f cd A outer s₀ H₀ E) (outer:=outer) (L:=L) I rfl hL hq λea cls H' h' eq I5 hea hcl fly un hE1=>?_);obtain ⟨b'',t,fl,hf,hbt⟩:=fly;obtain ⟨f1,f2,⟨_,_,f3⟩,f4⟩:=fl;refine ⟨ea,t,cls,b'',H',eq,I5.os,I5.bare,I5.base,I5.hok,⟨f1,f2,f3,f4⟩,λb o hb hn=>?_,hbt,hE cls H' hE1⟩;cases e1:b''.get? b with
 | some o'=>exact ⟨o',rfl⟩
 | none =>
  obtain ⟨o',e2⟩:=hbase.there b o hb (by simp)
  have:=hf b e1 λz=>((hfs b).mp z).elim (old b o hb) hn;rw [e2] at this;cases this
def nj (t:TA) (sp:Sp) (E:XK):TE:=λσ H _=>t σ H λvs H1=>sp vs H1 (λ_ _=>False) λcls _ H'=>E cls none H'
theorem nJ {P:Program} {w:World} {K:ym} {mg:yC} {base:Heap} {N:yA} {scope:Scope} {cl:List (Str×Addr)} {qual:Str} {f:Addr} {cd:Value} {A:Around} {outer:List Env} {s₀:Shared} {H₀:Hp} {E:XK}
  {k:Nat} {g:Addr} {fd:FuncData} {ps:yA} {sp:Sp} {x:Str} {e:Expr} {es:List Expr} {t:TA} {p cpos:Pos}
  (F:FnOk P w K mg base (CXE P w) k g fd ps sp) (hr:Room k (A.deeper (cJ scope cl qual s₀.heap.objs.size f cd))) (hg:Gl (eh (CXE P w) P w K mg base N scope cl qual f cd A outer s₀ H₀ E) x) (hm:mg x=some (.ref g)) (hk:PySem.W.keepIn K (.ref g)=true) (hb:Binds K fd ps []) (ha:PA (eh (CXE P w) P w K mg base N scope cl qual f cd A outer s₀ H₀ E).nox (e::es) t)
  (hdb:(x == ("__debug__":Str))=false:=by decide)
  (he:starEach (e::es) (cJ scope cl qual s₀.heap.objs.size f cd)=(false,eval e (cJ scope cl qual s₀.heap.objs.size f cd))::starEach es (cJ scope cl qual s₀.heap.objs.size f cd):=by rfl) (hpl:(backTo cpos (starEach es (cJ scope cl qual s₀.heap.objs.size f cd))).any (·.1)=false:=by rfl) :
  PE (eh (CXE P w) P w K mg base N scope cl qual f cd A outer s₀ H₀ E) (.Call (.Name x p) (e::es) [] cpos) (nj t sp E):=by
 intro pins s σ H Q I h;refine wpAny_Call_Name_kw (sv I hg hm ?_ hdb);refine w8 (h₀:=base) I.ok.mod.kin hk (wpAny_mono (ha cpos pins s σ H _ (I.wish _) h) (λus s1 ⟨vs,H1,I1',r,q⟩=>⟨I1'.unwish.kIn,?_⟩) λ_ _ z=>z.elim) he hpl;have I1:=I1'.unwish;have hl:us.length=ps.length:=by rw [<- r.length]; exact F.len _ _ _ _ q
 have hbb:=hb s1 us I1.kIn (by rw [vo]; exact hl)
 rw [vo] at hbb;refine wpAny_call (codeAny_mono (F.run _ (cJ scope cl qual s₀.heap.objs.size f cd::outer) s1 H1 ⟨us,[]⟩ us vs _ _ hr I1.env0 hbb r q) λrr s' hq=>?_);cases rr with
 | ok fl =>
  cases fl with
  | ret u =>
   obtain ⟨_,_,_,_,_,_,_,z⟩:=hq;exact z.elim
  | next=>exact False.elim hq
  | brk=>exact False.elim hq
  | cont=>exact False.elim hq
 | error ex=>exact Zi1 I1 hq λcls H' z=>z
def qy (P:Program) (w:World) (K:ym) (mg:yC) (base:Heap) (kk:Nat) (C:Addr):Sp:=λvs H Q _=>vs.length=1/\∃ f sp Q0 E0,vs=[.ref f]/\uI P w K mg base kk f sp/\sp H Q0 E0/\(∀ v H',Q0 v H'->Q (.str "told") H') /\
 ∀ cls t H',E0 cls t H'->cls=.ref C/\∀ H'',(∀ b o,H' b=some o->H'' b=some o)->Q (.str "no mean") H''
noncomputable def jB:List Nat->List Sl->Option yx
 | [],_=>some []
 | j::ix,ρ=>match ρ[j]? with
  | some (.d x)=>(jB ix ρ).map (x::·)
  | _=>none
noncomputable def dQ (ix:List Nat) (i:List Sl->Tr yD) (q:yp) (t:yn):yn:=λρ=>match jB ix ρ with
 | some xs=>match (i (xs.map Sl.d)).bind q with
  | .ret true=>.ret (.str "no mean")
  | .ret false=>match t (xs.map Sl.d) with
   | .ret _=>.ret (.str "told")
   | _=>.fail
  | _=>.fail
 | none=>.fail
theorem ZeU {PK:Pk} {pa:Addr} {yE H₀ G H:Hp} {m:Nat} {σ:St} {ρ:yD} (R:Rl PK pa yE H₀ m σ ρ G H):∀ {ix:List Nat} {xs:yx},jB ix ρ=some xs->∃ vs,DnAll G vs xs/\vs.length=ix.length/\∀ (i j:Nat),ix[i]?=some j->∃ v,vs[i]?=some v/\σ[j]?=some (some v)
 | [],xs,h=>by
  cases h;exact ⟨[],.nil,rfl,λi j e=>by simp at e⟩
 | j::ix,xs,h=>by
  rw [jB] at h
  split at h
  ·rename_i x hx;cases e:jB ix ρ with
   | none=>rw [e] at h; cases h
   | some ys =>
    rw [e] at h;cases h;obtain ⟨vs,d,hl,k⟩:=ZeU R e;obtain ⟨o,ho,so⟩:=R.sl j _ hx;cases so with
    | @d v _ dv =>
     refine ⟨v::vs,.cons dv d,by rw [uZ,uZ,hl],λi j' hi=>?_⟩
     cases i with
     | zero =>
      simp at hi;subst hi;exact ⟨v,rfl,ho⟩
     | succ i =>
      obtain ⟨u,h1,h2⟩:=k i j' (by simpa using hi)
      exact ⟨u,by simpa using h1,h2⟩
  ·cases h
theorem Zft {pa:Addr} {G:Hp}:∀ {vs:yB} {xs:yx},DnAll G vs xs->ArsOk pa G vs (xs.map Sl.d)
 | _,_,.nil=>.nil
 | _,_,.cons h t=>.cons (.d h) (Zft t)
theorem Zqc {X:Cx} {PK:Pk} {k kk n':Nat} {g c0 P C:Addr} {fd:FuncData} {ps:yA} {x:Str} {e:Expr} {scope:Scope} {p lpos pos:Pos} {NL:yA} {ix:List Nat} {i:List Sl->Tr yD} {qx:yp} {t:yn}
  (hPK:∀ o G m,PK.is o G m->∃ ps,G P=some (.cod ps)) (hfn:∀ y,X.fn y=true) (ck:CodK X.K c0 P) (bk:BltK X.base X.mg) (hc0:X.env.code=.ref c0) (hfr:∀ y∈scope.names,y.2=.free->X.env.kindOf y.1=some .cell\/X.env.kindOf y.1=some .free)
  (F:FnOk X.prog X.w X.K X.mg X.base dH k g fd ps (qy X.prog X.w X.K X.mg X.base (kk+1) C)) (hr:Room k X.A) (hg:Gl X x) (hm:X.mg x=some (.ref g)) (hk:PySem.W.keepIn X.K (.ref g)=true) (hb:Binds X.K fd ps [])
  (S:LamSc NL scope) (hNL:∀ (a:Nat) (y:Str),NL[a]?=some y->∃ j,ix[a]?=some j/\X.N[j]?=some y) (hlen:ix.length=NL.length) (hq:∀ as m Z,(qx as).ok m Z->as.length=n')
  (hT:∀ (cl:List (Str×Addr)) (q:Str) (f c:Addr) (A:Around) (outer:List Env) (s:Shared) (H:Hp) (E:XK),Room kk (A.deeper (cJ scope cl q s.heap.objs.size f (.ref c)))->PE (eh (CXE X.prog X.w) X.prog X.w X.K X.mg X.base NL scope cl q f (.ref c) A outer s H E).nox e (TAe PK t))
  (hX:∀ (cl:List (Str×Addr)) (q:Str) (f c:Addr) (A:Around) (outer:List Env) (s:Shared) (H:Hp) (E:XK),Room kk (A.deeper (cJ scope cl q s.heap.objs.size f (.ref c)))->PE (eh (CXE X.prog X.w) X.prog X.w X.K X.mg X.base NL scope cl q f (.ref c) A outer s H E) e (nj (TAa PK i) (spX PK n' qx C) E))
  (hdb:(x == ("__debug__":Str))=false:=by decide)
  (he:starEach [.Lambda dw e scope lpos] X.env=(false,eval (.Lambda dw e scope lpos) X.env)::starEach [] X.env:=by rfl) (hpl:(backTo pos (starEach [] X.env)).any (·.1)=false:=by rfl) :
  PE X (.Call (.Name x p) [.Lambda dw e scope lpos] [] pos) (TAe PK (dQ ix i qx t)) :=
 (ZiJ hfn ck bk hc0 hfr F hr hg hm hk hb hdb he hpl).imp λσ H Q hz0=>by
  obtain ⟨pa,yE,H₀,m,ρ,G,R,z⟩:=hz0;unfold dQ at z
  split at z
  ·rename_i xs hc;obtain ⟨vs,dv,hvl,hvs⟩:=ZeU R hc;obtain ⟨o0,ho0,hi0⟩:=R.wd.pen;obtain ⟨ps0,hP0⟩:=hPK o0 G m hi0;refine ⟨⟨ps0,R.wd.sub _ _ hP0⟩,λf c cl fo oc fd' as qn tk H1 H2 a1 a2 a3 a4 a5 a6 a7 a8 a9 inj L ec cells=>?_⟩;obtain ⟨fc,fdd,fdat,osl⟩:=fo;have a2:fdat=.func fd':=a2;subst a2;have up1:∀ b o,H b=some o->H1 b=some o:=λb o h=>by
    rcases a8 with rfl | ⟨n1,rfl⟩
    ·exact h
    ·rw [ap (bS h n1)]; exact h
   have up:∀ b o,H b=some o->upd H1 f (.frz ⟨fc,fdd,.func fd',osl⟩ (.own 0)) b=some o:=λb o h=>by rw [ap (bS (up1 b o h) a9)]; exact up1 b o h
   have hcs:∀ b u,upd H1 f (.frz ⟨fc,fdd,.func fd',osl⟩ (.own 0)) b=some u->b ∉ bT X.env/\H2 b=some u:=λb u h=>by
    rw [<- ec] at h;have hb:b ∉ bT X.env:=λz=>by rw [eu z] at h; cases h
    rw [c5 hb] at h;exact ⟨hb,h⟩
   have hf2:=(hcs f _ bq).2;have hc2:H2 c=some (.frz oc (.own 0)):=(hcs c _ (by rw [ap (bS a5 a9)]; exact a5)).2
   generalize hH3:upd H1 f (.frz ⟨fc,fdd,.func fd',osl⟩ (.own 0))=H3 at *;have w3:Wd PK pa m G H3:=⟨λb o h=>up b o (R.wd.sub b o h),R.wd.gpa,o0,up _ _ ho0,hi0⟩;have hin:∀ x a,cl.lookup x=some a->a∈bT X.env:=λx a h=>ZdJ (a3 x a h);have cap:∀ (n:Nat) (y:Str),NL[n]?=some y->∃ a o,cl.lookup y=some a/\H2 a=some (.frz o (.own 0))/\∀ v,(vs.map some)[n]?=some (some v)->∃ u,RelV v u/\o.data=.cell (some u):=λn y hy=>by
    have fr:=S.all y (vY hy);obtain ⟨a,ha⟩:=a4 (y,.free) (vx fr) rfl;obtain ⟨o,v0,e1,e2⟩:=L a (hin y a ha);refine ⟨a,o,ha,e1,λv hv=>?_⟩;obtain ⟨j,hj,hNj⟩:=hNL n y hy;obtain ⟨v',h1,h2⟩:=hvs n j hj;have:v'=v:=by
     rw [uT,h1] at hv;cases hv
     rfl
    subst this;obtain ⟨o',u,e3,e4,e5⟩:=cells j y v' a hNj h2 (hfr (y,.free) (vx fr) rfl) (a3 y a ha);rw [e1] at e3;cases e3;exact ⟨u,e5,e4⟩
   have sl:(vs.map some).length=NL.length:=by rw [uO,hvl,hlen]
   have stt:L2.start NL vs=vs.map some:=by
    unfold L2.start;rw [hvl,hlen,Nat.sub_self];simp
   have RL:=Rl.start (N:=NL) (k:=0) w3 (Zft (pa:=pa) dv) (by rw [hvl,hlen,Nat.sub_self])
   rw [stt] at RL;have e0:xs.map Sl.d++List.replicate 0 Sl.un=xs.map Sl.d:=by simp
   rw [e0] at RL;have s3:Stp pa G H G H3:=⟨λ_ _ h=>h,λ_ _ h=>.inl h,λb o h _=>up b o h⟩;have back:∀ {G4 H4 H5:Hp},Stp pa G H3 G4 H4->Wd PK pa m G4 H4->(∀ b∈bT X.env,H4 b=none)->(∀ b o,glue (bT X.env) H2 H4 b=some o->H5 b=some o)->Stp pa G H G4 (cut (bT X.env) H5)/\Wd PK pa m G4 (cut (bT X.env) H5):=λ{G4 H4 H5} s4 w4 hn hx=>by
    have key:∀ b o,H4 b=some o->cut (bT X.env) H5 b=some o:=λb o h=>by
     have hb:b ∉ bT X.env:=λz=>by rw [hn b z] at h; cases h
     rw [c5 hb];exact hx b o (by rw [gi hb]; exact h)
    have st:=s3.trans s4 w3.some;obtain ⟨o4,ho4,hi4⟩:=w4.pen;exact ⟨⟨st.gs,st.gn,λb o h n=>key b o (st.hk b o h n)⟩,λb o h=>key b o (w4.sub b o h),w4.gpa,o4,key _ _ ho4,hi4⟩
   split at z
   ·rename_i hb;have hz1:((i (xs.map Sl.d)).bind qx).ok m (λm' b=>b=true/\m'=m):=by rw [hb]; exact ⟨rfl,rfl⟩
    refine ⟨rfl,f,qz NL cl (bT X.env) f c ⟨fc,fdd,.func fd',osl⟩ oc (vs.map some) (λE=>nj (TAa PK i) (spX PK n' qx C) E),λ_ _=>False,λcls _ H'=>cls=.ref C/\∃ G4 H4,Stp pa G H3 G4 H4/\Wd PK pa m G4 H4/\(∀ b∈bT X.env,H4 b=none)/\H'=glue (bT X.env) H2 H4,rfl,Zdu S a1 a6 a7 (λx y a h1 h2=>inj x y a (a3 x a h1) (a3 y a h2)) sl λA outer s H E hr=>hX cl _ f c A outer s H E hr,⟨hf2,hc2,L,hin,cap,?_⟩,λv H' h=>h.elim,?_⟩
    ·rw [ec];refine ⟨pa,G,H3,m,_,G,RL,Tr.ok_mono (Tr.ok_bind.mp hz1) λm1 as1 z1 vs1 G1 H4 s1 w1 ar1=>?_⟩;refine ⟨by rw [ar1.length]; exact hq _ _ _ z1,pa,m1,G1,as1,w1,ar1,Tr.ok_mono z1 λm2 b hb2=>⟨hb2.1,λG' H' s2 w2 hn=>?_⟩⟩
     obtain ⟨_,rfl⟩:=hb2;exact ⟨rfl,G',H',s1.trans s2 w1.some,w2,hn,rfl⟩
    ·rintro cls tt H' ⟨rfl,G4,H4,s4,w4,hn,rfl⟩;refine ⟨rfl,λH5 hx=>?_⟩;obtain ⟨st,wd⟩:=back s4 w4 hn hx;exact z (.str "no mean") G4 _ st wd (.str _)
   ·rename_i hb
    split at z
    ·rename_i dd ht;refine ⟨rfl,f,qz NL cl (bT X.env) f c ⟨fc,fdd,.func fd',osl⟩ oc (vs.map some) (λ_=>TAe PK t),λ_ H'=>∃ G4 H4,Stp pa G H3 G4 H4/\Wd PK pa m G4 H4/\(∀ b∈bT X.env,H4 b=none)/\H'=glue (bT X.env) H2 H4,λ_ _ _=>False,rfl,Zdu S a1 a6 a7 (λx y a h1 h2=>inj x y a (a3 x a h1) (a3 y a h2)) sl λA outer s H E hr=>(hT cl _ f c A outer s H E hr).nox,⟨hf2,hc2,L,hin,cap,?_⟩,?_,λcls tt H' h=>h.elim⟩
     ·rw [ec];refine ⟨pa,G,H3,m,_,G,RL,?_⟩;rw [ht];exact λv G1 H4 s1 w1 d1 hn=>⟨G1,H4,s1,w1,hn,rfl⟩
     ·rintro v H' ⟨G4,H4,s4,w4,hn,rfl⟩;obtain ⟨st,wd⟩:=back (H5:=glue (bT X.env) H2 H4) s4 w4 hn λb o h=>h;exact z (.str "told") G4 _ st wd (.str _)
    ·exact z.elim
   ·exact z.elim
  ·exact z.elim
end L2
namespace Tw
open L2
theorem qa {f:Int->Int} {m:Int}:∀ {l:yy} {k:Nat},ws (λx=>m * f x) k l=m * ws f k l
 | [],k=>by unfold ws; simp
 | w::l,k=>by
  unfold ws;rw [qa (l:=l)]
  grind
theorem Ze7 {g:Int->Int} {top m:Int} (hm:0 < m):∀ n:Nat,bst (λy=>m * g y) top n=(m * (bst g top n).1,(bst g top n).2)
 | 0=>rfl
 | n+1=>by
  unfold bst;rw [Ze7 hm n];dsimp only;by_cases h:(bst g top n).1 < g (top - ((n+1:Nat):Int))
  ·rw [if_pos h,if_pos (wC h hm)]
  ·rw [if_neg h,if_neg (λz=>h (xi z (vL hm)))]
theorem ZcI {g:Int->Int} {top K m x:Int} (hm:0 < m) (hx:x<=top):pck (λy=>m * g y) top (m * K) x=(m * (pck g top K x).1,(pck g top K x).2):=by
 by_cases ht:x=top
 ·subst ht;rw [i8,i8]
 ·obtain ⟨n,hn⟩:∃ n:Nat,x=top - ((n+1:Nat):Int):=⟨(top - x - 1).toNat,by omega⟩
  subst hn;rw [i9,i9,Ze7 hm];dsimp only;rw [<- Int.mul_add];by_cases h:K+(bst g top n).1 < g (top - ((n+1:Nat):Int))
  ·rw [if_pos h,if_pos (wC h hm)]
  ·rw [if_neg h,if_neg (λz=>h (xi z (vL hm)))]
def Shp.RlOk (s:Shp) (g:Int->Int):Prop:=∀ x,-s.depth<=x->x<=s.top->x<=g x/\g x<=s.top
theorem nN {s:Shp} (h:s.Ok) {x y:Int} (hx:nb 20 x) (hy:nb 20 y):nb 100 (s.ord x y):=by
 unfold Shp.ord;exact n5 (show (0:Int).natAbs < 2 ^ 100 from vX (by simp)) (bn (eZ h.start (cx h.piece (fy hy hx))) (by decide))
theorem fu {s:Shp} (h:s.Ok) {x:Int} (x1:-s.depth<=x) (x2:x<=s.top):nb 20 x:=by
 have:=h.t0;have:=h.d0;have:=h.td;exact cR (by show -1048576 < _; omega) (by show _ < 1048576; omega)
theorem Zad {f:Int->Int} {a b:Nat}:∀ {l:yy} {k:Nat},(∀ w∈l,nb a w)->(∀ x:Int,(k:Int)<=x->x < k+l.length->nb b (f x))->nb (a+b+l.length) (ws f k l)
 | [],k,_,_=>by unfold ws nb; exact vX (by simp)
 | w::l,k,hw,hf=>by
  rw [uZ] at hf ⊢;have h1:=cx (hw w (by simp)) (hf k (by omega) (by omega))
  have h2:=Zad (f:=f) (a:=a) (b:=b) (l:=l) (k:=k+1) (λv hv=>hw v (uP _ hv)) λx x1 x2=>hf x (by omega) (by omega)
  unfold ws;exact bn (eZ h1 h2) (by omega)
end Tw
namespace L2
theorem ZdU {g:yu} {s:yq} {r:Re} {full:yx} (B:List PyData->PyData->Prop) (I:List PyData->List Sl->Prop)
  (ht:∀ pre x post ρ,full=pre++x::post->I pre ρ->∃ ρ1,g x ρ=some ρ1/\((B pre x/\s ρ1=.ret (.ret r))\/(¬ B pre x/\∃ ρ2,s ρ1=.ret (.next ρ2)/\I (pre++[x]) ρ2))) :
  ∀ {xs pre:yx} {ρ:yD},full=pre++xs->I pre ρ->(∀ p x q,pre=p++x::q->¬ B p x) ->
   ((∃ p x q,full=p++x::q/\B p x)/\cb g s xs ρ=.ret (.ret r))\/((∀ p x q,full=p++x::q->¬ B p x)/\∃ ρ2,cb g s xs ρ=.ret (.next ρ2)/\I full ρ2)
 | [],pre,ρ,e,h0,hn=>by
  rw [vo] at e;subst e;exact .inr ⟨hn,ρ,rfl,h0⟩
 | x::xs,pre,ρ,e,h0,hn=>by
  obtain ⟨ρ1,e1,hx⟩:=ht pre x xs ρ e h0;rw [iE,e1,Tr.of_some,Tr.ret_bind];unfold jx;rcases hx with ⟨hb,e2⟩ | ⟨hb,ρ2,e2,h2⟩
  ·exact .inl ⟨⟨pre,x,xs,e,hb⟩,by rw [e2,Tr.ret_bind]; rfl⟩
  ·rw [e2,Tr.ret_bind,gR];refine ZdU B I ht (xs:=xs) (pre:=pre++[x]) (by rw [e,wy]; rfl) h2 λp y q hp=>?_
   rcases List.append_eq_append_iff.mp hp with ⟨a,h1,h2'⟩ | ⟨a,h1,h2'⟩
   ·cases a with
    | nil =>
     rw [wX] at h2';rw [vo] at h1;cases h2';subst h1;exact hb
    | cons z a =>
     simp at h2'
   ·cases a with
    | nil =>
     rw [wX] at h2';rw [vo] at h1;cases h2';subst h1;exact hb
    | cons z a =>
     rw [wH] at h2';cases h2';exact hn p y a h1
theorem ZdV {g:yu} {s:yq} {r:Re} {xs:yx} {ρ:yD} (B:List PyData->PyData->Prop) (I:List PyData->List Sl->Prop) (h0:I [] ρ)
  (ht:∀ pre x post ρ,xs=pre++x::post->I pre ρ->∃ ρ1,g x ρ=some ρ1/\((B pre x/\s ρ1=.ret (.ret r))\/(¬ B pre x/\∃ ρ2,s ρ1=.ret (.next ρ2)/\I (pre++[x]) ρ2))) :
   ((∃ p x q,xs=p++x::q/\B p x)/\cb g s xs ρ=.ret (.ret r))\/((∀ p x q,xs=p++x::q->¬ B p x)/\∃ ρ2,cb g s xs ρ=.ret (.next ρ2)/\I xs ρ2) :=
 ZdU B I ht (xs:=xs) (pre:=[]) rfl h0 λp x q hp=>by
  have:=congrArg List.length hp;simp at this
end L2
namespace Bar
abbrev bB:=Nat->Int
noncomputable def lap (f:bB->Int):List bB->(List bB->Int)->Int
 | [],_=>0
 | c::cs,g=>f c * g cs - lap f cs λr=>g (c::r)
theorem sB (f:bB->Int) (m:Int):∀ (cs:List bB) (g h:List bB->Int),lap f cs (λr=>m * g r - h r)=m * lap f cs g - lap f cs h
 | [],g,h=>by simp [lap]
 | c::cs,g,h=>by
  rw [lap,lap,lap,sB f m cs (λr=>g (c::r)) λr=>h (c::r)]
  grind
theorem Zdr (f:bB->Int):∀ cs:List bB,lap f cs (λ_=>0)=0
 | []=>rfl
 | c::cs=>by rw [lap,Zdr f cs]; simp
theorem sA (f h:bB->Int):∀ (cs:List bB) (g:List bB->Int),lap f cs (λr=>lap h r g)=-lap h cs λr=>lap f r g
 | [],g=>by simp [lap]
 | c::cs,g=>by
  have ih:=sA f h cs λr=>g (c::r);have e1:(λr=>lap h (c::r) g)=λr=>h c * g r - lap h r λq=>g (c::q):=rfl;have e2:(λr=>lap f (c::r) g)=λr=>f c * g r - lap f r λq=>g (c::q):=rfl;rw [lap,lap,e1,e2,sB,sB,ih]
  grind
noncomputable def D:Nat->List bB->Int
 | 0,_=>1
 | k+1,cs=>lap (λc=>c k) cs (D k)
theorem ZfO:∀ {k r:Nat},r < k->∀ cs:List bB,lap (λc=>c r) cs (D k)=0
 | 0,r,h,_=>by cases h
 | k+1,r,h,cs=>by
  have e:lap (λc=>c r) cs (D (k+1))=lap (λc=>c r) cs λq=>lap (λc=>c k) q (D k):=rfl;rw [e];by_cases hr:r=k
  ·subst hr;have:=sA (λc=>c r) (λc=>c r) cs (D r);omega
  ·rw [sA];have ez:(λq=>lap (λc=>c r) q (D k))=λ_=>(0:Int):=funext λq=>ZfO (by omega) q
   rw [ez,Zdr]
   rfl
variable (A:Nat->Nat->Int)
noncomputable def col (l:Nat):bB:=λr=>A r l
noncomputable def R:Nat->List bB
 | 0=>[]
 | k+1=>col A k::R k
noncomputable def am (f:Nat->Int):Nat->Int
 | 0=>0
 | n+1=>am f n+f n
theorem jR {f g:Nat->Int}:∀ {n:Nat},(∀ l,l < n->f l=g l)->am f n=am g n
 | 0,_=>rfl
 | n+1,h=>by rw [am,am,jR λl hl=>h l (by omega),h n (by omega)]
theorem gA (f g h:Nat->Int) (a b:Int):∀ n:Nat,am (λl=>f l * (a * g l - b * h l)) n=a * am (λl=>f l * g l) n - b * am (λl=>f l * h l) n
 | 0=>by simp [am]
 | n+1=>by
  rw [am,am,am,gA f g h a b n]
  grind
theorem kY {f:Nat->Int} {n:Nat} (h:∀ l,l < n->f l=0):am f n=0:=by
 rw [jR (g:=λ_=>0) h]
 induction n with
 | zero=>rfl
 | succ n ih=>rw [am,ih λl hl=>h l (by omega)]; rfl
noncomputable def dM:Nat->(List bB->Int)->Nat->Int
 | 0,_,_=>0
 | k+1,g,l=>if l=k then g (R A k) else -dM k (λcs=>g (col A k::cs)) l
theorem Zdt (f:bB->Int):∀ (k:Nat) (g:List bB->Int),lap f (R A k) g=am (λl=>f (col A l) * dM A k g l) k
 | 0,g=>rfl
 | k+1,g=>by
  have e1:am (λl=>f (col A l) * dM A (k+1) g l) k=-am (λl=>f (col A l) * dM A k (λcs=>g (col A k::cs)) l) k:=by
   have:∀ n,n<=k->am (λl=>f (col A l) * dM A (k+1) g l) n=-am (λl=>f (col A l) * dM A k (λcs=>g (col A k::cs)) l) n:=by
    intro n
    induction n with
    | zero=>intro _; rfl
    | succ n ih =>
     intro hn;rw [am,am,ih (by omega)]
     have e:dM A (k+1) g n=-dM A k (λcs=>g (col A k::cs)) n:=by rw [dM,if_neg (by omega)]
     rw [e]
     grind
   exact this k (uQ _)
  have e2:dM A (k+1) g k=g (R A k):=by rw [dM,if_pos rfl]
  rw [R,lap,Zdt f k,am,e1,e2];omega
noncomputable def d (k:Nat):Int:=D k (R A k)
noncomputable def sol (k:Nat) (a:bB):Nat->Int:=dM A k λcs=>D k (a::cs)
noncomputable def F (k:Nat) (i:Nat) (a:bB):Int:=d A k * a i - am (λl=>A i l * sol A k a l) k
theorem sC (k i:Nat) (a:bB):lap (λc=>c i) (a::R A k) (D k)=F A k i a:=by
 rw [lap,Zdt];unfold F d sol col;rw [Int.mul_comm]
theorem cramer {k r:Nat} (h:r < k) (a:bB):am (λl=>A r l * sol A k a l) k=d A k * a r:=by
 have:=sC A k r a;rw [ZfO h] at this;unfold F at this;omega
theorem o7 (k:Nat):d A (k+1)=F A k k (col A k):=by
 rw [<- sC]
 rfl
theorem o6:d A 0=1:=rfl
theorem sole:∀ {k:Nat},(∀ j,j<=k->d A j≠0)->∀ {z:Nat->Int},(∀ r,r < k->am (λl=>A r l * z l) k=0)->∀ l,l < k->z l=0
 | 0,_,z,_,l,hl=>by cases hl
 | k+1,hd,z,hz,l,hl=>by
  have ih:∀ z:Nat->Int,(∀ r,r < k->am (λl=>A r l * z l) k=0)->∀ l,l < k->z l=0:=λz=>sole (k:=k) (λj hj=>hd j (by omega)) (z:=z)
  have dk:=hd k (by omega)
  have dk1:=hd (k+1) (by omega)
  -- d k times z,beside what the last of z asks of the first k
  have key:∀ l,l < k->1 * (d A k * z l - (-z k) * sol A k (col A k) l)=0:=by
   intro l hl;have:=ih (λl=>d A k * z l - (-z k) * sol A k (col A k) l) (λr hr=>by
    rw [gA,cramer A hr];have h1:=hz r (by omega)
    rw [am] at h1;have e:am (λl=>A r l * z l) k=-(A r k * z k):=by omega
    rw [e];show d A k * -(A r k * z k) - -z k * (d A k * A r k)=0
    grind) l hl
   simpa using this
  have hk:z k=0:=by
   have h1:=hz k (by omega)
   rw [am] at h1;have e1:am (λl=>A k l * (d A k * z l - (-z k) * sol A k (col A k) l)) k=0:=kY λl hl=>by
    have:=key l hl;rw [xY] at this;rw [this,xf]
   rw [gA] at e1;have e2:=o7 A k;unfold F at e2;have e3:am (λl=>A k l * z l) k=-(A k k * z k):=by omega
   rw [e3] at e1;have e4:col A k k=A k k:=rfl;rw [e4] at e2;generalize am (λl=>A k l * sol A k (col A k) l) k=S at *;have e5:z k * d A (k+1)=0:=by
    rw [e2]
    grind
   rcases x6.mp e5 with q | q
   ·exact q
   ·exact absurd q dk1
  by_cases hlk:l=k
  ·rw [hlk]; exact hk
  ·have:=key l (by omega)
   rw [hk] at this;have e:d A k * z l=0:=by
    rw [xY] at this;simpa using this
   rcases x6.mp e with q | q
   ·exact absurd q dk
   ·exact q
end Bar
namespace Bar
variable (A:Nat->Nat->Int)
theorem step {k:Nat} (hd:∀ j,j<=k+1->d A j≠0) (a:bB):sol A (k+1) a k=F A k k a/\∀ l,l < k->d A k * sol A (k+1) a l=d A (k+1) * sol A k a l - F A k k a * sol A k (col A k) l:=by
 have dk:=hd k (by omega)
 have e0:=o7 A k;have eF:F A k k a=d A k * a k - am (λl=>A k l * sol A k a l) k:=rfl;have eC:F A k k (col A k)=d A k * A k k - am (λl=>A k l * sol A k (col A k) l) k:=rfl;rw [eC] at e0;have low:∀ r,r < k+1->am (λl=>A r l * (d A k * sol A (k+1) a l - 1 * (d A (k+1) * sol A k a l - F A k k a * sol A k (col A k) l))) k+A r k * (d A k * sol A (k+1) a k - d A k * F A k k a)=0:=by
  intro r hr;rw [gA,gA];have c1:=cramer A hr a;rw [am] at c1;have c1':am (λl=>A r l * sol A (k+1) a l) k=d A (k+1) * a r - A r k * sol A (k+1) a k:=by omega
  rw [c1'];by_cases hk:r=k
  ·subst hk;have q1:am (λl=>A r l * sol A r a l) r=d A r * a r - F A r r a:=by omega
   have q2:am (λl=>A r l * sol A r (col A r) l) r=d A r * A r r - d A (r+1):=by omega
   rw [q1,q2]
   grind
  ·have q1:=cramer A (show r < k by omega) a
   have q2:=cramer A (show r < k by omega) (col A k)
   have q2':col A k r=A r k:=rfl;rw [q2'] at q2;rw [q1,q2]
   grind
 have z:=sole A hd (z:=λl=>if l=k then d A k * sol A (k+1) a k - d A k * F A k k a else d A k * sol A (k+1) a l - 1 * (d A (k+1) * sol A k a l - F A k k a * sol A k (col A k) l)) (λr hr=>by
  rw [am,if_pos rfl];rw [jR (g:=λl=>A r l * (d A k * sol A (k+1) a l - 1 * (d A (k+1) * sol A k a l - F A k k a * sol A k (col A k) l))) λl hl=>by rw [if_neg (by omega)]]
  exact low r hr)
 constructor
 ·have:=z k (by omega)
  rw [if_pos rfl] at this;have e:d A k * (sol A (k+1) a k - F A k k a)=0:=by rw [Int.mul_sub]; exact this
  rcases x6.mp e with q | q
  ·exact absurd q dk
  ·omega
 ·intro l hl;have:=z l (by omega)
  rw [if_neg (by omega)] at this
  omega
noncomputable def M (k i:Nat) (a:bB):Int:=if i < k then sol A k a i else F A k i a
theorem ZqY (i:Nat) (a:bB):M A 0 i a=a i:=by
 unfold M F;rw [if_neg (by omega),o6,am]
 omega
theorem uH (k:Nat):M A k k (col A k)=d A (k+1):=by
 unfold M;rw [if_neg (by omega),o7]
theorem Zq0 {k:Nat} (hd:∀ j,j<=k+1->d A j≠0) (a:bB):M A (k+1) k a=M A k k a:=by
 unfold M;rw [if_pos (by omega),if_neg (by omega)]
 exact (step A hd a).1
theorem ZqZ {k:Nat} (hd:∀ j,j<=k+1->d A j≠0) (a:bB) {i:Nat} (hi:i≠k):d A k * M A (k+1) i a=M A k k (col A k) * M A k i a - M A k i (col A k) * M A k k a:=by
 obtain ⟨s1,s2⟩:=step A hd a;rw [uH];unfold M;by_cases h:i < k
 ·rw [if_pos (by omega),if_pos h,if_pos h,if_neg (by omega),s2 i h,Int.mul_comm (sol A k (col A k) i)]
 ·rw [if_neg (by omega),if_neg h,if_neg h,if_neg (by omega)]
  have e1:F A (k+1) i a=d A (k+1) * a i - (am (λl=>A i l * sol A (k+1) a l) k+A i k * sol A (k+1) a k):=rfl;have e2:F A k i a=d A k * a i - am (λl=>A i l * sol A k a l) k:=rfl;have e3:F A k i (col A k)=d A k * A i k - am (λl=>A i l * sol A k (col A k) l) k:=rfl;have e4:d A k * am (λl=>A i l * sol A (k+1) a l) k=d A (k+1) * am (λl=>A i l * sol A k a l) k - F A k k a * am (λl=>A i l * sol A k (col A k) l) k:=by
   have q1:=gA (λl=>A i l) (sol A (k+1) a) (λ_=>0) (d A k) 0 k;have q2:=gA (λl=>A i l) (sol A k a) (sol A k (col A k)) (d A (k+1)) (F A k k a) k;rw [<- q2];have q3:d A k * am (λl=>A i l * sol A (k+1) a l) k=am (λl=>A i l * (d A k * sol A (k+1) a l - 0 * 0)) k:=by rw [q1]; omega
   rw [q3];refine jR λl hl=>?_;rw [<- s2 l hl];simp
  rw [e1,e2,e3,s1];generalize am (λl=>A i l * sol A (k+1) a l) k=S1 at *;generalize am (λl=>A i l * sol A k a l) k=S2 at *;generalize am (λl=>A i l * sol A k (col A k) l) k=S3 at *;have e5:d A k * (d A (k+1) * a i - (S1+A i k * F A k k a))=d A k * d A (k+1) * a i - d A k * S1 - d A k * (A i k * F A k k a):=by grind
  rw [e5,e4]
  grind
theorem Zq1 {n r:Nat} (h:r < n) (a:bB):am (λl=>A r l * M A n l a) n=d A n * a r:=by
 rw [<- cramer A h a];refine jR λl hl=>?_;unfold M;rw [if_pos hl]
end Bar
namespace Bar
variable (A:Nat->Nat->Int)
noncomputable def unit (k:Nat):bB:=λr=>if r=k then 1 else 0
theorem Zq3 {k:Nat} (hd:∀ j,j<=k->d A j≠0):F A k k (unit k)=d A k:=by
 have z:=sole A hd (z:=sol A k (unit k)) (λr hr=>by
  rw [cramer A hr];unfold unit;rw [if_neg (by omega),xf])
 unfold F;rw [kY λl hl=>by rw [z l hl,xf]]
 unfold unit;rw [if_pos rfl];omega
theorem Zg9 (k:Nat):sol A (k+1) (unit k) k=F A k k (unit k):=by
 unfold sol;rw [dM,if_pos rfl];exact sC A k k (unit k)
theorem qt {p v:Nat->Int} {V:Int} (hV:0<=V) (v0:v 0=0):∀ {m:Nat},(∀ l,l < m+1->0<=p l)->(∀ l,l < m+1->v l<=V)->am (λl=>p l * v l) (m+1)<=(am p (m+1) - p 0) * V
 | 0,hp,hv=>by
  show 0+p 0 * v 0<=(0+p 0 - p 0) * V;rw [v0];simp
 | m+1,hp,hv=>by
  have ih:=qt (p:=p) (v:=v) hV v0 (m:=m) (λl hl=>hp l (by omega)) λl hl=>hv l (by omega)
  have h1:=wp (hv (m+1) (by omega)) (hp (m+1) (by omega))
  have e1:am (λl=>p l * v l) (m+1+1)=am (λl=>p l * v l) (m+1)+p (m+1) * v (m+1):=rfl;have e2:am p (m+1+1)=am p (m+1)+p (m+1):=rfl;have e3:(am p (m+1)+p (m+1) - p 0) * V=(am p (m+1) - p 0) * V+p (m+1) * V:=by grind
  rw [e1,e2,e3];omega
theorem ZaP (f:Nat->Int):∀ n:Nat,am (λl=>-f l) n=-am f n
 | 0=>rfl
 | n+1=>by rw [am,am,ZaP f n]; omega
theorem qu {p:Nat->Int}:∀ {m n:Nat},m<=n->(∀ l,l < n->0<=p l)->am p m<=am p n
 | m,0,h,_=>by
  have:m=0:=by omega
  subst this;exact vz _
 | m,n+1,h,hp=>by
  by_cases e:m=n+1
  ·subst e; exact vz _
  ·have:=qu (p:=p) (m:=m) (n:=n) (by omega) λl hl=>hp l (by omega)
   have:=hp n (by omega)
   rw [am];omega
theorem argmax (v:Nat->Int):∀ k:Nat,∃ i,i<=k/\∀ l,l<=k->v l<=v i
 | 0=>⟨0,uQ _,λl hl=>by
  have e:l=0:=by omega
  rw [e];exact vz _⟩
 | k+1=>by
  obtain ⟨i,hi,h⟩:=argmax v k;by_cases hc:v i<=v (k+1)
  ·refine ⟨k+1,by omega,λl hl=>?_⟩
   by_cases e:l=k+1
   ·subst e; exact vz _
   ·have:=h l (by omega)
    omega
  ·refine ⟨i,by omega,λl hl=>?_⟩
   by_cases e:l=k+1
   ·subst e; omega
   ·exact h l (by omega)
structure Pol (n:Nat) (A P:Nat->Nat->Int) (W:Int):Prop where
 W0:0 < W
 a0:∀ i,i < n->A i 0=W
 a:∀ i j,i < n->1<=j->j < n->A i j=(if i=j then W else 0) - P i j
 p:∀ i j,i < n->j < n->0<=P i j
 p0:∀ i,i < n->0 < P i 0
 s:∀ i,i < n->am (P i) n=W
variable {A} {P:Nat->Nat->Int} {W:Int} {n:Nat}
theorem fw (h:Pol n A P W) (z:Nat->Int) {i:Nat} (hi:i < n):∀ {m:Nat},m+1<=n->am (λl=>A i l * z l) (m+1)=W * z 0+(if 1<=i/\i<=m then W * z i else 0) - am (λl=>P i l * (if l=0 then 0 else z l)) (m+1)
 | 0,hm=>by
  show 0+A i 0 * z 0=_;rw [if_neg (by omega),h.a0 i hi]
  show _=W * z 0+0 - (0+P i 0 * (if 0=0 then 0 else z 0))
  rw [if_pos rfl];omega
 | m+1,hm=>by
  have ih:=fw h z hi (m:=m) (by omega)
  have e1:am (λl=>A i l * z l) (m+1+1)=am (λl=>A i l * z l) (m+1)+A i (m+1) * z (m+1):=rfl;have e2:am (λl=>P i l * (if l=0 then 0 else z l)) (m+1+1)=am (λl=>P i l * (if l=0 then 0 else z l)) (m+1)+P i (m+1) * (if m+1=0 then 0 else z (m+1)):=rfl
  rw [e1,e2,ih,h.a i (m+1) hi (by omega) (by omega),if_neg (show ¬ m+1=0 by omega)]
  by_cases e:i=m+1
  ·subst e;rw [if_pos rfl,if_neg (by omega),if_pos (by omega)]
   grind
  ·rw [if_neg e];by_cases e2:1<=i/\i<=m
   ·rw [if_pos e2,if_pos (by omega)]
    grind
   ·rw [if_neg e2,if_neg (by omega)]
    grind
theorem sign (h:Pol n A P W) {k:Nat} (hk:1<=k) (hn:k+1<=n) {z:Nat->Int} {c:Int} (hz:∀ r,r < k+1->am (λl=>A r l * z l) (k+1)=if r=k then c else 0) (zk:0 < z k):0 < c:=by
 apply yi.mp;intro hc;have W0:=h.W0
 -- worths: nought at the lowest
 have hv:∀ r,r < k+1->W * z 0+W * (if r=0 then 0 else z r) - am (λl=>P r l * (if l=0 then 0 else z l)) (k+1)=if r=k then c else 0:=λr hr=>by
  have:=hz r hr;rw [fw h z (by omega) (by omega)] at this
  rw [<- this];by_cases e:r=0
  ·rw [if_pos e,if_neg (by omega)]
   omega
  ·rw [if_neg e,if_pos (by omega)]
 generalize hvd:(λl=>if l=0 then 0 else z l)=v at *
 have v0:v 0=0:=by rw [<- hvd]; rfl
 have vk:v k=z k:=by rw [<- hvd]; show (if k=0 then 0 else z k)=z k; rw [if_neg (by omega)]
 have hv':∀ r,r < k+1->W * z 0+W * v r - am (λl=>P r l * v l) (k+1)=if r=k then c else 0:=λr hr=>by
  have:=hv r hr;rw [<- hvd];exact this
 clear hv;have hs:∀ i,i < n->am (P i) (k+1)<=W:=λi hi=>by
  rw [<- h.s i hi];exact qu (by omega) λl hl=>h.p i l hi hl
 have up:∀ (u:Nat->Int) (V:Int) (i:Nat),0 < V->u 0=0->i < n->(∀ l,l < k+1->u l<=V)->am (λl=>P i l * u l) (k+1)<=(W - P i 0) * V:=λu V i hV u0 hi hu=>by
  have a1:=qt (p:=P i) (v:=u) (vL hV) u0 (m:=k) (λl hl=>h.p i l hi (by omega)) hu
  have a2:=Int.mul_le_mul_of_nonneg_right (show am (P i) (k+1) - P i 0<=W - P i 0 by have:=hs i hi; omega) (vL hV)
  omega
 obtain ⟨i,hi,hmax⟩:=argmax v k;have vpos:0 < v i:=by have:=hmax k (uQ _); omega
 -- the greatest worth: the mean is below nought
 have m0:z 0 < 0:=by
  have r1:=hv' i (by omega)
  have r2:=up v (v i) i vpos v0 (by omega) (λl hl=>hmax l (by omega))
  have r3:=wZ (h.p0 i (by omega)) vpos
  have e:(W - P i 0) * v i=W * v i - P i 0 * v i:=by grind
  have r4:W * z 0 < 0:=by
   have:(if i=k then c else 0)<=0:=by split <;> omega
   omega
  apply yi.mp;intro q;have:=v6 (vL W0) q;omega
 -- the least worth: it is above nought
 obtain ⟨j,hj,hmin⟩:=argmax (λl=>-v l) k;have r0:=hv' 0 (by omega)
 rw [v0,if_neg (by omega)] at r0
 have Wm:W * z 0 < 0:=by
  have:=wp (show z 0<=-1 by omega) (vL W0)
  omega
 have jneg:v j < 0:=by
  apply yi.mp;intro q;have all0:∀ l,l<=k->0<=v l:=λl hl=>by
   have:-v l<=-v j:=hmin l hl;omega
  have:0<=am (λl=>P 0 l * v l) (k+1):=by
   have:=qu (p:=λl=>P 0 l * v l) (m:=0) (n:=k+1) (by omega) λl hl=>v6 (h.p 0 l (by omega) (by omega)) (all0 l (by omega))
   exact this
  omega
 have jk:j≠k:=λe=>by rw [e,vk] at jneg; omega
 have r1:=hv' j (by omega)
 rw [if_neg jk] at r1;have r2:=up (λl=>-v l) (-v j) j (by omega) (by show -v 0=0; rw [v0]; rfl) (by omega) (λl hl=>hmin l (by omega))
 have e1:am (λl=>P j l * -v l) (k+1)=-am (λl=>P j l * v l) (k+1):=by
  rw [<- ZaP];refine jR λl _=>?_
  grind
 rw [e1] at r2;have r3:=wZ (h.p0 j (by omega)) (show 0 < -v j by omega)
 have e2:(W - P j 0) * -v j=-(W * v j) - P j 0 * -v j:=by grind
 omega
theorem leads (h:Pol n A P W):∀ k,k<=n->0 < d A k
 | 0,_=>by rw [o6]; decide
 | k+1,hk=>by
  have ih:∀ j,j<=k->0 < d A j:=λj hj=>leads h j (by omega)
  by_cases k0:k=0
  ·subst k0;have:d A 1=A 0 0:=by
    rw [o7];unfold F;rw [o6,am];show 1 * A 0 0 - 0=A 0 0;omega
   rw [this,h.a0 0 (by omega)]
   exact h.W0
  ·refine sign h (k:=k) (by omega) hk (z:=sol A (k+1) (unit k)) (c:=d A (k+1)) (λr hr=>?_) ?_
   ·rw [cramer A hr];unfold unit
    split
    ·omega
    ·omega
   ·rw [Zg9,Zq3 A λj hj=>by have:=ih j hj; omega]
    exact ih k (uQ _)
termination_by k=>k
end Bar
namespace Bar
variable {A P:Nat->Nat->Int} {W:Int} {n:Nat}
theorem improve (h:Pol n A P W) (hn:1<=n) {y:Nat->Int} {s:Nat->Int} (hs:∀ r,r < n->0<=s r) (hy:∀ r,r < n->am (λl=>A r l * y l) n=-s r) :
  y 0 < 0\/(y 0=0/\∀ r,1<=r->r < n->y r<=0):=by
 obtain ⟨k,rfl⟩:∃ k,n=k+1:=⟨n - 1,by omega⟩
 have W0:=h.W0;have hv:∀ r,r < k+1->W * y 0+W * (if r=0 then 0 else y r) - am (λl=>P r l * (if l=0 then 0 else y l)) (k+1)=-s r:=λr hr=>by
  have:=hy r hr;rw [fw h y hr (by omega)] at this
  rw [<- this];by_cases e:r=0
  ·rw [if_pos e,if_neg (by omega)]
   omega
  ·rw [if_neg e,if_pos (by omega)]
 generalize hvd:(λl=>if l=0 then 0 else y l)=v at *
 have v0:v 0=0:=by rw [<- hvd]; rfl
 have vr:∀ r,1<=r->v r=y r:=λr hr=>by rw [<- hvd]; show (if r=0 then 0 else y r)=y r; rw [if_neg (by omega)]
 have hv':∀ r,r < k+1->W * y 0+W * v r - am (λl=>P r l * v l) (k+1)=-s r:=λr hr=>by
  have:=hv r hr;rw [<- hvd];exact this
 clear hv;have up:∀ (V:Int) (i:Nat),0<=V->i < k+1->(∀ l,l < k+1->v l<=V)->am (λl=>P i l * v l) (k+1)<=(W - P i 0) * V:=λV i hV hi hu=>by
  have a1:=qt (p:=P i) (v:=v) hV v0 (m:=k) (λl hl=>h.p i l hi (by omega)) hu
  rw [h.s i hi] at a1;exact a1
 obtain ⟨i,hi,hmax⟩:=argmax v k;have vi:0<=v i:=by have:=hmax 0 (by omega); omega
 have r1:=hv' i (by omega)
 have r2:=up (v i) i vi (by omega) (λl hl=>hmax l (by omega))
 have e:(W - P i 0) * v i=W * v i - P i 0 * v i:=by grind
 have si:=hs i (by omega)
 by_cases hp:0 < v i
 ·left
  have r3:=wZ (h.p0 i (by omega)) hp
  apply yi.mp;intro q;have:=v6 (vL W0) q;omega
 ·have v00:v i=0:=by omega
  have all0:∀ r,r < k+1->v r<=0:=λr hr=>by have:=hmax r (by omega); omega
  have q1:=hv' 0 (by omega)
  have q2:=up 0 0 (vz _) (by omega) all0
  have s0:=hs 0 (by omega)
  rw [v0] at q1;have Wy:W * y 0<=0:=by omega
  by_cases hy0:y 0 < 0
  ·exact .inl hy0
  ·right
   have:y 0=0:=by
    apply Int.le_antisymm
    ·apply Int.not_lt.mp;intro q;have:=wZ W0 q;omega
    ·omega
   exact ⟨this,λr r1 r2=>by have:=all0 r r2; rw [vr r r1] at this; exact this⟩
def Bet (n:Nat) (z:Nat->Int) (D:Int) (z':Nat->Int) (D':Int):Prop:=D * z' 0 < D' * z 0\/(D * z' 0=D' * z 0/\(∀ r,r < n->D * z' r<=D' * z r)/\∃ r,r < n/\D * z' r < D' * z r)
theorem Zc7 {a b c A B C:Int} (hA:0 < A) (hB:0 < B) (hC:0 < C) (h1:A * b<=B * a) (h2:B * c<=C * b):A * c<=C * a/\((A * b < B * a\/B * c < C * b)->A * c < C * a):=by
 -- B (A c)<=A C b<=C B a
 have e1:=wp h2 (vL hA);have e2:=wp h1 (vL hC);have q1:A * (B * c)=B * (A * c):=by grind
 have q2:A * (C * b)=C * (A * b):=by grind
 have q3:C * (B * a)=B * (C * a):=by grind
 refine ⟨Int.le_of_mul_le_mul_left (show B * (A * c)<=B * (C * a) by omega) hB,λh=>?_⟩
 have hlt:B * (A * c) < B * (C * a):=by
  rcases h with h | h
  ·have:=wC h hC;omega
  ·have:=wC h hA;omega
 exact xi hlt (vL hB)
theorem Bet.trans {z z' z'':Nat->Int} {D D' D'':Int} (hD:0 < D) (hD':0 < D') (hD'':0 < D'') (h1:Bet n z D z' D') (h2:Bet n z' D' z'' D''):Bet n z D z'' D'':=by
 have t:=λr=>Zc7 (a:=z r) (b:=z' r) (c:=z'' r) hD hD' hD'';rcases h1 with a | ⟨a1,a2,r,hr,a3⟩
 ·rcases h2 with b | ⟨b1,b2,_⟩
  ·exact .inl ((t 0 (vL a) (vL b)).2 (.inl a))
  ·exact .inl ((t 0 (vL a) (xg b1)).2 (.inl a))
 ·rcases h2 with b | ⟨b1,b2,_⟩
  ·exact .inl ((t 0 (xg a1) (vL b)).2 (.inr b))
  ·right
   refine ⟨?_,λq hq=>(t q (a2 q hq) (b2 q hq)).1,r,hr,(t r (a2 r hr) (b2 r hr)).2 (.inl a3)⟩;have u1:=(t 0 (xg a1) (xg b1)).1;have u2:=(Zc7 (a:=z'' 0) (b:=z' 0) (c:=z 0) hD'' hD' hD (xg b1.symm) (xg a1.symm)).1;omega
theorem Bet.irrefl {z:Nat->Int} {D:Int} (h:Bet n z D z D):False:=by
 rcases h with a | ⟨_,_,r,_,a⟩ <;> omega
theorem better (h:Pol n A P W) (hn:1<=n) {z z':Nat->Int} {D D':Int} (hD:0 < D) (hD':0 < D') {b:Nat->Int} (hz':∀ r,r < n->am (λl=>A r l * z' l) n=D' * b r) {s:Nat->Int} (hs:∀ r,r < n->0<=s r) (hz:∀ r,r < n->am (λl=>A r l * z l) n=D * b r+s r) (hsome:∃ r,r < n/\0 < s r):Bet n z D z' D':=by
 have hy:∀ r,r < n->am (λl=>A r l * (D * z' l - D' * z l)) n=-(D' * s r):=λr hr=>by
  rw [gA,hz' r hr,hz r hr]
  grind
 have key:=improve h hn (y:=λl=>D * z' l - D' * z l) (s:=λr=>D' * s r) (λr hr=>v6 (vL hD') (hs r hr)) hy;rcases key with k | ⟨k0,k1⟩
 ·left
  have k':D * z' 0 - D' * z 0 < 0:=k;omega
 ·have k0':D * z' 0 - D' * z 0=0:=k0;have all0:∀ r,r < n->D * z' r<=D' * z r:=λr hr=>by
   by_cases e:r=0
   ·subst e; omega
   ·have k1':D * z' r - D' * z r<=0:=k1 r (by omega) hr
    omega
  refine .inr ⟨by omega,all0,?_⟩
  apply xj;intro hno;have zero:∀ r,r < n->D * z' r - D' * z r=0:=λr hr=>by
   have a:=all0 r hr;have:¬ D * z' r < D' * z r:=λq=>hno ⟨r,hr,q⟩;omega
  obtain ⟨r,hr,sr⟩:=hsome;have e:=hy r hr;rw [kY λl hl=>by rw [zero l hl,xf]] at e
  have:=wZ hD' sr;omega
end Bar
namespace Bar
open Tw
theorem ke (k:Nat):nb k 0:=by show (0:Int).natAbs < 2 ^ k; exact Nat.pow_pos (by decide)
theorem Zds {Q:bB->Prop} {f:bB->Int} {b B m:Nat} (hf:∀ c,Q c->nb b (f c)):∀ (cs:List bB) (g:List bB->Int),(∀ c∈cs,Q c)->(∀ q:List bB,(∀ c∈q,Q c)->q.length+1<=cs.length->nb B (g q))->nb (b+B+cs.length) (lap f cs g)
 | [],g,_,_=>ke _
 | c::cs,g,hq,hg=>by
  have h1:=cx (hf c (hq c (by simp))) (hg cs (λx hx=>hq x (uP _ hx)) (by simp))
  have h2:=Zds (m:=m) hf cs (λr=>g (c::r)) (λx hx=>hq x (uP _ hx)) λq q1 q2=>hg (c::q) (λx hx=>by
   rcases uV.mp hx with rfl | hx
   ·exact hq _ (by simp)
   ·exact q1 x hx) (by simp; omega)
  rw [lap,uZ];exact bn (fy h1 h2) (by omega)
noncomputable def gU (b k:Nat):Nat:=1+k * (b+10)
theorem uL {n b:Nat}:∀ (k:Nat),k<=n->∀ cs:List bB,(∀ c∈cs,∀ r,r < n->nb b (c r))->cs.length<=10->nb (gU b k) (D k cs)
 | 0,_,cs,_,_=>by show (1:Int).natAbs < 2 ^ (1+0 * _); rw [Nat.zero_mul]; decide
 | k+1,hk,cs,hc,hl=>by
  have h:=Zds (Q:=λc=>∀ r,r < n->nb b (c r)) (f:=λc=>c k) (b:=b) (B:=gU b k) (m:=0) (λc hc=>hc k (by omega)) cs (D k) hc λq q1 q2=>uL k (by omega) q q1 (by omega)
  refine bn h ?_;unfold gU;rw [wq];omega
variable {A:Nat->Nat->Int}
theorem uD:∀ {k:Nat} {c:bB},c∈R A k->∃ l,l < k/\c=col A l
 | 0,c,h=>by cases h
 | k+1,c,h=>by
  rcases uV.mp h with rfl | h
  ·exact ⟨k,by omega,rfl⟩
  ·obtain ⟨l,h1,h2⟩:=uD h;exact ⟨l,by omega,h2⟩
theorem uE (A:Nat->Nat->Int):∀ k:Nat,(R A k).length=k
 | 0=>rfl
 | k+1=>by rw [R,uZ,uE A k]
theorem ZeM {Q:bB->Prop} {B:Nat}:∀ (k:Nat) (g:List bB->Int) (l:Nat),(∀ j,j < k->Q (col A j))->(∀ q:List bB,(∀ c∈q,Q c)->q.length+1<=k->nb B (g q))->nb B (dM A k g l)
 | 0,g,l,_,_=>ke _
 | k+1,g,l,hq,hg=>by
  rw [dM]
  split
  ·exact hg _ (λc hc=>by obtain ⟨j,h1,rfl⟩:=uD hc; exact hq j (by omega)) (by rw [uE]; exact uQ _)
  ·refine kd (ZeM k _ l (λj hj=>hq j (by omega)) λq q1 q2=>hg _ (λc hc=>?_) (by rw [uZ]; omega))
   rcases uV.mp hc with rfl | hc
   ·exact hq k (by omega)
   ·exact q1 c hc
theorem ZaQ {f:Nat->Int} {b:Nat}:∀ (n:Nat),(∀ l,l < n->nb b (f l))->nb (b+n) (am f n)
 | 0,_=>ke _
 | n+1,h=>by
  rw [am];exact bn (eZ (ZaQ n λl hl=>h l (by omega)) (h n (by omega))) (by omega)
theorem tL {n b:Nat} (hn:n<=9) (hA:∀ i j,i < n->j < n->nb b (A i j)) {k:Nat} (hk:k<=n):nb (gU b 9) (d A k):=by
 have h:=uL (n:=n) (b:=b) k hk (R A k) (λc hc r hr=>by obtain ⟨j,h1,rfl⟩:=uD hc; exact hA r j hr (by omega)) (by rw [uE]; omega)
 refine bn h ?_;unfold gU;have:=wj (b+10) (show k<=9 by omega)
 omega
theorem ZfN {n b:Nat} (hn:n<=9) (hA:∀ i j,i < n->j < n->nb b (A i j)) {k i:Nat} (hk:k<=n) (hi:i < n) {a:bB} (ha:∀ r,r < n->nb b (a r)):nb (b+gU b 9+11) (M A k i a):=by
 have hs:∀ l,nb (gU b 9) (sol A k a l):=λl=>by
  unfold sol;refine ZeM (Q:=λc=>∀ r,r < n->nb b (c r)) k _ l (λj hj r hr=>hA r j hr (by omega)) λq q1 q2=>?_
  refine bn (uL (n:=n) (b:=b) k hk (a::q) (λc hc=>?_) (by rw [uZ]; omega)) ?_
  ·rcases uV.mp hc with rfl | hc
   ·exact ha
   ·exact q1 c hc
  ·unfold gU;have:=wj (b+10) (show k<=9 by omega)
   omega
 unfold M
 split
 ·exact bn (hs i) (by omega)
 ·unfold F;have h1:=cx (tL hn hA hk) (ha i hi);have h2:=ZaQ (f:=λl=>A i l * sol A k a l) (b:=b+gU b 9) k λl hl=>cx (hA i l hi (by omega)) (hs l)
  exact bn (fy h1 h2) (by omega)
end Bar
namespace Tw
open L2
end Tw
namespace Tw
open L2
noncomputable def lsr (o:Int->Bool):Nat->Int
 | 0=>0
 | n+1=>if o n=true then lsr o n else (n:Int)+1
theorem Zag {p:yp} {s:yq} {E:Int->List Sl} {o:Int->Bool} {N:Nat} (hp0:p (E 0)=.ret false) (hp:∀ j:Nat,j < N->p (E (j+1))=.ret (o j)) (hs:∀ j:Nat,j < N->s (E (j+1))=.ret (.next (E j))) :
  ∀ n k:Nat,n<=N->cN p s (n+1+k) (E n)=.ret (.next (E (lsr o n)))
 | 0,k,_=>by
  have e:0+1+k=k+1:=by omega
  rw [e,cN];show ((p (E 0)).bind _)=_;rw [hp0,Tr.ret_bind]
  rfl
 | n+1,k,h=>by
  have e:n+1+1+k=(n+1+k)+1:=by omega
  have ec:(((n+1:Nat):Int))=(n:Int)+1:=by omega
  rw [e,cN,ec,hp n (by omega),Tr.ret_bind]
  unfold lsr;cases ho:o n with
  | true =>
   rw [if_pos rfl,if_pos rfl,hs n (by omega),Tr.ret_bind]
   exact Zag hp0 hp hs n k (by omega)
  | false =>
   rw [if_neg (by simp),if_neg (by simp)]
noncomputable def rQ (g:Int->Int) (top K least k:Int):Bool:=decide (lvl g top K (least+k)=least+k)
end Tw
namespace Tw
open L2
noncomputable def kH (g:Int->Int) (K x y:Int):Int:=if x < y then K+g y else g y
end Tw
namespace L2
noncomputable def b8 (c:Addr) (at' left:Int):List (aD×V):=[(Sum.inr "cells",.ref c),(Sum.inr "at",.int at'),(Sum.inr "left",.int left)]
theorem nc1:¬ ((Sum.inr ("cells":Str):aD)=(Sum.inr ("at":Str):aD)):=by trivial
theorem nc2:¬ ((Sum.inr ("cells":Str):aD)=(Sum.inr ("left":Str):aD)):=by trivial
theorem r6:¬ ((Sum.inr ("at":Str):aD)=(Sum.inr ("left":Str):aD)):=by trivial
theorem ZiI (c:Addr) (a l:Int):dU (b8 c a l) (Sum.inr "cells":aD)=some (.ref c):=jP rfl
theorem ZcC (c:Addr) (a l:Int):dU (b8 c a l) (Sum.inr "at":aD)=some (.int a):=by
 unfold b8;rw [jQ nc1,jP rfl]
theorem ZcB (c:Addr) (a l:Int):dU (b8 c a l) (Sum.inr "left":aD)=some (.int l):=by
 unfold b8;rw [jQ nc2,jQ r6,jP rfl]
theorem ZiH (c:Addr) (a l b:Int):c8 (b8 c a l) (Sum.inr "at":aD) (.int b)=b8 c b l:=by
 have h:((b8 c a l).any λkv=>decide (kv.1=(Sum.inr "at":aD)))=true:=by rw [m8,ZcC]; rfl
 unfold c8;rw [if_pos h];unfold b8;simp only [uX,wK,if_neg nc1,if_neg (Ne.symm r6),if_true]
theorem ZiG (c:Addr) (a l b:Int):c8 (b8 c a l) (Sum.inr "left":aD) (.int b)=b8 c a b:=by
 have h:((b8 c a l).any λkv=>decide (kv.1=(Sum.inr "left":aD)))=true:=by rw [m8,ZcB]; rfl
 unfold c8;rw [if_pos h];unfold b8;simp only [uX,wK,if_neg nc2,if_neg r6,if_true]
section
variable {H:Hp} {p c:Addr} {a l b:Int}
theorem oY (h:H p=some (.dK (b8 c a l))):DGet H p (.str "cells") (some (.ref c)):=by
 have q:=DGet.k (k:=(Sum.inr "cells":aD)) h;rw [ZiI] at q;exact q
theorem Zoj (h:H p=some (.dK (b8 c a l))):DGet H p (.str "at") (some (.int a)):=by
 have q:=DGet.k (k:=(Sum.inr "at":aD)) h;rw [ZcC] at q;exact q
theorem tJ (h:H p=some (.dK (b8 c a l))):DGet H p (.str "left") (some (.int l)):=by
 have q:=DGet.k (k:=(Sum.inr "left":aD)) h;rw [ZcB] at q;exact q
theorem Zoh (h:H p=some (.dK (b8 c a l))):DPut H p (.str "at") (.int b) (upd H p (.dK (b8 c b l))):=by
 have q:=DPut.k (k:=(Sum.inr "at":aD)) (v:=V.int b) h (by show 3 < sizeLine; decide)
 rw [ZiH] at q;exact q
theorem Zeq (h:H p=some (.dK (b8 c a l))):DPut H p (.str "left") (.int b) (upd H p (.dK (b8 c a b))):=by
 have q:=DPut.k (k:=(Sum.inr "left":aD)) (v:=V.int b) h (by show 3 < sizeLine; decide)
 rw [ZiG] at q;exact q
end
structure Pen6 (K:ym) (H:Hp) (p c:Addr) (ns:yy) (m:Nat):Prop where
 ex:∃ (k:Nat) (left:Int),H p=some (.dK (b8 c k left))/\k<=m/\0<=left
 cells:SqL K H c (ns.map V.int)
 len:ns.length<=63
def ZaW (K:ym):Sp:=λvs H Q _=>∃ (p c:Addr) (ns:yy) (m:Nat) (most:Int),vs=[.ref p,.int most]/\Pen6 K H p c ns m/\m<=500000/\0 < most/\most < 1073741824 /\
 ∀ (r:Int) (H':Hp),0<=r->r < most->Pen6 K H' p c ns (m+1)->Kept p H H'->Q (.int r) H'
def Zg7 (K:ym):Sp:=λvs H Q _=>∃ (a:Addr) (ns:yy),vs=[.ref a]/\SqL K H a (ns.map V.int)/\ns.length<=63 /\
 ∀ (p:Addr) (H':Hp),H p=none->(∃ c,Pen6 K H' p c ns 0)->Same H H'->Q (.ref p) H'
noncomputable def ba (cn:ym×Addr×yy):Pk where
 is:=λo G m=>∃ (k:Nat) (left:Int),o=.dK (b8 cn.2.1 k left)/\k<=m/\0<=left/\SqL cn.1 G cn.2.1 (cn.2.2.map V.int)/\cn.2.2.length<=63
 mono:=λs ⟨k,left,e,h1,h2,h3,h4⟩=>⟨k,left,e,h1,h2,Same.seq (λb o h=>s b o h) h3,h4⟩
theorem rK {cn:ym×Addr×yy}:PkLow (ba cn):=⟨λ⟨_,_,_,_,_,h3,_⟩ _ ⟨k,left,e,h1,h2,_,h4⟩=>⟨k,left,e,h1,h2,h3,h4⟩⟩
theorem Ziq {ι:Type} {X:Cx} {e:List Stmt} {t:ι->TS} (h:∀ i,PSs X e (t i)):PSs X e (λD σ H=>∃ i,t i D σ H):=λpins s σ H D I z=>by
 obtain ⟨i,z⟩:=z;exact h i pins s σ H D I z
noncomputable def oD:yr:=λas=>match as with
 | [.pen,.d (.int most)]=>.draw most λr=>.ret (.d (.int r))
 | _=>.fail
theorem Zeo {as:yD} {m:Nat} {Z:Nat->Re->Prop} (h:(oD as).ok m Z):∃ most,as=[.pen,.d (.int most)]:=by
 unfold oD at h
 split at h
 ·exact ⟨_,rfl⟩
 ·exact h.elim
theorem Zog {P:Program} {w:World} {K:ym} {c:Addr×yy} {mg:yC} {base:Heap} {x:Str} {k:Nat} {ps:yA} (hp:ps.length=2) (C:Callee P w K mg base x k ps (ZaW K)):ACal (ba (K,c)) P w K mg base x k ps oD:=by
 refine ⟨?_,λas m Z h=>by obtain ⟨most,rfl⟩:=Zeo h; exact hp.symm⟩
 obtain ⟨f,fd,F,hm,hk,hb⟩:=C.ex;refine ⟨f,fd,F.imp λvs H Q E h=>?_,hm,hk,hb⟩;obtain ⟨hv,pa,m,G,as,wd,ar,z⟩:=h;obtain ⟨most,rfl⟩:=Zeo z;obtain ⟨h1,h2,h3,h4⟩:=z;cases ar with
 | cons a1 ar =>
  cases ar with
  | cons a2 ar =>
   cases ar;cases a1;cases a2 with
   | d d2 =>
    cases d2;obtain ⟨c,ns⟩:=c;obtain ⟨o,ho,kk,left,rfl,q1,q2,q3,q4⟩:=wd.pen
    replace q3:SqL K G c (ns.map V.int):=q3
    refine ⟨pa,c,ns,m,most,rfl,⟨⟨kk,left,ho,q1,q2⟩,Same.seq (λb o h=>wd.sub b o h) q3,q4⟩,by omega,h2,h3,λr H' r0 r1 P' K'=>?_⟩
    refine h4 r r0 r1 (.int r) G H' ⟨λ_ _ q=>q,λ_ _ q=>.inl q,λb o e n=>K' b o e n⟩ ⟨λb o e=>K' b o (wd.sub b o e) (λz=>by subst z; rw [wd.gpa] at e; cases e),wd.gpa,?_⟩ (.int r)
    obtain ⟨⟨k2,l2,e2,g1,g2⟩,_,_⟩:=P';exact ⟨_,e2,k2,l2,rfl,g1,g2,q3,q4⟩
noncomputable def PKc (P:Addr) (PK:Pk):Pk where
 is o G m:=PK.is o G m/\∃ ps,G P=some (.cod ps)
 mono:=λs h=>⟨PK.mono s h.1,let ⟨ps,e⟩:=h.2; ⟨ps,s _ _ e⟩⟩
theorem PKc.has {P:Addr} {PK:Pk}:∀ o G m,(PKc P PK).is o G m->∃ ps,G P=some (.cod ps):=λ_ _ _ h=>h.2
section
variable {Pl:Addr} {PK:Pk}
theorem Wd.uncod {pa:Addr} {m:Nat} {G H:Hp} (w:Wd (PKc Pl PK) pa m G H):Wd PK pa m G H:=⟨w.sub,w.gpa,let ⟨o,h,k⟩:=w.pen; ⟨o,h,k.1⟩⟩
theorem Wd.recod {pa:Addr} {m m':Nat} {G H G' H':Hp} (w:Wd (PKc Pl PK) pa m G H) (s:Sub G G') (w':Wd PK pa m' G' H'):Wd (PKc Pl PK) pa m' G' H' :=
 ⟨w'.sub,w'.gpa,let ⟨o,h,k⟩:=w'.pen; ⟨o,h,k,let ⟨_,_,_,ps,e⟩:=w.pen; ⟨ps,s _ _ e⟩⟩⟩
theorem Kr.cod {pa:Addr} {m m':Nat} {G H:Hp} {r:Re} {Q:VK} (w:Wd (PKc Pl PK) pa m G H) (h:Kr (PKc Pl PK) pa m' G H r Q):Kr PK pa m' G H r Q:=λv G' H' s w' d=>h v G' H' s (w.recod s.gs w') d
theorem ACal.cod {P:Program} {w:World} {K:ym} {mg:yC} {base:Heap} {x:Str} {k:Nat} {ps:yA} {f:yr} (C:ACal PK P w K mg base x k ps f):ACal (PKc Pl PK) P w K mg base x k ps f:=by
 obtain ⟨C,len⟩:=C;obtain ⟨g,fd,F,hm,hk,hb⟩:=C.ex;refine ⟨⟨g,fd,F.imp λvs H Q E h=>?_,hm,hk,hb⟩,len⟩;obtain ⟨hv,pa,m,G,as,wd,ar,z⟩:=h;exact ⟨hv,pa,m,G,as,wd.uncod,ar,Tr.ok_mono z λm' r h=>Kr.cod wd h⟩
theorem spX.cod {P:Program} {w:World} {K:ym} {mg:yC} {base:Heap} {k n:Nat} {g C:Addr} {fd:FuncData} {ps:yA} {q:yp} (F:FnOk P w K mg base (CXE P w) k g fd ps (spX PK n q C)):FnOk P w K mg base (CXE P w) k g fd ps (spX (PKc Pl PK) n q C) :=
 F.imp λvs H Q E h=>by
  obtain ⟨hv,pa,m,G,as,wd,ar,z⟩:=h;exact ⟨hv,pa,m,G,as,wd.uncod,ar,Tr.ok_mono z λm' b h=>⟨h.1,λG' H' s w'=>h.2 G' H' s (wd.recod s.gs w')⟩⟩
end
structure LamD (Nx:yA) (sc scope:Scope) (NL:yA) (ix:List Nat):Prop where
 kind:scope.kind=.function
 co:scope.isCoroutine=false
 gen:scope.isGenerator=false
 nd:NL.Nodup
 nc:∀ y∈scope.names,y.2≠.cell
 fr:∀ y∈scope.names,y.2=.free->y.1∈NL/\(sc.names.lookup y.1=some .cell\/sc.names.lookup y.1=some .free)
 all:∀ x∈NL,scope.names.lookup x=some .free
 nl:ix.map (λj=>Nx[j]?)=NL.map some
theorem LamD.sc {Nx:yA} {sc scope:Scope} {NL:yA} {ix:List Nat} (d:LamD Nx sc scope NL ix):LamSc NL scope :=
 ⟨d.kind,d.co,d.gen,d.nd,d.nc,λx h=>(d.fr (x,.free) (vx h) rfl).1,d.all⟩
theorem LamD.ln {Nx:yA} {sc scope:Scope} {NL:yA} {ix:List Nat} (d:LamD Nx sc scope NL ix):ix.length=NL.length:=by
 have:=congrArg List.length d.nl
 rwa [uO,uO] at this
theorem LamD.at' {Nx:yA} {sc scope:Scope} {NL:yA} {ix:List Nat} (d:LamD Nx sc scope NL ix) (a:Nat) (y:Str) (h:NL[a]?=some y):∃ j,ix[a]?=some j/\Nx[j]?=some y:=by
 have:=congrArg (λl=>l[a]?) d.nl;simp only [uT,h,xV] at this;cases e:ix[a]? with
 | none=>rw [e] at this; cases this
 | some j =>
  rw [e] at this;exact ⟨j,rfl,vc this⟩
theorem pB {X:Cx} {PK:Pk} {k kk n':Nat} {g c0 P C:Addr} {fd:FuncData} {ps:yA} {x:Str} {e:Expr} {scope:Scope} {p lpos pos:Pos} {NL:yA} {ix:List Nat} {i:List Sl->Tr yD} {qx:yp} {t:yn}
  (hPK:∀ o G m,PK.is o G m->∃ ps,G P=some (.cod ps)) (hfn:∀ y,X.fn y=true) (ck:CodK X.K c0 P) (bk:BltK X.base X.mg) (hc0:X.env.code=.ref c0)
  (F:FnOk X.prog X.w X.K X.mg X.base dH k g fd ps (qy X.prog X.w X.K X.mg X.base (kk+1) C)) (hr:Room k X.A) (hg:Gl X x) (hm:X.mg x=some (.ref g)) (hk:PySem.W.keepIn X.K (.ref g)=true) (hb:Binds X.K fd ps [])
  (d:LamD X.N X.env.scope scope NL ix) (hq:∀ as m Z,(qx as).ok m Z->as.length=n')
  (hT:∀ (cl:List (Str×Addr)) (q:Str) (f c:Addr) (A:Around) (outer:List Env) (s:Shared) (H:Hp) (E:XK),Room kk (A.deeper (cJ scope cl q s.heap.objs.size f (.ref c)))->PE (eh (CXE X.prog X.w) X.prog X.w X.K X.mg X.base NL scope cl q f (.ref c) A outer s H E).nox e (TAe PK t))
  (hX:∀ (cl:List (Str×Addr)) (q:Str) (f c:Addr) (A:Around) (outer:List Env) (s:Shared) (H:Hp) (E:XK),Room kk (A.deeper (cJ scope cl q s.heap.objs.size f (.ref c)))->PE (eh (CXE X.prog X.w) X.prog X.w X.K X.mg X.base NL scope cl q f (.ref c) A outer s H E) e (nj (TAa PK i) (spX PK n' qx C) E))
  (hdb:(x == ("__debug__":Str))=false:=by decide)
  (he:starEach [.Lambda dw e scope lpos] X.env=(false,eval (.Lambda dw e scope lpos) X.env)::starEach [] X.env:=by rfl) (hpl:(backTo pos (starEach [] X.env)).any (·.1)=false:=by rfl) :
  PE X (.Call (.Name x p) [.Lambda dw e scope lpos] [] pos) (TAe PK (dQ ix i qx t)) :=
 Zqc hPK hfn ck bk hc0 (λy hy hf=>(d.fr y hy hf).2) F hr hg hm hk hb d.sc d.at' d.ln hq hT hX hdb he hpl
structure LawK (K:ym) (fa c0 P:Addr) (params:Arguments) (body:List Stmt) (scope:Scope) (fd:FuncData):Prop where
 ex:∃ (oc:Value) (od:Option Addr) (kV doc pm:Value) (an:Option Addr) (ct:Value) (osl:Array (Option Value)),fd=PySem.W.fnOf "law" "law" params body scope .none kV doc pm an (.ref c0) ct/\K.lookup fa=some ⟨oc,od,.func fd,osl⟩
 cd:PySem.W.codeIn K (.ref c0) "law"=true
 ck:CodK K c0 P
def kZ (Pl:Addr) (K:ym):Sp:=λvs H Q _=>∃ (a:Addr) (ns:yy),vs=[.ref a]/\SqL K H a (ns.map V.int)/\ns.length<=63/\∃ ps,H Pl=some (.cod ps)/\∀ H',H' Pl=some (.cod ps)->Q (.bl true) H'
theorem Zki {Pl:Addr} {K:ym} {D:Ends} {p:Addr} {ns:yy} {H:Hp} {σ:St} {s:yq} {n:Nat} (P:∃ c,Pen6 K H p c ns 0) {ps:Array Value} (hT:H Pl=some (.cod ps)) (hσ:σ.length=n+2) (h1:σ[1]?=some (some (.ref p))) (hrt:∀ H',H' Pl=some (.cod ps)->D.rt (.bl true) H')
  (h:(s (.un::.pen::List.replicate n .un)).ok 0 λ_ o=>o=.ret (.d (.bool true))):∃ cn:Addr×yy,bF (PKc Pl (ba (K,cn))) s D σ H:=by
 obtain ⟨c,⟨k,l,e,hk,hl⟩,hc,hn⟩:=P;obtain ⟨G,gs,gp,gc⟩:∃ G:Hp,(∀ b o,G b=some o->H b=some o)/\G p=none/\SqL K G c (ns.map V.int):=by
  rcases hc with (hc | ⟨o,hc⟩) | hc
  ·refine ⟨λb=>if b=c then H c else none,λb o hb=>?_,?_,.inl (.inl (by simp [hc]))⟩
   ·by_cases hbc:b=c
    ·subst hbc; simpa using hb
    ·simp [hbc] at hb
   ·have:p≠c:=kc e hc (by intro z; cases z)
    exact if_neg this
  ·refine ⟨λb=>if b=c then H c else none,λb o hb=>?_,?_,.inl (.inr ⟨o,by simp [hc]⟩)⟩
   ·by_cases hbc:b=c
    ·subst hbc; simpa using hb
    ·simp [hbc] at hb
   ·have:p≠c:=kc e hc (by intro z; cases z)
    exact if_neg this
  ·exact ⟨λ_=>none,λb o hb=>(by cases hb),rfl,.inr hc⟩
 have key:∀ (i:Nat) (sl:Sl),(Sl.un::.pen::List.replicate n .un)[i]?=some sl->sl=.un\/(i=1/\sl=.pen):=λi sl hi=>by
  match i with
  | 0=>simp at hi; exact .inl hi.symm
  | 1=>simp at hi; exact .inr ⟨rfl,hi.symm⟩
  | i+2 =>
   simp [vn] at hi;exact .inl hi.2.symm
 have pne:p≠Pl:=kc e hT (by intro z; cases z)
 have gs2:∀ b o,upd G Pl (.cod ps) b=some o->H b=some o:=λb o hb=>by
  by_cases z:b=Pl
  ·subst z; rw [bq] at hb; cases hb; exact hT
  ·rw [ap z] at hb; exact gs b o hb
 have gc2:SqL K (upd G Pl (.cod ps)) c (ns.map V.int):=Same.seq (λb o hb=>by
  by_cases z:b=Pl
  ·subst z;rw [bq];have:=gs _ _ hb;rw [hT] at this;exact this
  ·rw [ap z]; exact hb) gc
 refine ⟨(c,ns),p,upd G Pl (.cod ps),H,0,_,upd G Pl (.cod ps),⟨⟨gs2,by rw [ap pne]; exact gp,?_⟩,.refl,⟨_,e⟩,λi sl hi=>?_,by simp [hσ],λi j xs ys _ hi _=>?_,λi j xs ys _ hi _=>by rcases key i _ hi with z | ⟨_,z⟩ <;> cases z⟩,Tr.ok_mono h λm o ho=>?_⟩
 ·exact ⟨_,e,⟨k,l,rfl,hk,hl,gc2,hn⟩,ps,bq⟩
 ·have hlt:i < σ.length:=by
   have:=(uR.mp hi).1;simp at this;omega
  rcases key i sl hi with rfl | ⟨rfl,rfl⟩
  ·exact ⟨σ[i],by simp [hlt],.un⟩
  ·exact ⟨_,h1,.pen⟩
 ·rcases key i _ hi with z | ⟨_,z⟩ <;> cases z
 ·subst ho;intro v G H' s' w' d;cases (show Dn G v (.bool true) from d)
  exact hrt H' (s'.hk _ _ hT (Ne.symm pne))
theorem Zkk {P:Program} {w:World} {K:ym} {mg mb:yC} {k:Nat} {fa a Pl c0:Addr} {fd:FuncData} {x:Str} {s₁:Shared} {vs:yz} {ns:yy}
  (KX:K.In s₁.heap) (hns:s₁.heap.Ns mainGlobals mg) (hb:s₁.heap.Ns builtinsNs mb) (hbb:∀ x:Str,x≠"__name__"->mb x=bootBuiltins x) (hlim:s₁.heap.NoLimit) (hdig:s₁.heap.NoDigits) (hg:s₁.gens=#[])
  (ha:s₁.heap.get? a=some { cls:=.type "list",data:=.seq vs.toArray }) (hi:IntsAre vs ns) (hl:ns.length<=sizeLine) (h63:ns.length<=63) (hr:Room k callerA)
  (tb:s₁.heap.get? Pl=some { cls:=.none,data:=.fields #[] }) (hKP:K.lookup Pl=none) (ck:CodK K c0 Pl) (hBl:BltK s₁.heap mg)
  (F:∀ base:Heap,K.In base->base.Ns mainGlobals mg->BltK base mg->FnOk P w K mg base dH k fa fd [x] (kZ Pl K)) (hbind:∀ (s:Shared) (u:Value),BindsTo s fd ⟨[u],[]⟩ [(x,u)]) :
  codeAny (model P w) callerA (.call (.ref fa) ⟨[.ref a],[]⟩) (λr s'=>r=.ok (.ret (.bool true))/\OldK s₁.heap s'.heap/\s'.os=s₁.os/\AllBare s'.gens) s₁:=by
 have rv:=Zgc hi;have lenV:=hi.length;have apl:a≠Pl:=λz=>by
  rw [z,tb] at ha;cases ha
 have core:∀ H0:Hp,Zqv H0->SqL K H0 a (ns.map V.int)->HOk P w H0 s₁.heap->(∀ b,H0 b≠none->b=a)->(H0 a≠none->K.lookup a=none) ->
   codeAny (model P w) callerA (.call (.ref fa) ⟨[.ref a],[]⟩) (λr s'=>r=.ok (.ret (.bool true))/\OldK s₁.heap s'.heap/\s'.os=s₁.os/\AllBare s'.gens) s₁:=by
  intro H0 hO hS0 hok0 hA0 hK;have h0P:H0 Pl=none:=by
   cases q:H0 Pl with
   | none=>rfl
   | some u=>exact absurd (hA0 Pl (by rw [q]; simp)).symm apl
  have hup:∀ b u,H0 b=some u->upd H0 Pl (.cod #[]) b=some u:=λb u e=>by rw [ap (bS e h0P)]; exact e
  have hS:SqL K (upd H0 Pl (.cod #[])) a (ns.map V.int):=Same.seq (λb o e=>hup b o e) hS0;have hok:HOk P w (upd H0 Pl (.cod #[])) s₁.heap:=λb u e=>by
   by_cases z:b=Pl
   ·subst z;rw [bq] at e;cases e;exact ⟨#[],tb,trivial,λpo v hv=>by cases hv⟩
   ·rw [ap z] at e;exact (hok0 b u e).stay (λ_ _ _ q=>q) (λc q=>hup c _ q) (λc xs q=>hup c _ q) λc ob u' vs q _=>hup c _ q
  have hA:∀ b,upd H0 Pl (.cod #[]) b≠none->b=a\/b=Pl:=λb h=>by
   by_cases z:b=Pl
   ·exact .inr z
   ·rw [ap z] at h;exact .inl (hA0 b h)
  generalize hH:upd H0 Pl (.cod #[])=H at *;have hPl:H Pl=some (.cod #[]):=by rw [<- hH]; exact bq
  have hb0:∀ b u,H0 b=some u->H b=some u:=hup;have base_of:∀ {b:Addr} {o:Obj},s₁.heap.get? b=some o->H b=none->(gg s₁.heap H).get? b=some o:=λe n=>ZkR e n;have noA:∀ {b:Addr} {o:Obj} {es:Array DictEntry} {ep:Nat},s₁.heap.get? b=some o->o.data=.dict es ep->H b=none:=λ{b o es ep} e d=>by
   cases q:H b with
   | none=>rfl
   | some u =>
    rcases hA b (by rw [q]; simp) with e' | e'
    ·subst e';rw [ha] at e; cases e;have d':Data.seq vs.toArray _=Data.dict es ep:=d;cases d'
    ·subst e';rw [tb] at e; cases e;have d':Data.fields #[]=Data.dict es ep:=d;cases d'
  have nsK:∀ {b:Addr} {m:yC},s₁.heap.Ns b m->(gg s₁.heap H).Ns b m:=λ{b m} hz0=>by
   obtain ⟨o,es,ep,e,d,r⟩:=hz0;exact ⟨o,es,ep,base_of e (noA e d),d,r⟩
  have hKb:K.In (gg s₁.heap H):=λb o e=>base_of (KX b o e) (by
   cases q:H b with
   | none=>rfl
   | some u =>
    rcases hA b (by rw [q]; simp) with e' | e'
    ·subst e';cases q0:H0 b with
     | none =>
      rw [<- hH,ap apl,q0] at q;cases q
     | some u0=>rw [hK (by rw [q0]; simp)] at e; cases e
    ·subst e';rw [hKP] at e; cases e)
  have hBb:BltK (gg s₁.heap H) mg:=by
   obtain ⟨bm,bo,b1,b2,b3,b4,b5,b6⟩:=hBl.ex;refine ⟨bm,bo,b1,b2,base_of b3 ?_,b4,b5,b6⟩;cases q:H bm with
   | none=>rfl
   | some u =>
    rcases hA bm (by rw [q]; simp) with e' | e'
    ·subst e';rw [ha] at b3; cases b3;cases b6
    ·subst e';rw [tb] at b3; cases b3;cases b6
  have hM:Mod K mg (gg s₁.heap H):=⟨hKb,nsK hns,⟨mb,nsK hb,hbb⟩,let ⟨mc,h1,h2⟩:=hlim; ⟨mc,nsK h1,h2⟩,let ⟨mc,h1,h2⟩:=hdig; ⟨mc,nsK h1,h2⟩⟩
  have e0:Env0 P w K mg (gg s₁.heap H) callerA [] s₁ H:=⟨rfl,hM,λb o e=>Zjr e,Nat.le_of_eq (ZkQ _ _),trivial,λb hb=>absurd (show b∈([]:List Addr) from hb) (by simp),hok,.of_eq hg⟩
  refine codeAny_mono ((F _ hKb (nsK hns) hBb).run callerA [] s₁ H ⟨[.ref a],[]⟩ [.ref a] [.ref a] (λv H'=>v=.bl true/\H' Pl=some (.cod #[])) (λ_ _ _=>False) hr e0 (hbind s₁ (.ref a)) (.cons rfl .nil) ⟨a,ns,rfl,hS,h63,#[],hPl,λH' q=>⟨rfl,q⟩⟩) λr s' h=>?_;cases r with
  | error e=>exact False.elim h
  | ok fl =>
   cases fl with
   | next=>exact False.elim h
   | brk=>exact False.elim h
   | cont=>exact False.elim h
   | ret u =>
    obtain ⟨v,H',os,bare,un,hok',r',q',hP'⟩:=h;have q':v=.bl true:=q';subst q';obtain rfl:u=Value.bool true:=r';have cases3:∀ b o,s₁.heap.get? b=some o->s'.heap.get? b=some o\/(b=Pl/\∃ more,s'.heap.get? b=some { cls:=.none,data:=.fields (#[]++more) }):=λb o e=>by
     by_cases z:b=Pl
     ·subst z;obtain ⟨more,t1,_⟩:=hok' b _ hP';exact .inr ⟨rfl,more,t1⟩
     ·left
      cases q:H b with
      | none=>exact un.keep b o e q (by intro z; exact absurd (show b∈([]:List Addr) from z) (by simp)) (by simp)
      | some u =>
       rcases hO b with z0 | ⟨ob,xs,z0⟩
       ·rw [<- hH,ap z,z0] at q; cases q
       ·have z1:=hb0 b _ z0;have z2:=un.frzs b ob _ z1;obtain ⟨e1,_⟩:=hok b _ z1;obtain ⟨e2,_⟩:=hok' b _ z2;rw [e] at e1; cases e1;exact e2
    refine ⟨rfl,⟨λb o e=>?_,λb o e=>?_⟩,os,bare⟩
    ·rcases cases3 b o e with z | ⟨rfl,more,z⟩
     ·exact .inl z
     ·rw [tb] at e;cases e;obtain ⟨oc,vs',_,_,_,_,_,_,_,e1,e2,e3,e4,_⟩:=ck.ex;exact .inr (.inl ⟨⟨c0,oc,vs',KX c0 oc e1,e2,e3,e4⟩,rfl,#[],more,rfl,z⟩)
    ·rcases cases3 b o e with z | ⟨_,more,z⟩
     ·exact ⟨_,z⟩
     ·exact ⟨_,z⟩
 cases hk:K.lookup a with
 | some o =>
  have e:=KX a o hk;rw [ha] at e;cases e;refine core (λ_=>none) (λ_=>.inl rfl) (.inr ⟨_,vs.toArray,_,hk,rfl,rfl,rfl,by rw [uW,lenV]; exact hl,by simpa using rv⟩) (λb u z=>by have z':(none:Option HO)=some u:=z; cases z') (λb z=>absurd rfl z) λz=>absurd rfl z
 | none =>
  refine core (λb=>if b=a then some (.frz { cls:=.type "list",data:=.seq vs.toArray } (.lst (ns.map V.int))) else none) (λb=>?_) (.inl (.inr ⟨{ cls:=.type "list",data:=.seq vs.toArray },if_pos rfl⟩)) (λb u z=>?_) (λb z=>?_) λ_=>hk
  ·by_cases hb:b=a
   ·exact .inr ⟨_,_,if_pos hb⟩
   ·exact .inl (if_neg hb)
  ·by_cases hb:b=a
   ·have z':=(if_pos hb).symm.trans z;cases z';subst hb;exact ⟨ha,by rw [uO]; exact hl,vs,_,rv,ha⟩
   ·have z':=(if_neg hb).symm.trans z;cases z'
  ·by_cases hb:b=a
   ·exact hb
   ·exact absurd (if_neg hb) z
theorem Zf1 {l:PySem.W.OpenLaw} {k:Nat} {q:Program} {loose:yA} {XP:yC->Heap->Prop} {d:DefRec} {K:Params->ym} {as ts:List Addr} {e:∀ P:Params,as=(K P).map (λx=>x.fst)} {x:Str}
  (hn:l.most=some 63) (hdf:d.params.defaults=[]) (hr:Room k callerA)
  (F:∀ (w:World) (mg:yC) (fa:Addr) (h:Heap),(K w.params).In h->h.Ns mainGlobals mg->mg d.name=some (.ref fa) ->
   ∃ (fd:FuncData) (Pl c0:Addr),Pl∈ts/\(K w.params).lookup Pl=none/\CodK (K w.params) c0 Pl/\(∀ (s:Shared) (u:Value),BindsTo s fd ⟨[u],[]⟩ [(x,u)]) /\
    ∀ base:Heap,(K w.params).In base->base.Ns mainGlobals mg->BltK base mg->FnOk l.prog w (K w.params) mg base dH k fa fd [x] (kZ Pl (K w.params))) :
  PySem.W.WalkO q loose XP (PySem.W.kmHook K as e ts).says l.row.toRowW d [] (λf vs=>PySem.call f vs):=by
 refine Att.attach_call hn hdf λw s₀ s₁ mg mb fa o pm cd doc a vs ns G Y ho hd hcd hmg hobj hints hlen hg=>?_;have KX:=PySem.W.km_in_of Y;obtain ⟨fd,Pl,c0,ht,hKP,ck,hb,hF⟩:=F w mg fa _ KX G.T.g hmg;exact Zkk KX G.T.g G.T.b G.T.builtins G.T.nolimit G.T.nodigits hg hobj hints (u8 hlen (by decide)) hlen hr (PySem.W.km_tabs_of Y Pl ht) hKP ck ⟨G.T.bmain⟩ hF hb
section
variable {K:ym} {mg:yC}
theorem Zkj {st:Stmt} {h:Heap} {q:Program} {w:World} {k:Nat} {x:Str} {ts:List Addr} {f fa c0 Pl:Addr} {oc:Value} {od an cd:Option Addr} {osl cs:Array (Option Value)} {kV doc pm ct:Value} {vs:Array Value} {Tx:ym->Prop} (X:K.In h) (G:h.Ns mainGlobals mg) (hmg:mg "law"=some (.ref fa))
  (a:PySem.W.nsIn K mainGlobals "law"=some (some (.ref f))) (l:K.lookup f=some ⟨oc,od,.func (PySem.W.fnOf "law" "law" (fG st) (dA st) (aG st) .none kV doc pm an (.ref c0) ct),osl⟩)
  (c:PySem.W.codeIn K (.ref c0) "law"=true)
  (e:K.lookup c0=some ⟨.type "code",cd,.fields vs,cs⟩)
  (v:∃ file tf flags tg inF text tt,vs[11]?=some (.ref Pl)/\vs.getD 18 .none=.str file tf/\vs.getD 7 .none=.int flags tg/\vs.getD 9 .none=.bool inF/\vs.getD 10 .none=.int text tt)
  (m:(ts.contains Pl)=true) (hP:K.lookup Pl=none)
  (hb:∀ (kV doc pm:Value) (an:Option Addr) (cdv ct:Value) (s:Shared) (u:Value),BindsTo s (PySem.W.fnOf "law" "law" (fG st) (dA st) (aG st) .none kV doc pm an cdv ct) ⟨[u],[]⟩ [(x,u)])
  (T:Tx K)
  (U:∀ (base:Heap) (fd:FuncData),LawK K fa c0 Pl (fG st) (dA st) (aG st) fd->BltK base mg->Tx K->FnOk q w K mg base dH k fa fd [x] (kZ Pl K)) :
  ∃ (fd:FuncData) (Pl c0:Addr),Pl∈ts/\K.lookup Pl=none/\CodK K c0 Pl/\(∀ (s:Shared) (u:Value),BindsTo s fd ⟨[u],[]⟩ [(x,u)]) /\
    ∀ base:Heap,K.In base->base.Ns mainGlobals mg->BltK base mg->FnOk q w K mg base dH k fa fd [x] (kZ Pl K):=by
 have e0:=hmg.symm.trans (vU X G a);cases e0;obtain ⟨file,tf,flags,tg,inF,text,tt,v1,v2,v3,v4,v5⟩:=v;have ne:c0≠Pl:=λz=>by
  subst z;rw [hP] at e;cases e
 have ck:CodK K c0 Pl:=⟨⟨_,vs,file,tf,flags,tg,inF,text,tt,e,rfl,rfl,v1,v2,v3,v4,v5⟩,ne⟩;have LK:LawK K f c0 Pl (fG st) (dA st) (aG st) _:=⟨⟨oc,od,kV,doc,pm,an,ct,osl,rfl,l⟩,c,ck⟩;exact ⟨_,Pl,c0,by simpa using m,hP,ck,λs u=>hb _ _ _ _ _ _ s u,λbase _ _ BK=>U base _ LK BK T⟩
end
end L2
namespace My
open L2
noncomputable def top (i:Nat):Stmt:=PySem.Challenge.pw_twomarks_k38_no_mean.main.body.getD i (.Pass ⟨0,0,0,0⟩)
noncomputable abbrev Zbp:Stmt:=top 11
abbrev ZqG:yA:=["thing"]
theorem Zhv:FnScope ZqG ["thing"] (aG Zbp):=by trivial
noncomputable abbrev Zbo:Stmt:=top 12
abbrev ZqF:yA:=["thing","lowest","highest"]
theorem Zhu:FnScope ZqF ["thing","lowest","highest"] (aG Zbo):=by trivial
noncomputable abbrev Zbg:Stmt:=top 21
abbrev Zqx:yA:=["shop"]
theorem Zhp:FnScope Zqx ["shop"] (aG Zbg):=by trivial
noncomputable abbrev Zbr:Stmt:=top 22
abbrev ZqI:yA:=["shop","stock","thing"]
theorem Zhw:FnScope ZqI ["shop","stock","thing"] (aG Zbr):=by trivial
noncomputable abbrev qU:Stmt:=top 23
abbrev mP:yA:=["day"]
theorem Zhx:FnScope mP ["day"] (aG qU):=by trivial
noncomputable abbrev Zbj:Stmt:=top 24
abbrev ZqA:yA:=["shop","stock","level"]
theorem Zhr:FnScope ZqA ["shop","stock","level"] (aG Zbj):=by trivial
noncomputable abbrev Zbk:Stmt:=top 25
abbrev ZqB:yA:=["shop","level","fall"]
theorem Zhs:FnScope ZqB ["shop","level","fall"] (aG Zbk):=by trivial
noncomputable abbrev Zbv:Stmt:=top 26
abbrev ZqM:yA:=["shop","level","fall","stock","sold_never","held"]
theorem nr:FnScope ZqM ["shop","level","fall"] (aG Zbv):=by trivial
noncomputable abbrev Zbx:Stmt:=top 28
abbrev ZqO:yA:=["one","other"]
theorem qL:FnScope ZqO ["one","other"] (aG Zbx):=by trivial
noncomputable abbrev Zbq:Stmt:=top 29
abbrev ZqH:yA:=["thing","top","bottom"]
theorem qJ:FnScope ZqH ["thing"] (aG Zbq):=by trivial
noncomputable abbrev Zbh:Stmt:=top 30
abbrev Zqy:yA:=["top","bottom","divisor"]
theorem qH:FnScope Zqy ["top","bottom"] (aG Zbh):=by trivial
noncomputable abbrev Zbi:Stmt:=top 31
abbrev Zqz:yA:=["one","other"]
theorem Zhq:FnScope Zqz ["one","other"] (aG Zbi):=by trivial
noncomputable abbrev qT:Stmt:=top 33
abbrev mO:yA:=["shop","thing","own"]
theorem Zbb:FnScope mO ["shop","thing"] (aG qT):=by trivial
noncomputable abbrev Zbf:Stmt:=top 34
abbrev Zqw:yA:=["shop","day","level","ahead","scale","total","fall","weight","following"]
theorem jT:FnScope Zqw ["shop","day","level","ahead","scale"] (aG Zbf):=by trivial
noncomputable abbrev Zbw:Stmt:=top 35
abbrev ZqN:yA:=["shop","day","levels","ahead","scale","own_scale","costs","stock","level"]
theorem lf:FnScope ZqN ["shop","day","levels","ahead","scale"] (aG Zbw):=by trivial
noncomputable abbrev qQ:Stmt:=top 37
abbrev pW:yA:=["shop","day","ahead","scale","own_scale"]
theorem Zba:FnScope pW ["shop","day","ahead","scale"] (aG qQ):=by trivial
noncomputable abbrev Zby:Stmt:=top 38
abbrev ZqP:yA:=["shop","low","by_level","scale","picks","best","stock","own","cost","level"]
theorem ie:FnScope ZqP ["shop","low","by_level","scale"] (aG Zby):=by trivial
noncomputable abbrev Zbz:Stmt:=top 39
abbrev ZqQ:yA:=["shop","by_level","scale"]
theorem Zhy:FnScope ZqQ ["shop","by_level","scale"] (aG Zbz):=by trivial
noncomputable abbrev Zbt:Stmt:=top 41
abbrev ZqK:yA:=["shop","by_level","scale","stock","level","at","cost"]
theorem qK:FnScope ZqK ["shop","by_level","scale","stock","level"] (aG Zbt):=by trivial
noncomputable abbrev Zbm:Stmt:=top 42
abbrev ZqD:yA:=["shop","by_level","scale","least","picks","lesser","greater","stock"]
theorem jV:FnScope ZqD ["shop","by_level","scale","least"] (aG Zbm):=by trivial
noncomputable abbrev ZbA:Stmt:=top 44
abbrev ZqR:yA:=["shop","one"]
theorem Zbc:FnScope ZqR ["shop","one"] (aG ZbA):=by trivial
noncomputable abbrev Zbu:Stmt:=top 45
abbrev ZqL:yA:=["shop","one","stock","level","row","fall","weight","nothing_ahead","cost"]
theorem jX:FnScope ZqL ["shop","one","stock","level"] (aG Zbu):=by trivial
noncomputable abbrev nv:Stmt:=top 46
abbrev iN:yA:=["rows","before","k","leading","lead","at","many"]
theorem h9:FnScope iN ["rows"] (aG nv):=by trivial
noncomputable abbrev qP:Stmt:=top 47
abbrev mM:yA:=["shop","one","levels","found","scale"]
theorem qI:FnScope mM ["shop","one","levels"] (aG qP):=by trivial
noncomputable abbrev qV:Stmt:=top 48
abbrev mQ:yA:=["shop","one","levels","mean","worths","scale","picks","better"]
theorem ig:FnScope mQ ["shop","one"] (aG qV):=by trivial
noncomputable abbrev qR:Stmt:=top 49
abbrev pX:yA:=["shop","one","mean","worths","scale","levels"]
theorem jW:FnScope pX ["shop","one"] (aG qR):=by trivial
noncomputable abbrev Zbl:Stmt:=top 50
abbrev ZqC:yA:=["shop","one","levels","mean","worths","scale"]
theorem lc:FnScope ZqC ["shop","one","levels"] (aG Zbl):=by trivial
noncomputable abbrev Zbn:Stmt:=top 51
abbrev ZqE:yA:=["shop","one","mean","worths","scale","levels","by_level"]
theorem iV:FnScope ZqE ["shop","one"] (aG Zbn):=by trivial
noncomputable abbrev qO:Stmt:=top 53
abbrev pV:yA:=["shop","day","costs","ahead","scale","own_scale","behind","stock","cost","level"]
theorem jU:FnScope pV ["shop","day","costs","ahead","scale"] (aG qO):=by trivial
noncomputable abbrev qS:Stmt:=top 55
abbrev pY:yA:=["shop","thing"]
theorem Zht:FnScope pY ["shop","thing"] (aG qS):=by trivial
noncomputable abbrev Zbs:Stmt:=top 56
abbrev ZqJ:yA:=["shop","thing","mean","worths","levels"]
theorem nq:FnScope ZqJ ["shop","thing"] (aG Zbs):=by trivial
noncomputable abbrev qN:Stmt:=top 57
abbrev mL:yA:=["worths","scale","top","bottom"]
theorem lb:FnScope mL ["worths"] (aG qN):=by trivial
noncomputable abbrev nw:Stmt:=top 58
abbrev jL:yA:=["shop","one","thing","mean","worths","levels","ahead","scale","costs"]
theorem ia:FnScope jL ["shop","one","thing"] (aG nw):=by trivial
noncomputable abbrev ZbF:Stmt:=top 60
abbrev ZqW:yA:=["_law_script"]
theorem Zhz:FnScope ZqW ["_law_script"] (aG ZbF):=by trivial
noncomputable abbrev ZbG:Stmt:=top 61
abbrev ZqX:yA:=["_law_cell","_law_k","_law_prime","_law_one","_law_two"]
theorem nu:FnScope ZqX ["_law_cell","_law_k"] (aG ZbG):=by trivial
noncomputable abbrev ZbD:Stmt:=top 62
abbrev ZqU:yA:=["_law_pen_here","_law_most","_law_found","_law_k","_law_cell"]
theorem lg:FnScope ZqU ["_law_pen_here","_law_most"] (aG ZbD):=by trivial
noncomputable abbrev ZbE:Stmt:=top 63
abbrev ZqV:yA:=["_law_pen_here","_law_way"]
theorem Zbd:FnScope ZqV ["_law_pen_here"] (aG ZbE):=by trivial
noncomputable abbrev ZbC:Stmt:=top 64
abbrev ZqT:yA:=["_law_pen_here","_law_many","_law_at","_law_found","_law_k"]
theorem qM:FnScope ZqT ["_law_pen_here","_law_many","_law_at"] (aG ZbC):=by trivial
noncomputable abbrev ZbB:Stmt:=top 65
abbrev ZqS:yA:=["_law_ask","_law_caught","e"]
theorem nt:FnScope ZqS ["_law_ask"] (aG ZbB):=by trivial
noncomputable abbrev qW:Stmt:=top 66
abbrev pZ:yA:=["_law_pen_here","_law_way","_law_pieces","_law_depth","_law_far","_law_weights_here"]
theorem iW:FnScope pZ ["_law_pen_here"] (aG qW):=by trivial
noncomputable abbrev eG:Stmt:=top 67
abbrev gv:yA:=["_law_script","_law_pen_here","_law_turn","_law_shop_here","_law_one","_law_far","_law_pieces","_law_levels","_law_thing","_law_kept","_law_due_word","_law_words"]
theorem eU:FnScope gv ["_law_script"] (aG eG):=by trivial
structure Txt (K:ym) (mg:yC):Prop where
 eJ:mg "len"=none
 Zc5:mg "abs"=none
 oa:mg "max"=none
 n6:mg "min"=none
 Zc1:mg "repr"=none
 og:mg "int"=none
 Zc2:mg "list"=none
 fX:mg "tuple"=none
 Zc3:mg "bool"=none
 fY:mg "range"=none
 fZ:mg "isinstance"=none
 lL:mg "zip"=none
 gM:mg "sum"=none
 Zc4:mg "all"=none
 r8:mg "enumerate"=none
 ZjD:mg "ValueError"=none
 Zc0:mg "reversed"=none
 gQ:∃ t,mg "TOP"=some (.int 0 t)
 dF:∃ t,mg "DEPTH"=some (.int 1 t)
 sT:∃ t,mg "START"=some (.int 2 t)
 sU:∃ t,mg "PIECE"=some (.int 3 t)
 Zk3:∃ t,mg "KEEP"=some (.int 4 t)
 Zk2:∃ t,mg "LACK"=some (.int 5 t)
 Zk1:∃ t,mg "LOST"=some (.int 6 t)
 ZoD:Def K mg "is_whole" Zbp ["thing"]
 ZoC:Def K mg "is_whole_within" Zbo ["thing","lowest","highest"]
 Zop:Def K mg "stocks" Zbg ["shop"]
 ZoG:Def K mg "is_level" Zbr ["shop","stock","thing"]
 ZoJ:Def K mg "greatest_seen" qU ["day"]
 Zou:Def K mg "order_cost" Zbj ["shop","stock","level"]
 Zox:Def K mg "next_stock" Zbk ["shop","level","fall"]
 ZoM:Def K mg "day_cost" Zbv ["shop","level","fall"]
 ZoO:Def K mg "common_divisor" Zbx ["one","other"]
 ZoE:Def K mg "is_share" Zbq ["thing"]
 Zor:Def K mg "share" Zbh ["top","bottom"]
 Zot:Def K mg "plus" Zbi ["one","other"]
 ZoF:Def K mg "is_levels" qT ["shop","thing"]
 Zoo:Def K mg "weighed" Zbf ["shop","day","level","ahead","scale"]
 ZoN:Def K mg "costs_by" Zbw ["shop","day","levels","ahead","scale"]
 ZoA:Def K mg "level_sums" qQ ["shop","day","ahead","scale"]
 ZoP:Def K mg "cheapest_from" Zby ["shop","low","by_level","scale"]
 ZoQ:Def K mg "cheapest" Zbz ["shop","by_level","scale"]
 ZoI:Def K mg "is_cheapest" Zbt ["shop","by_level","scale","stock","level"]
 Zoz:Def K mg "marks_by" Zbm ["shop","by_level","scale","least"]
 ZeF:Def K mg "ask_lasting" ZbA ["shop","one"]
 ZoL:Def K mg "equation" Zbu ["shop","one","stock","level"]
 Zoq:Def K mg "solved" nv ["rows"]
 Zoy:Def K mg "mean_and_worths" qP ["shop","one","levels"]
 ZoR:Def K mg "best_of_all" qV ["shop","one"]
 ZeE:Def K mg "lasting" qR ["shop","one"]
 ZeB:Def K mg "mean_of" Zbl ["shop","one","levels"]
 ZeD:Def K mg "lasting_marks" Zbn ["shop","one"]
 Zow:Def K mg "none_less" qO ["shop","day","costs","ahead","scale"]
 ZoB:Def K mg "is_worths" qS ["shop","thing"]
 ZoH:Def K mg "is_lasting_paper" Zbs ["shop","thing"]
 Zov:Def K mg "on_one_scale" qN ["worths"]
 ZeC:Def K mg "lets_lasting" nw ["shop","one","thing"]
 ZoX:Def K mg "_law_pen" ZbF ["_law_script"]
 ZoY:Def K mg "_law_mixed" ZbG ["_law_cell","_law_k"]
 ZoU:Def K mg "_law_take" ZbD ["_law_pen_here","_law_most"]
 ZoW:Def K mg "_law_price" ZbE ["_law_pen_here"]
 ZoT:Def K mg "_law_weights" ZbC ["_law_pen_here","_law_many","_law_at"]
 ZoS:Def K mg "_law_word" ZbB ["_law_ask"]
 ZoV:Def K mg "_law_shop" qW ["_law_pen_here"]
 Zra:Def K mg "law" eG ["_law_script"]
 ZfY:∃ C D a0 a1 a2 a3 a4 a5 a6:Addr,mg "NoMean"=some (.ref C)/\mg "ShopError"=some (.ref D)/\mg "NoBack"=some (.ref a0)/\mg "NoFall"=some (.ref a1)/\mg "NoLevel"=some (.ref a2)/\mg "NoRow"=some (.ref a3)/\mg "NoShare"=some (.ref a4)/\mg "NoStand"=some (.ref a5)/\mg "NoText"=some (.ref a6)/\Exc K C D [a0,a1,a2,a3,a4,a5,a6]
theorem ZnS {K:ym} {mg:yC} {h:Heap} {C D a0 a1 a2 a3 a4 a5 a6:Addr} (X:K.In h) (G:h.Ns mainGlobals mg)
  (c:PySem.W.nsIn K mainGlobals "NoMean"=some (some (.ref C))) (d:PySem.W.nsIn K mainGlobals "ShopError"=some (some (.ref D)))
  (z0:PySem.W.nsIn K mainGlobals "NoBack"=some (some (.ref a0))) (z1:PySem.W.nsIn K mainGlobals "NoFall"=some (some (.ref a1))) (z2:PySem.W.nsIn K mainGlobals "NoLevel"=some (some (.ref a2))) (z3:PySem.W.nsIn K mainGlobals "NoRow"=some (some (.ref a3))) (z4:PySem.W.nsIn K mainGlobals "NoShare"=some (some (.ref a4))) (z5:PySem.W.nsIn K mainGlobals "NoStand"=some (some (.ref a5))) (z6:PySem.W.nsIn K mainGlobals "NoText"=some (some (.ref a6)))
  (q:fP K C fI "ValueError.__new__"=true) (q2:fP K D fI "ValueError.__new__"=true) (u:oh K C D=true) (v:PySem.W.kitOne K (.ref C) (.type "ValueError")=some true) (y:PySem.W.kitAny K (.ref C) [.ref a0,.ref a1,.ref a2,.ref a3,.ref a4,.ref a5,.ref a6]=some false) :
  ∃ C D a0 a1 a2 a3 a4 a5 a6:Addr,mg "NoMean"=some (.ref C)/\mg "ShopError"=some (.ref D)/\mg "NoBack"=some (.ref a0)/\mg "NoFall"=some (.ref a1)/\mg "NoLevel"=some (.ref a2)/\mg "NoRow"=some (.ref a3)/\mg "NoShare"=some (.ref a4)/\mg "NoStand"=some (.ref a5)/\mg "NoText"=some (.ref a6)/\Exc K C D [a0,a1,a2,a3,a4,a5,a6] :=
 ⟨C,D,a0,a1,a2,a3,a4,a5,a6,vU X G c,vU X G d,vU X G z0,vU X G z1,vU X G z2,vU X G z3,vU X G z4,vU X G z5,vU X G z6,Zlc X q q2 u v y⟩
theorem Zo6 (ns:yy) (a:Nat) (h:ns≠[]):∃ z:Int,bp (ns.map V.int) ((a:Int) % ((ns.map V.int).length:Nat))=some (.int z):=by
 have hl:0 < ns.length:=wY.mpr h;have hl':(ns.map V.int).length=ns.length:=uO ..;have e:(a:Int) % ((ns.map V.int).length:Nat)=((a % ns.length:Nat):Int):=by rw [hl']; omega
 have hlt:a % ns.length < ns.length:=Nat.mod_lt _ hl;rw [e];exact ⟨ns[a % ns.length],gY (by rw [uT,vd hlt]; rfl)⟩
theorem qw {K:ym} {H:Hp} {p c:Addr} {xs:yB} {d:List (aD×V)} {o:HO} (hd:H p=some (.dK d)) (hc:SqL K H c xs):SqL K (upd H p o) c xs:=by
 rcases hc with (hc | ⟨u,hc⟩) | hc
 ·exact .inl (.inl (by rw [ap (kc hc hd (by intro z; cases z))]; exact hc))
 ·exact .inl (.inr ⟨u,by rw [ap (kc hc hd (by intro z; cases z))]; exact hc⟩)
 ·exact .inr hc
def Zg8:Sp:=λvs H Q _=>∃ z a:Int,vs=[.int z,.int a]/\0<=a/\a<=500000/\∀ (r:Int) (H':Hp),Same H H'->Q (.int r) H'
theorem Ziv (a:Int):∃ q:Int,bp [V.int 2147483629,.int 2147483587,.int 2147483579,.int 2147483563,.int 2147483549] (a % 5)=some (.int q)/\0 < q/\q < 2147483648:=by
 have h0:=wu a (show (5:Int)≠0 by decide)
 have h1:=wb a (show (0:Int) < 5 by decide)
 have:a % 5=0\/a % 5=1\/a % 5=2\/a % 5=3\/a % 5=4:=by omega
 rcases this with e | e | e | e | e <;> rw [e]
 ·exact ⟨_,uc,by decide,by decide⟩
 ·exact ⟨_,ub,by decide,by decide⟩
 ·exact ⟨_,ua,by decide,by decide⟩
 ·exact ⟨_,t9,by decide,by decide⟩
 ·exact ⟨_,t7,by decide,by decide⟩
theorem Zgs {z:Int} (h:z ≥ (10:Int) ^ (18:Int).toNat):0<=z:=by
 have e:(10:Int) ^ (18:Int).toNat=1000000000000000000:=by decide
 omega
section
variable {P:Program} {w:World} {K:ym} {mg:yC} {base:Heap}
theorem Zji (T:Txt K mg):Callee P w K mg base "_law_pen" 1 ["_law_script"] (Zg7 K):=by
 refine T.ZoX.ok Zhz (λvs H Q E h=>?_) (λf cdv A outer s H vs Q E hr h=>?_)
 ·obtain ⟨a,ns,rfl,_⟩:=h
  rfl
 ·obtain ⟨a,ns,rfl,hS,hlen,k⟩:=h;have hu:=oP hr;refine ⟨_,(eI (eV (ZiS (rG cX (dY (ZeX) rfl T.Zc2 boot_list (aV (ZcD Za2 (pv 0) Zcx (Zcw cq)) bM)) (rG cX cq (rG cX cq Zix))) rfl rfl (by simp) (by decide)))),?_⟩
  intro p hp;have s0:Same H (upd H p (.dK [])):=(Same.refl _).new hp;refine ⟨_,rfl,63,rfl,a,_,rfl,s0.seq hS,λq hq=>⟨q,_,rfl,Or.inl (SqL.of bq),λc hc=>?_⟩⟩;have hcut:fg (ns.map V.int) none (some 63)=ns.map V.int:=by
   unfold fg;have e:HT.aM (ns.map V.int).length (ns.map V.int).length (some 63)=(ns.map V.int).length:=by
    have q:=HT.ZbH (ns.map V.int).length (ns.map V.int).length 63;rw [uO] at q ⊢;exact q.trans (Nat.min_eq_right hlen)
   rw [e];show ((ns.map V.int).drop 0).take ((ns.map V.int).length - 0)=_;rw [List.drop_zero,Nat.sub_zero,xT]
  have nqp:q≠p:=λz=>by
   rw [z,bq] at hq;cases hq
  have ncp:c≠p:=λz=>by
   rw [z,ap (Ne.symm nqp),bq] at hc;cases hc
  have s1:=s0.new (o:=.lst (fg (ns.map V.int) none (some 63))) hq;have s2:=s1.new (o:=.lst (fg (ns.map V.int) none (some 63))) hc;refine ⟨by rw [ap (Ne.symm ncp),ap (Ne.symm nqp),bq],b8 c 0 0,rfl,(by show 3<=15; decide),k p _ hp ⟨c,⟨0,0,by rw [bq]; rfl,uQ _,vz _⟩,SqL.of ?_,hlen⟩ λb o e=>?_⟩
  ·rw [ap ncp,bq,hcut]
  ·rw [ap (bS e hp)];exact s2 b o e
theorem Zjj (T:Txt K mg):Callee P w K mg base "_law_mixed" 1 ["_law_cell","_law_k"] Zg8:=by
 refine T.ZoY.ok nu (λvs H Q E h=>?_) (λf cdv A outer s H vs Q E hr h=>?_)
 ·obtain ⟨z,a,rfl,_⟩:=h
  rfl
 ·obtain ⟨z,a,rfl,a0,a1,k⟩:=h;have hu:=oP hr;refine ⟨_,(cG (aU (i:=2) nu.nd (lE Zdy (rO (aV cq (aV cq (aV cq (aV cq (aV cq bM)))))) (b9 fV (pv 1) cq) (λ_ _=>rfl)))
 (cG (aU (i:=3) nu.nd (b9 fV (b9 rS (b9 io (b9 io (b9 nO (b9 fV (pv 0) (pv 2)) (b9 io (b9 nO cq (pv 1)) cq)) (b9 nO cq (pv 1))) cq) cq) (pv 2)))
 (cG (aU (i:=4) nu.nd (b9 fV (b9 io (b9 nO (pv 3) (b9 io (b9 io (b9 fV (pv 3) cq) (pv 1)) cq)) (b9 fV (pv 0) cq)) cq))
 (eI (eV (b9 rT (pv 4) cq)))))),?_⟩
  obtain ⟨q,hq,q0,q1⟩:=Ziv a;refine ⟨by show 5<=sizeLine; decide,λt ht=>?_⟩
  have s1:Same H (upd H t (.tup [.int 2147483629,.int 2147483587,.int 2147483579,.int 2147483563,.int 2147483549])):=(Same.refl _).new ht;refine ⟨_,rfl,_,_,rfl,rfl,(by show (0:Int) < 5; decide),t,_,_,_,rfl,rfl,SqT.of bq,hq,?_⟩
  generalize upd H t (.tup [.int 2147483629,.int 2147483587,.int 2147483579,.int 2147483563,.int 2147483549])=H1 at s1;have b0:=wu z (show q≠0 by omega)
  have b1:=wb z q0;have c0:0<=z % q * (2 * a+3):=v6 b0 (by omega)
  have c1:z % q * (2 * a+3)<=2147483648 * 1000003:=Int.mul_le_mul (by omega) (by omega) (by omega) (by omega)
  refine ⟨_,rfl,_,rfl,_,_,rfl,rfl,q0,_,rfl,_,_,rfl,rfl,.inl ⟨by decide,by decide⟩,_,_,rfl,rfl,_,_,rfl,rfl,.inl ⟨by omega,by omega⟩,_,rfl,_,_,rfl,rfl,.inl ⟨by decide,by decide⟩,_,_,rfl,rfl,_,_,rfl,rfl,_,_,rfl,rfl,⟨by decide,by decide,by omega⟩,_,rfl,_,_,rfl,rfl,q0,?_⟩
  have m0:0<=((z % q * (2 * a+3)+31607 * a+5) ^ (3:Int).toNat) % q:=wu _ (by omega)
  have m1:((z % q * (2 * a+3)+31607 * a+5) ^ (3:Int).toNat) % q < q:=wb _ q0;generalize hN:((z % q * (2 * a+3)+31607 * a+5) ^ (3:Int).toNat) % q=N at m0 m1;have d0:=wu N (show (40487:Int)≠0 by decide)
  have d1:=wb N (show (0:Int) < 40487 by decide)
  refine ⟨_,rfl,_,rfl,_,_,rfl,rfl,(by show (0:Int) < 40487; decide),_,rfl,_,_,rfl,rfl,_,_,rfl,rfl,_,_,rfl,rfl,.inl ⟨by omega,by omega⟩,_,rfl,_,_,rfl,rfl,(by show (0:Int) < 65537; decide),_,_,rfl,rfl,_,_,rfl,rfl,(by show (0:Int) < 1073741789; decide),?_⟩
  exact ⟨_,rfl,_,_,rfl,rfl,⟨by decide,by decide⟩,k _ _ s1⟩
theorem Zjl (T:Txt K mg):Callee P w K mg base "_law_take" 2 ["_law_pen_here","_law_most"] (ZaW K):=by
 refine T.ZoU.ok lg (λvs H Q E h=>?_) (λf cdv A outer s H vs Q E hr h=>?_)
 ·obtain ⟨p,c,ns,m,most,rfl,_⟩:=h
  rfl
 ·obtain ⟨p,c,ns,m,most,rfl,hP,hm,h0,h1,k⟩:=h;have hu:=oP hr;have f_law_mixed:=Zjj (P:=P) (w:=w) (K:=K) (mg:=mg) (base:=base) T;refine ⟨_,(cG (i5 (lz ka (ij hu (pv 0) cX (λ_ _=>rfl)) cq (nomark _)) (cG (aU (i:=2) lg.nd (b9 fV (ij hu (pv 0) cX (λ_ _=>rfl)) (pv 1)))
 (cG (rE hu (pv 0) cX (b9 rT (ij hu (pv 0) cX (λ_ _=>rfl)) (pv 1)) rfl)
 (eI (eV (pv 2))))) i0)
 (cG (aU (i:=3) lg.nd (ij hu (pv 0) cX (λ_ _=>rfl)))
 (cG (rE hu (pv 0) cX (b9 io (pv 3) cq) rfl)
 (cG (aU (i:=4) lg.nd cq)
 (cG (PS.join (i5 (lz ka (be (eM) rfl T.eJ boot_len (aV (ij hu (pv 0) cX (λ_ _=>rfl)) bM)) cq (nomark _)) (eI (aU (i:=4) lg.nd (lE oK (ij hu (pv 0) cX (λ_ _=>rfl)) (b9 fV (pv 3) (be (eM) rfl T.eJ boot_len (aV (ij hu (pv 0) cX (λ_ _=>rfl)) bM))) (λ_ _=>rfl)))) i0))
 (cG (i5 (PT.join (PW.pt (Zcq (lz il (pv 3) (be (eM) rfl T.eJ boot_len (aV (ij hu (pv 0) cX (λ_ _=>rfl)) bM)) (nomark _)) (Zcp (lz Zjc (pv 4) (b9 rS cq cq) (nomark _)))))) (cG (rE hu (pv 0) cX (b9 rT (pv 4) (pv 1)) rfl)
 (eI (eV (b9 fV (pv 4) (pv 1))))) i0)
 (eI (eV (b9 fV (nK f_law_mixed (hr.mono (by decide)) rfl (aV (pv 4) (aV (pv 3) bM))) (pv 1)))))))))),?_⟩
  obtain ⟨⟨a,l,hd,ha,hl⟩,hc,hn⟩:=hP;refine ⟨_,rfl,p,_,rfl,tJ hd,_,_,rfl,rfl,_,rfl,?_⟩;refine oM (λhz=>?_) (λhz=>?_)
  ·refine ⟨_,rfl,p,_,rfl,tJ hd,_,rfl,_,_,rfl,rfl,h0,?_⟩;refine ⟨_,rfl,p,_,rfl,tJ hd,_,rfl,_,_,rfl,rfl,⟨h0,h1⟩,_,rfl,p,_,rfl,Zeq hd,?_⟩;exact ⟨_,rfl,k _ _ (wu _ (by omega)) (wb _ h0) ⟨⟨a,_,bq,by omega,Int.ediv_nonneg hl (by omega)⟩,qw hd hc,hn⟩ Kept.refl.pen⟩
  ·refine ⟨_,rfl,p,_,rfl,Zoj hd,?_⟩;refine ⟨_,rfl,_,_,rfl,rfl,_,rfl,p,_,rfl,Zoh hd,?_⟩;have hd1:(upd H p (.dK (b8 c ((a:Int)+1) l))) p=some (.dK (b8 c ((a+1:Nat):Int) l)):=by
    rw [bq]
    rfl
   have hc1:SqL K (upd H p (.dK (b8 c ((a:Int)+1) l))) c (ns.map V.int):=qw hd hc;have k1:Kept p H (upd H p (.dK (b8 c ((a:Int)+1) l))):=Kept.refl.pen;generalize upd H p (.dK (b8 c ((a:Int)+1) l))=H1 at hd1 hc1 k1;refine ⟨λσ' H'=>∃ (z:Int),σ'=[some (.ref p),some (.int most),none,some (.int a),some (.int z)]/\H'=H1,?_,?_⟩
   ·refine ⟨_,rfl,p,_,rfl,oY hd1,c,_,rfl,.inl hc1,_,_,rfl,rfl,_,rfl,?_⟩;refine oM (λhlen=>?_) (λ_=>⟨_,rfl,rfl⟩);have hlen':(0:Int) < ((ns.map V.int).length:Nat):=of_decide_eq_true hlen;have hne':ns≠[]:=by
     rintro rfl;simp at hlen'
    obtain ⟨z,hz2⟩:=Zo6 ns a hne';refine ⟨_,rfl,p,_,rfl,oY hd1,_,rfl,_,rfl,p,_,rfl,oY hd1,c,_,rfl,.inl hc1,_,_,rfl,rfl,hlen',c,_,_,_,rfl,rfl,hc1,hz2,?_⟩;exact ⟨z,rfl,rfl⟩
   ·rintro σ2 H2 ⟨z,rfl,rfl⟩;refine ⟨λb H'=>(b=true->0<=z)/\H'=H2,?_,?_⟩
    ·refine ⟨_,rfl,_,rfl,p,_,rfl,oY hd1,c,_,rfl,.inl hc1,_,_,rfl,rfl,_,rfl,?_⟩;refine oM (λ_=>?_) (λ_=>⟨λh=>(by cases h),rfl⟩)
     exact ⟨_,rfl,_,_,rfl,rfl,⟨by decide,by decide,by decide⟩,_,_,rfl,rfl,_,rfl,λh=>Zgs (of_decide_eq_true h),rfl⟩
    ·rintro b H3 ⟨hb0,rfl⟩;refine oM (λhb=>?_) (λ_=>?_)
     ·refine ⟨_,rfl,_,rfl,_,_,rfl,rfl,⟨h0,h1⟩,_,rfl,p,_,rfl,Zeq hd1,?_⟩;refine ⟨_,rfl,_,rfl,_,_,rfl,rfl,h0,?_⟩;exact k _ _ (wu _ (by omega)) (wb _ h0) ⟨⟨a+1,_,bq,by omega,Int.ediv_nonneg (hb0 hb) (by omega)⟩,qw hd1 hc1,hn⟩ k1.pen
     ·refine ⟨_,rfl,_,rfl,z,a,rfl,by omega,by omega,λr H' s'=>?_⟩
      refine ⟨_,rfl,_,_,rfl,rfl,h0,?_⟩;exact k _ _ (wu _ (by omega)) (wb _ h0) ⟨⟨a+1,l,s' _ _ hd1,by omega,hl⟩,s'.seq hc1,hn⟩ λb o e n=>s' b o (k1 b o e n)
end
noncomputable section
variable {cn:Addr×yy} {P:Program} {w:World} {K:ym} {mg:yC} {base:Heap}
def lV:yr:=bg 1 0
 (bu (jK (g9 "int" (aa 0)) (ZfG (g9 "bool" (aa 0)))))
theorem tX (T:Txt K mg):ACal (ba (K,cn)) P w K mg base "is_whole" 1 ["thing"] lV:=bL T.ZoD Zhv rfl λf cdv A outer sh H E hr=>by
 exact (aK (bA (mB (jG (T:="int") (.inl rfl) rfl (be jC rfl T.fZ boot_isinstance (aV (ac (pv 0)) (aV (ik (v:=.ty "int") rfl T.og boot_int rfl) bM)))) (pC (Zqe (jG (T:="bool") (Or.inr (.inl rfl)) rfl (be jC rfl T.fZ boot_isinstance (aV (ac (pv 0)) (aV (ik (v:=.ty "bool") rfl T.Zc3 boot_bool rfl) bM)))))))))
def fD:yr:=bg 1 0
 (bu (uu (ah (fN (ae aE (aa 0) (aC (.int 1)))) (ah (ae aS (ae aE (aa 0) (aC (.int 0))) (aC (.int 1))) aq))))
theorem iG (T:Txt K mg):ACal (ba (K,cn)) P w K mg base "stocks" 1 ["shop"] fD:=bL T.Zop Zhp rfl λf cdv A outer sh H E hr=>by
 exact (aK (bA (Zqd (dY (Zpb hr.hd) rfl T.fX boot_tuple (aV (dY tS rfl T.fY boot_range (ai (iI (aR aQ aP (ac (pv 0)) (bO rfl T.dF))) (ai (au bz bx (aR aQ aP (ac (pv 0)) (bO rfl T.gQ)) aA) aF))) bM)))))
noncomputable def ly:yn :=
 (aa 0)
noncomputable def lH:yp :=
 (bE (ae (c6 λi j=>decide (i > j)) (aa 1) (aC (.int 0))))
def jr:yr:=bg 1 0
 (bu (bh lR (ah (bU (pK (mG (aa 0)) 2 [] (bv (az (aj 0) (az (aj 1) br))) lH ly)) aq)))
theorem Ze4 (T:Txt K mg):ACal (ba (K,cn)) P w K mg base "greatest_seen" 1 ["day"] jr:=bL T.ZoJ Zhx rfl λf cdv A outer sh H E hr=>by
 exact (aK (bA (bI (t:=bb) (be (Zpg rfl) rfl T.oa boot_max (ai (cE (Zp2 (ZiN mP ["fall","weight"] [] rfl (uj (rM rfl rfl T.r8 (ac (pv 0)))) (λb=>(cM rfl (aZ (aO (aN (i:=0) (show ((bN mP ["fall","weight"] [])).Nodup by trivial))) (aZ (aO (aN (i:=1) (show ((bN mP ["fall","weight"] [])).Nodup by trivial))) cL)) (aY (aY cI)))) (λb=>(cv ka dI (ac (pv 1)) aA (nomark _))) (λb=>(ac (pv 0))) rfl (show BlkOk mP (aG qU) _ [] by trivial)) (j6 (eW (cQ (by decide)) (eW (cQ (by decide)) j7))))) aF)) Zf9)))
def jm:yr:=bg 3 0
 (ao (cz (bE (ae (c6 λi j=>decide (i<=j)) (aa 2) (aa 1)))
  (bu (aC (.int 0)))
  cy)
 (bu (ae aS (ae aE (aa 0) (aC (.int 2))) (ae bD (ae aE (aa 0) (aC (.int 3))) (ae bZ (aa 2) (aa 1))))))
theorem tV (T:Txt K mg):ACal (ba (K,cn)) P w K mg base "order_cost" 1 ["shop","stock","level"] jm:=bL T.Zou Zhr rfl λf cdv A outer sh H E hr=>by
 exact (aw (cV (cv nQ dI (ac (pv 2)) (ac (pv 1)) (nomark _))
 (aK (bA aA))
 cU)
 (aK (bA (au bz bx (aR aQ aP (ac (pv 0)) (bO rfl T.sT)) (au bW bV (aR aQ aP (ac (pv 0)) (bO rfl T.sU)) (au cY cP (ac (pv 2)) (ac (pv 1))))))))
def jn:yr:=bg 3 0
 (bu (bh jj (ah (ae bZ (aa 1) (aa 2)) (ah (fN (ae aE (aa 0) (aC (.int 1)))) aq))))
theorem tW (T:Txt K mg):ACal (ba (K,cn)) P w K mg base "next_stock" 1 ["shop","level","fall"] jn:=bL T.Zox Zhs rfl λf cdv A outer sh H E hr=>by
 exact (aK (bA (bI (t:=bb) (be (tT rfl) rfl T.oa boot_max (ai (au cY cP (ac (pv 1)) (ac (pv 2))) (ai (iI (aR aQ aP (ac (pv 0)) (bO rfl T.dF))) aF))) qg)))
noncomputable def qe:yp :=
 (fj (aa 1))
noncomputable def sI:yq :=
 (mE 0 1 (ah (aa 1) (ah (ae lN (aa 0) (aa 1)) aq)))
def kj:yr:=bg 2 0
 (ao (mE 0 1 (ah (bh mC (ah (aa 0) aq)) (ah (bh mC (ah (aa 1) aq)) aq)))
 (ao (cN qe sI 100000)
 (gt 0)))
theorem tY (T:Txt K mg):ACal (ba (K,cn)) P w K mg base "common_divisor" 1 ["one","other"] kj:=bL T.ZoO qL rfl λf cdv A outer sh H E hr=>by
 exact (aw (Zfq (Zcu (i:=0) (j:=1) rfl qL.nd rfl rfl (by decide) rfl rfl (ai (bI (t:=bb) (be ZeZ rfl T.Zc5 boot_abs (ai (ac (pv 0)) aF)) Zan) (ai (bI (t:=bb) (be ZeZ rfl T.Zc5 boot_abs (ai (ac (pv 1)) aF)) Zan) aF)) rfl))
 (aw (ud 100000 vI (gm (ac (pv 1)))
  (aK (Zfq (Zcu (i:=0) (j:=1) rfl qL.nd rfl rfl (by decide) rfl rfl (ai (ac (pv 1)) (ai (au Zjb Zf4 (ac (pv 0)) (ac (pv 1))) aF)) rfl))))
 (aK (ph (pv 0)))))
noncomputable def Zdw:yq :=
 (ao (aX 7 (cj (ah (ae aE (aa 2) (ae bZ (aa 6) (aa 1))) (ah (aa 6) aq))))
 (ao (eP (bv (az (aj 8) (az (aj 9) br))) (bh iy (ah (aa 7) (ah (cj (ah (ae aS (ae bD (aa 3) (ae aE (aa 0) (aC (.int 2)))) (ae aE (aa 5) (aC (.int 0)))) (ah (ae aE (aa 5) (aC (.int 1))) aq))) aq))))
 (ao (iL 4 (cj (ah (ae bZ (aa 8) (ae bD (ae bD (aa 3) (ae aE (aa 0) (aC (.int 3)))) (aa 6))) (ah (aa 9) aq))))
 (aX 5 (bh iy (ah (aa 7) (ah (aa 5) aq)))))))
def oF:yr:=bg 4 6
 (ao (jI 4 (di aq))
 (ao (aX 5 (cj (ah (ae aE (aa 2) (fN (aC (.int 1)))) (ah (ae aE (aa 0) (aC (.int 0))) aq))))
 (ao (eB (pH (ah (aa 1) (ah (ae aS (ae aE (aa 0) (aC (.int 0))) (aC (.int 1))) aq))) (aj 6) Zdw)
 (ao (pI 4)
 (gt 4)))))
theorem ZpM (T:Txt K mg):ACal (ba (K,cn)) P w K mg base "cheapest_from" 1 ["shop","low","by_level","scale"] oF:=bL T.ZoP ie rfl λf cdv A outer sh H E hr=>by
 exact (aw (mq (aU (i:=4) ie.nd (dO aF)))
 (aw (bf (aU (i:=5) ie.nd (cD (ai (aR aQ aP (ac (pv 2)) (iI aA)) (ai (aR aQ aP (ac (pv 0)) (bO rfl T.gQ)) aF)))))
 (aw (fh vI rfl (ZfB (ZcA rfl T.Zc0 (dY tS rfl T.fY boot_range (ai (ac (pv 1)) (ai (au bz bx (aR aQ aP (ac (pv 0)) (bO rfl T.gQ)) aA) aF))))) (aO (aN (i:=6) ie.nd))
  (aw (bf (aU (i:=7) ie.nd (cD (ai (aR aQ aP (ac (pv 2)) (au cY cP (ac (pv 6)) (ac (pv 1)))) (ai (ac (pv 6)) aF)))))
 (aw (fK (dX (bI (t:=bb) (be (ZeW hr rfl) rfl T.n6 boot_min (ai (ac (pv 7)) (ai (cD (ai (au bz bx (au bW bV (ac (pv 3)) (aR aQ aP (ac (pv 0)) (bO rfl T.sT))) (aR aQ aP (ac (pv 5)) aA)) (ai (aR aQ aP (ac (pv 5)) aA) aF))) aF))) Zak) (cM rfl (aZ (aO (aN (i:=8) ie.nd)) (aZ (aO (aN (i:=9) ie.nd)) cL)) (aY (aY cI)))))
 (aw (mr (i6 (lF vZ wl wk lM (pv 4) (aV (cD (ai (au cY cP (ac (pv 8)) (au bW bV (au bW bV (ac (pv 3)) (aR aQ aP (ac (pv 0)) (bO rfl T.sU))) (ac (pv 6)))) (ai (ac (pv 9)) aF))) bM))))
 (aK (bf (aU (i:=5) ie.nd (bI (t:=bb) (be (ZeW hr rfl) rfl T.n6 boot_min (ai (ac (pv 7)) (ai (ac (pv 5)) aF))) Zak))))))))
 (aw (ZpX (i6 (ZiW vZ PySem.F.slot_list_reverse PySem.F.type_list_reverse ZjH (pv 4))))
 (aK (ph (pv 4)))))))
def lW:yr:=bg 5 2
 (ao (aX 5 (ae aS (aa 3) (ae aE (aa 0) (aC (.int 1)))))
 (ao (aX 6 (ae aS (ae bD (aa 2) (ae aE (aa 0) (aC (.int 2)))) (ae aE (aa 1) (ae aS (aa 4) (ae aE (aa 0) (aC (.int 1)))))))
 (bu (jK (ae (c6 λi j=>decide (i<=j)) (aa 6) (ae aE (aa 1) (aa 5))) (ae dg (ae aE (aa 1) (ae aS (aa 4) (ae aE (aa 0) (aC (.int 1))))) (bh oj (ah (pG (aa 1) (mF (ae aS (aa 5) (aC (.int 1)))) pJ) aq)))))))
theorem ZpI (T:Txt K mg):ACal (ba (K,cn)) P w K mg base "is_cheapest" 1 ["shop","by_level","scale","stock","level"] lW:=bL T.ZoI qK rfl λf cdv A outer sh H E hr=>by
 exact (aw (bf (aU (i:=5) qK.nd (au bz bx (ac (pv 3)) (aR aQ aP (ac (pv 0)) (bO rfl T.dF)))))
 (aw (bf (aU (i:=6) qK.nd (au bz bx (au bW bV (ac (pv 2)) (aR aQ aP (ac (pv 0)) (bO rfl T.sT))) (aR aQ aP (ac (pv 1)) (au bz bx (ac (pv 4)) (aR aQ aP (ac (pv 0)) (bO rfl T.dF)))))))
 (aK (bA (mB (my nQ dI (ac (pv 6)) (aR aQ aP (ac (pv 1)) (ac (pv 5))) (nomark _)) (pC (my (im hr) hY (aR aQ aP (ac (pv 1)) (au bz bx (ac (pv 4)) (aR aQ aP (ac (pv 0)) (bO rfl T.dF)))) (bI (t:=bb) (be (Zpe rfl) rfl T.n6 boot_min (ai (ZfC (ac (pv 1)) (Zfx (au bz bx (ac (pv 5)) aA)) Zfy) aF)) Zf8) (nomark _))))))))
noncomputable def lu:yn :=
 (ae gk (ae bZ (ae bD (aa 3) (aa 0)) (ae bD (aa 4) (aa 1))) (aa 2))
noncomputable def l7:yq :=
 (cz (bE (ae dq (aa 5) (aa 2)))
  (ao (aX 6 (ae aE (iK 0 (aa 5)) (aa 2)))
 (kM 0 (aa 5) (bU (db (jH (iK 0 (aa 5)) (aa 3)) 2 [1,4,6] (bv (az (aj 0) (az (aj 1) br))) lu))))
  cy)
noncomputable def oH:yq :=
 (ao (aX 3 (iK 0 (aa 2)))
 (ao (aX 4 (ae aE (aa 3) (aa 2)))
 (ao (eB (g0 (ah (mH dt (kL 0 ak)) aq)) (aj 5) l7)
 (aX 1 (aa 4)))))
noncomputable def lr:yn :=
 (ae aE (aa 0) (fN (aC (.int 1))))
def on:yr:=bg 1 6
 (ao (aX 1 (aC (.int 1)))
 (ao (eB (g0 (ah (mH dt (kL 0 ak)) aq)) (aj 2) oH)
 (kN 0 (bu (cj (ah (bU (db (fk (aa 0)) 1 [] (aj 0) lr)) (ah (aa 1) aq)))))))
theorem Zpn (T:Txt K mg):uM (ba (K,cn)) P w K mg base "solved" 1 "rows" on:=Zqk T.Zoq h9 rfl (by decide) λf cdv A outer sh H E hr=>by
 exact (aw (bf (aU (i:=1) h9.nd aA))
 (aw (fh vI rfl (kK (j8 rfl T.fY (ai (uq rK (be eM rfl T.eJ boot_len (ut (pv 0) ur)) fQ) aF))) (aO (aN (i:=2) h9.nd))
  (aw (bf (aU (i:=3) h9.nd (pD (ac (pv 2)) (pv 0) (λ_ _=>rfl))))
 (aw (bf (aU (i:=4) h9.nd (aR aQ aP (ac (pv 3)) (ac (pv 2)))))
 (aw (fh vI rfl (kK (j8 rfl T.fY (ai (uq rK (be eM rfl T.eJ boot_len (ut (pv 0) ur)) fQ) aF))) (aO (aN (i:=5) h9.nd))
  (aK (cV (cv (gK hr) gw (ac (pv 5)) (ac (pv 2)) (nomark _))
  (aw (bf (aU (i:=6) h9.nd (aR aQ aP (pD (ac (pv 5)) (pv 0) (λ_ _=>rfl)) (ac (pv 2)))))
 (aK (ue (dX (cE (fi (eX iN ["x","y"] [1,4,6] rfl (mx (lD rfl rfl T.lL (pD (ac (pv 5)) (pv 0) (λ_ _=>rfl)) (ac (pv 3)))) (λb=>(cM rfl (aZ (aO (aN (i:=0) (show ((bN iN ["x","y"] [1,4,6])).Nodup by trivial))) (aZ (aO (aN (i:=1) (show ((bN iN ["x","y"] [1,4,6])).Nodup by trivial))) cL)) (aY (aY cI)))) (λb=>(au lJ kT (au cY cP (au bW bV (ac (pv 3)) (ac (pv 0))) (au bW bV (ac (pv 4)) (ac (pv 1)))) (ac (pv 2)))) rfl (show BlkOk iN (aG nv) _ [1,4,6] by trivial)) (j6 (eW (cQ (by decide)) (eW (cQ (by decide)) j7))))) (rN (pv 0) (ac (pv 5)) la)))))
  cU)))
 (aK (bf (aU (i:=1) h9.nd (ac (pv 4)))))))))
 (aK (pj (k:=0) (bA (cD (ai (cE (fi (eX iN ["row"] [] rfl (gq (ac (pv 0))) (λb=>(aO (aN (i:=0) (show ((bN iN ["row"] [])).Nodup by trivial)))) (λb=>(aR aQ aP (ac (pv 0)) (iI aA))) rfl (show BlkOk iN (aG nv) _ [] by trivial)) (cQ (by decide)))) (ai (ac (pv 1)) aF))))))))
def oy:yr:=bg 3 0
 (bu (jK (ay (av lV (ad (aa 0) ak))) (pL (c6 λi j=>decide (i<=j)) (c6 λi j=>decide (i<=j)) (aa 1) (aa 0) (aa 2))))
theorem ZpE (T:Txt K mg):ACal (ba (K,cn)) P w K mg base "is_whole_within" 2 ["thing","lowest","highest"] oy:=bL T.ZoC Zhu rfl λf cdv A outer sh H E hr=>by
 exact (aK (bA (mB (aI (aJ (tX T) hr (af (ac (pv 0)) aB))) (pC (Zqi nQ dI nQ dI (ac (pv 1)) (ac (pv 0)) (ac (pv 2)))))))
def lX:yr:=bg 3 3
 (ao (aX 3 (ay (av jn (ad (aa 0) (ad (aa 1) (ad (aa 2) ak))))))
 (ao (aX 4 (ae bZ (aa 3) (ae bZ (aa 1) (aa 2))))
 (ao (aX 5 (uy (bE (ae (c6 λi j=>decide (i > j)) (aa 3) (aC (.int 0)))) (ae bD (ae aE (aa 0) (aC (.int 4))) (aa 3)) (ae bD (ae aE (aa 0) (aC (.int 5))) (fN (aa 3)))))
 (bu (ae aS (aa 5) (ae bD (ae aE (aa 0) (aC (.int 6))) (aa 4)))))))
theorem ZpK (T:Txt K mg):ACal (ba (K,cn)) P w K mg base "day_cost" 2 ["shop","level","fall"] lX:=bL T.ZoM nr rfl λf cdv A outer sh H E hr=>by
 exact (aw (bf (aU (i:=3) nr.nd (aI (aJ (tW T) hr (af (ac (pv 0)) (af (ac (pv 1)) (af (ac (pv 2)) aB)))))))
 (aw (bf (aU (i:=4) nr.nd (au cY cP (ac (pv 3)) (au cY cP (ac (pv 1)) (ac (pv 2))))))
 (aw (bf (aU (i:=5) nr.nd (Zqg (cv ka dI (ac (pv 3)) aA (nomark _)) (au bW bV (aR aQ aP (ac (pv 0)) (bO rfl T.Zk3)) (ac (pv 3))) (au bW bV (aR aQ aP (ac (pv 0)) (bO rfl T.Zk2)) (iI (ac (pv 3)))))))
 (aK (bA (au bz bx (ac (pv 5)) (au bW bV (aR aQ aP (ac (pv 0)) (bO rfl T.Zk1)) (ac (pv 4)))))))))
def oz:yr:=bg 1 2
 (ao (cz (g6 (fM (fj (g9 "tuple" (aa 0)))) (bE (ae dq (bh dt (ah (aa 0) aq)) (aC (.int 2)))))
  (bu (aC (.bool false)))
  cy)
 (ao (eP (bv (az (aj 1) (az (aj 2) br))) (aa 0))
 (ao (cz (g6 (fM (fj (ay (av lV (ad (aa 1) ak))))) (g6 (fM (fj (ay (av lV (ad (aa 2) ak))))) (bE (ae (c6 λi j=>decide (i < j)) (aa 2) (aC (.int 1))))))
  (bu (aC (.bool false)))
  cy)
 (bu (ae dg (ay (av kj (ad (aa 1) (ad (aa 2) ak)))) (aC (.int 1)))))))
theorem Ze3 (T:Txt K mg):ACal (ba (K,cn)) P w K mg base "is_share" 2 ["thing"] oz:=bL T.ZoE qJ rfl λf cdv A outer sh H E hr=>by
 exact (aw (cV (iH (jD (gX (gm (jG (T:="tuple") (Or.inr (Or.inr (Or.inr (Or.inr (.inl rfl))))) rfl (be jC rfl T.fZ boot_isinstance (aV (ac (pv 0)) (aV (ik (v:=.ty "tuple") rfl T.fX boot_tuple rfl) bM)))))) (kI (cv (gK hr) gw (bI (t:=bb) (be eM rfl T.eJ boot_len (ai (ac (pv 0)) aF)) fQ) aA (nomark _)))))
 (aK (bA eA))
 cU)
 (aw (fK (dX (ac (pv 0)) (cM rfl (aZ (aO (aN (i:=1) qJ.nd)) (aZ (aO (aN (i:=2) qJ.nd)) cL)) (aY (aY cI)))))
 (aw (cV (iH (jD (gX (gm (aI (aJ (tX T) hr (af (ac (pv 1)) aB))))) (jD (gX (gm (aI (aJ (tX T) hr (af (ac (pv 2)) aB))))) (kI (cv il dI (ac (pv 2)) aA (nomark _))))))
  (aK (bA eA))
  cU)
 (aK (bA (my (im hr) hY (aI (aJ (tY T) hr (af (ac (pv 1)) (af (ac (pv 2)) aB)))) aA (nomark _)))))))
def gN:yr:=bg 2 1
 (ao (cz (bE (ae dg (aa 1) (aC (.int 0))))
  ux
  cy)
 (ao (aX 2 (ay (av kj (ad (aa 0) (ad (aa 1) ak)))))
 (ao (cz (bE (ae (c6 λi j=>decide (i < j)) (aa 1) (aC (.int 0))))
  (aX 2 (fN (aa 2)))
  cy)
 (bu (cj (ah (ae gk (aa 0) (aa 2)) (ah (ae gk (aa 1) (aa 2)) aq)))))))
theorem ml (T:Txt K mg):ACal (ba (K,cn)) P w K mg base "share" 2 ["top","bottom"] gN:=bL T.Zor qH rfl λf cdv A outer sh H E hr=>by
 exact (aw (cV (cv (im hr) hY (ac (pv 1)) aA (nomark _))
 (aK Zfr)
 cU)
 (aw (bf (aU (i:=2) qH.nd (aI (aJ (tY T) hr (af (ac (pv 0)) (af (ac (pv 1)) aB))))))
 (aw (cV (cv il dI (ac (pv 1)) aA (nomark _))
  (aK (bf (aU (i:=2) qH.nd (iI (ac (pv 2))))))
  cU)
 (aK (bA (cD (ai (au lJ kT (ac (pv 0)) (ac (pv 2))) (ai (au lJ kT (ac (pv 1)) (ac (pv 2))) aF))))))))
def kl:yr:=bg 3 0
 (iJ (av oF (ad (aa 0) (ad (fN (ae aE (aa 0) (aC (.int 1)))) (ad (aa 1) (ad (aa 2) ak))))))
theorem Ze5 (T:Txt K mg):ACal (ba (K,cn)) P w K mg base "cheapest" 2 ["shop","by_level","scale"] kl:=bL T.ZoQ Zhy rfl λf cdv A outer sh H E hr=>by
 exact (aK (kJ (aJ (ZpM T) hr (af (ac (pv 0)) (af (iI (aR aQ aP (ac (pv 0)) (bO rfl T.dF))) (af (ac (pv 1)) (af (ac (pv 2)) aB)))))))
def gO:yr:=bg 2 0
 (cz (bE (ae (c6 λi j=>decide (i < j)) (ay (av jr (ad (aa 1) ak))) (ae aS (ae aE (aa 0) (aC (.int 0))) (ae aE (aa 0) (aC (.int 1))))))
  ux
  cy)
theorem pd (T:Txt K mg):ACal (ba (K,cn)) P w K mg base "ask_lasting" 2 ["shop","one"] gO:=bL T.ZeF Zbc rfl λf cdv A outer sh H E hr=>by
 exact (aK (cV (cv il dI (aI (aJ (Ze4 T) hr (af (ac (pv 1)) aB))) (au bz bx (aR aQ aP (ac (pv 0)) (bO rfl T.gQ)) (aR aQ aP (ac (pv 0)) (bO rfl T.dF))) (nomark _))
 (aK Zfr)
 cU))
noncomputable def sD:yq :=
 (kP sM 1 (ae gk (aa 3) (ay (av kj (ad (aa 1) (ad (aa 3) ak))))))
noncomputable def Zcl:yn :=
 (ae bD (aa 0) (ae gk (aa 2) (aa 1)))
def oo:yr:=bg 1 3
 (ao (aX 1 (aC (.int 1)))
 (ao (eB (fk (aa 0)) (bv (az (aj 2) (az (aj 3) br))) sD)
 (bu (cj (ah (bU (db (fk (aa 0)) 2 [1] (bv (az (aj 0) (az (aj 1) br))) Zcl)) (ah (aa 1) aq))))))
theorem Zpp (T:Txt K mg):ACal (ba (K,cn)) P w K mg base "on_one_scale" 2 ["worths"] oo:=bL T.Zov lb rfl λf cdv A outer sh H E hr=>by
 exact (aw (bf (aU (i:=1) lb.nd aA))
 (aw (fh vI rfl (gq (ac (pv 0))) (cM rfl (aZ (aO (aN (i:=2) lb.nd)) (aZ (aO (aN (i:=3) lb.nd)) cL)) (aY (aY cI)))
  (aK (uf Zf5 (rF (i:=1) lb.nd rfl (.inr rfl) (au lJ kT (ac (pv 3)) (aI (aJ (tY T) hr (af (ac (pv 1)) (af (ac (pv 3)) aB))))) (pip ZkL)))))
 (aK (bA (cD (ai (cE (fi (eX mL ["top","bottom"] [1] rfl (gq (ac (pv 0))) (λb=>(cM rfl (aZ (aO (aN (i:=0) (show ((bN mL ["top","bottom"] [1])).Nodup by trivial))) (aZ (aO (aN (i:=1) (show ((bN mL ["top","bottom"] [1])).Nodup by trivial))) cL)) (aY (aY cI)))) (λb=>(au bW bV (ac (pv 0)) (au lJ kT (ac (pv 2)) (ac (pv 1))))) rfl (show BlkOk mL (aG qN) _ [1] by trivial)) (j6 (eW (cQ (by decide)) (eW (cQ (by decide)) j7))))) (ai (ac (pv 1)) aF)))))))
abbrev cC:=oD
theorem dN (T:Txt K mg):ACal (ba (K,cn)) P w K mg base "_law_take" 2 ["_law_pen_here","_law_most"] cC:=Zog rfl (Zjl T)
def oB:yr:=bg 3 0
 (iJ (av oy (ad (aa 2) (ad (aa 1) (ad (ae aE (aa 0) (aC (.int 0))) ak)))))
theorem ZpG (T:Txt K mg):ACal (ba (K,cn)) P w K mg base "is_level" 3 ["shop","stock","thing"] oB:=bL T.ZoG Zhw rfl λf cdv A outer sh H E hr=>by
 exact (aK (kJ (aJ (ZpE T) hr (af (ac (pv 2)) (af (ac (pv 1)) (af (aR aQ aP (ac (pv 0)) (bO rfl T.gQ)) aB))))))
def Zdd:yr:=bg 2 0
 (iJ (av gN (ad (ae aS (ae bD (ae aE (aa 0) (aC (.int 0))) (ae aE (aa 1) (aC (.int 1)))) (ae bD (ae aE (aa 1) (aC (.int 0))) (ae aE (aa 0) (aC (.int 1))))) (ad (ae bD (ae aE (aa 0) (aC (.int 1))) (ae aE (aa 1) (aC (.int 1)))) ak))))
theorem Zpo (T:Txt K mg):ACal (ba (K,cn)) P w K mg base "plus" 3 ["one","other"] Zdd:=bL T.Zot Zhq rfl λf cdv A outer sh H E hr=>by
 exact (aK (kJ (aJ (ml T) hr (af (au bz bx (au bW bV (aR aQ aP (ac (pv 0)) aA) (aR aQ aP (ac (pv 1)) aA)) (au bW bV (aR aQ aP (ac (pv 1)) aA) (aR aQ aP (ac (pv 0)) aA))) (af (au bW bV (aR aQ aP (ac (pv 0)) aA) (aR aQ aP (ac (pv 1)) aA)) aB)))))
noncomputable def Zdv:yq :=
 (ao (aX 8 (ae aE (aa 3) (ae aS (ay (av jn (ad (aa 0) (ad (aa 2) (ad (aa 6) ak))))) (ae aE (aa 0) (aC (.int 1))))))
 (kP oO 5 (ae bD (aa 7) (ae aS (ae bD (aa 4) (ay (av lX (ad (aa 0) (ad (aa 2) (ad (aa 6) ak)))))) (aa 8)))))
def jl:yr:=bg 5 4
 (ao (aX 5 (aC (.int 0)))
 (ao (eB (mG (aa 1)) (bv (az (aj 6) (az (aj 7) br))) Zdv)
 (gt 5)))
theorem o9 (T:Txt K mg):ACal (ba (K,cn)) P w K mg base "weighed" 3 ["shop","day","level","ahead","scale"] jl:=bL T.Zoo jT rfl λf cdv A outer sh H E hr=>by
 exact (aw (bf (aU (i:=5) jT.nd aA))
 (aw (fh vI rfl (uj (rM rfl rfl T.r8 (ac (pv 1)))) (cM rfl (aZ (aO (aN (i:=6) jT.nd)) (aZ (aO (aN (i:=7) jT.nd)) cL)) (aY (aY cI)))
  (aw (bf (aU (i:=8) jT.nd (aR aQ aP (ac (pv 3)) (au bz bx (aI (aJ (tW T) hr (af (ac (pv 0)) (af (ac (pv 2)) (af (ac (pv 6)) aB))))) (aR aQ aP (ac (pv 0)) (bO rfl T.dF))))))
 (aK (uf Zf6 (rF (i:=5) jT.nd rfl (.inl rfl) (au bW bV (ac (pv 7)) (au bz bx (au bW bV (ac (pv 4)) (aI (aJ (ZpK T) hr (af (ac (pv 0)) (af (ac (pv 2)) (af (ac (pv 6)) aB)))))) (ac (pv 8)))) (pip ZkM))))))
 (aK (ph (pv 5)))))
noncomputable def mY:yp :=
 (pP (bE (ae (c6 λi j=>decide (i > j)) (aa 5) (aa 3))) (bE (ae dg (ae aE (ae aE (aa 4) (ae aS (ae bZ (aa 5) (aC (.int 1))) (ae aE (aa 0) (aC (.int 1))))) (aC (.int 1))) (ae bZ (aa 5) (aC (.int 1))))))
noncomputable def sE:yq :=
 (kP bZ 5 (aC (.int 1)))
noncomputable def ku:yq :=
 (cz (fM (fj (ay (av lW (ad (aa 0) (ad (aa 1) (ad (aa 2) (ad (aa 7) (ad (aa 6) ak)))))))))
  (bu (cj (ah (aC (.str "none")) (ah (aa 7) (ah (ae bZ (aa 5) (aC (.int 1))) aq)))))
  cy)
def oq:yr:=bg 4 4
 (ao (aX 4 (ay (av kl (ad (aa 0) (ad (aa 1) (ad (aa 2) ak))))))
 (ao (aX 5 (ae aE (aa 0) (aC (.int 0))))
 (ao (cN mY sE 100000)
 (ao (cz (bE (ae dg (aa 5) (aa 3)))
  (bu (cj (ah (aC (.str "marks")) (ah (aa 3) (ah (aa 3) aq)))))
  cy)
 (ao (aX 6 (ae aE (ae aE (aa 4) (ae aS (ae bZ (aa 5) (aC (.int 1))) (ae aE (aa 0) (aC (.int 1))))) (aC (.int 1))))
 (ao (eB (pH (ah (aa 3) (ah (ae bZ (aa 5) (aC (.int 1))) aq))) (aj 7) ku)
 (bu (cj (ah (aC (.str "marks")) (ah (aa 5) (ah (aa 6) aq)))))))))))
theorem Zpt (T:Txt K mg):ACal (ba (K,cn)) P w K mg base "marks_by" 3 ["shop","by_level","scale","least"] oq:=bL T.Zoz jV rfl λf cdv A outer sh H E hr=>by
 exact (aw (bf (aU (i:=4) jV.nd (aI (aJ (Ze5 T) hr (af (ac (pv 0)) (af (ac (pv 1)) (af (ac (pv 2)) aB)))))))
 (aw (bf (aU (i:=5) jV.nd (aR aQ aP (ac (pv 0)) (bO rfl T.gQ))))
 (aw (ud 100000 vI (iH (Zfj (cv ka dI (ac (pv 5)) (ac (pv 3)) (nomark _)) (Zfi (cv (im hr) hY (aR aQ aP (aR aQ aP (ac (pv 4)) (au bz bx (au cY cP (ac (pv 5)) aA) (aR aQ aP (ac (pv 0)) (bO rfl T.dF)))) aA) (au cY cP (ac (pv 5)) aA) (nomark _)))))
  (aK (uf cP (rF (i:=5) jV.nd rfl (.inl rfl) aA (pip ZkK)))))
 (aw (cV (cv (im hr) hY (ac (pv 5)) (ac (pv 3)) (nomark _))
  (aK (bA (cD (ai jF (ai (ac (pv 3)) (ai (ac (pv 3)) aF))))))
  cU)
 (aw (bf (aU (i:=6) jV.nd (aR aQ aP (aR aQ aP (ac (pv 4)) (au bz bx (au cY cP (ac (pv 5)) aA) (aR aQ aP (ac (pv 0)) (bO rfl T.dF)))) aA)))
 (aw (fh vI rfl (ZfB (ZcA rfl T.Zc0 (dY tS rfl T.fY boot_range (ai (ac (pv 3)) (ai (au cY cP (ac (pv 5)) aA) aF))))) (aO (aN (i:=7) jV.nd))
  (aK (cV (gX (gm (aI (aJ (ZpI T) hr (af (ac (pv 0)) (af (ac (pv 1)) (af (ac (pv 2)) (af (ac (pv 7)) (af (ac (pv 6)) aB)))))))))
  (aK (bA (cD (ai jF (ai (ac (pv 7)) (ai (au cY cP (ac (pv 5)) aA) aF))))))
  cU)))
 (aK (bA (cD (ai jF (ai (ac (pv 5)) (ai (ac (pv 6)) aF))))))))))))
noncomputable def Zcn:yn :=
 (ay (av oz (ad (aa 0) ak)))
def ox:yr:=bg 2 0
 (ao (cz (g6 (fM (fj (g9 "tuple" (aa 1)))) (bE (ae dq (bh dt (ah (aa 1) aq)) (bh dt (ah (ay (av fD (ad (aa 0) ak))) aq)))))
  (bu (aC (.bool false)))
  cy)
 (bu (bh mv (ah (bU (db (fk (aa 1)) 1 [] (aj 0) Zcn)) aq))))
theorem ZpD (T:Txt K mg):ACal (ba (K,cn)) P w K mg base "is_worths" 3 ["shop","thing"] ox:=bL T.ZoB Zht rfl λf cdv A outer sh H E hr=>by
 exact (aw (cV (iH (jD (gX (gm (jG (T:="tuple") (Or.inr (Or.inr (Or.inr (Or.inr (.inl rfl))))) rfl (be jC rfl T.fZ boot_isinstance (aV (ac (pv 1)) (aV (ik (v:=.ty "tuple") rfl T.fX boot_tuple rfl) bM)))))) (kI (cv (gK hr) gw (bI (t:=bb) (be eM rfl T.eJ boot_len (ai (ac (pv 1)) aF)) fQ) (bI (t:=bb) (be eM rfl T.eJ boot_len (ai (aI (aJ (iG T) hr (af (ac (pv 0)) aB))) aF)) fQ) (nomark _)))))
 (aK (bA eA))
 cU)
 (aK (bA (bI (t:=bb) (be (ZeY rfl) rfl T.Zc4 boot_all (ai (cE (fi (eX pY ["worth"] [] rfl (gq (ac (pv 1))) (λb=>(aO (aN (i:=0) (show ((bN pY ["worth"] [])).Nodup by trivial)))) (λb=>(aI (aJ (Ze3 T) hr (af (ac (pv 0)) aB)))) rfl (show BlkOk pY (aG qS) _ [] by trivial)) (cQ (by decide)))) aF)) Zam))))
def ou:yr:=bg 1 1
 (ao (aX 1 (ay (av cC (cg 0 (ad (aC (.int 6)) ak)))))
 (ao (cz (bE (ae (c6 λi j=>decide (i < j)) (aa 1) (aC (.int 4))))
  (bu (ae bD (ay (av cC (cg 0 (ad (aC (.int 10)) ak)))) (bh ma (ah (ae (c6 λi j=>decide (i > j)) (aa 1) (aC (.int 0))) aq))))
  cy)
 (bu (ae aE (bU (di (ah (ay (av cC (cg 0 (ad (aC (.int 1000)) ak)))) (ah (ae bZ (ae rJ (aC (.int 10)) (aC (.int 6))) (ay (av cC (cg 0 (ad (aC (.int 3)) ak))))) aq)))) (ae bZ (aa 1) (aC (.int 4)))))))
theorem Zpy (T:Txt K mg):ACal (ba (K,cn)) P w K mg base "_law_price" 3 ["_law_pen_here"] ou:=bL T.ZoW Zbd rfl λf cdv A outer sh H E hr=>by
 exact (aw (bf (aU (i:=1) Zbd.nd (aI (aJ (dN T) hr (dh (pv 0) (af aA aB))))))
 (aw (cV (cv il dI (ac (pv 1)) aA (nomark _))
  (aK (bA (au bW bV (aI (aJ (dN T) hr (dh (pv 0) (af aA aB)))) (bI (t:=bb) (dY tU rfl T.og boot_int (ai (my ka dI (ac (pv 1)) aA (nomark _)) aF)) Zal))))
  cU)
 (aK (bA (aR aQ aP (cE (dO (ai (aI (aJ (dN T) hr (dh (pv 0) (af aA aB)))) (ai (au cY cP (au rS Zf3 aA aA) (aI (aJ (dN T) hr (dh (pv 0) (af aA aB))))) aF)))) (au cY cP (ac (pv 1)) aA))))))
noncomputable def sF:yq :=
 (iL 3 (ae aE (bU (di (ah (aC (.int 0)) (ah (aC (.int 1)) (ah (ay (av cC (cg 0 (ad (aC (.int 10)) ak)))) (ah (ay (av cC (cg 0 (ad (aC (.int 1001)) ak)))) aq)))))) (ay (av cC (cg 0 (ad (aC (.int 4)) ak))))))
def lU:yr:=bg 3 2
 (ao (jI 3 (di aq))
 (ao (eB (g0 (ah (aa 1) aq)) (aj 4) sF)
 (ao (kM 3 (aa 2) (bh jj (ah (aC (.int 1)) (ah (iK 3 (aa 2)) aq))))
 (kN 3 (bu (bh gy (ah (aa 3) aq)))))))
theorem Zpw (T:Txt K mg):ACal (ba (K,cn)) P w K mg base "_law_weights" 3 ["_law_pen_here","_law_many","_law_at"] lU:=bL T.ZoT qM rfl λf cdv A outer sh H E hr=>by
 exact (aw (mq (aU (i:=3) qM.nd (dO aF)))
 (aw (fh vI rfl (kK (j8 rfl T.fY (ai (ac (pv 1)) aF))) (aO (aN (i:=4) qM.nd))
  (aK (mr (i6 (lF vZ wl wk lM (pv 3) (aV (aR aQ aP (cE (dO (ai aA (ai aA (ai (aI (aJ (dN T) hr (dh (pv 0) (af aA aB)))) (ai (aI (aJ (dN T) hr (dh (pv 0) (af aA aB)))) aF)))))) (aI (aJ (dN T) hr (dh (pv 0) (af aA aB))))) bM))))))
 (aw (ue (dX (bI (t:=bb) (be (tT rfl) rfl T.oa boot_max (ai aA (ai (pD (ac (pv 2)) (pv 3) (λ_ _=>rfl)) aF))) qg) (rN (pv 3) (ac (pv 2)) la)))
 (aK (pj (k:=3) (bA (bI (t:=bb) (dY mj rfl T.fX boot_tuple (ai (ac (pv 3)) aF)) kU)))))))
noncomputable def rC:yn :=
 (ay (av oB (ad (aa 2) (ad (aa 0) (ad (aa 1) ak)))))
def oA:yr:=bg 2 1
 (ao (aX 2 (ay (av fD (ad (aa 0) ak))))
 (ao (cz (g6 (fM (fj (g9 "tuple" (aa 1)))) (bE (ae dq (bh dt (ah (aa 1) aq)) (bh dt (ah (aa 2) aq)))))
  (bu (aC (.bool false)))
  cy)
 (bu (bh mv (ah (bU (db (jH (aa 2) (aa 1)) 2 [0] (bv (az (aj 0) (az (aj 1) br))) rC)) aq)))))
theorem ZpF (T:Txt K mg):ACal (ba (K,cn)) P w K mg base "is_levels" 4 ["shop","thing"] oA:=bL T.ZoF Zbb rfl λf cdv A outer sh H E hr=>by
 exact (aw (bf (aU (i:=2) Zbb.nd (aI (aJ (iG T) hr (af (ac (pv 0)) aB)))))
 (aw (cV (iH (jD (gX (gm (jG (T:="tuple") (Or.inr (Or.inr (Or.inr (Or.inr (.inl rfl))))) rfl (be jC rfl T.fZ boot_isinstance (aV (ac (pv 1)) (aV (ik (v:=.ty "tuple") rfl T.fX boot_tuple rfl) bM)))))) (kI (cv (gK hr) gw (bI (t:=bb) (be eM rfl T.eJ boot_len (ai (ac (pv 1)) aF)) fQ) (bI (t:=bb) (be eM rfl T.eJ boot_len (ai (ac (pv 2)) aF)) fQ) (nomark _)))))
  (aK (bA eA))
  cU)
 (aK (bA (bI (t:=bb) (be (ZeY rfl) rfl T.Zc4 boot_all (ai (cE (fi (eX mO ["stock","level"] [0] rfl (mx (lD rfl rfl T.lL (ac (pv 2)) (ac (pv 1)))) (λb=>(cM rfl (aZ (aO (aN (i:=0) (show ((bN mO ["stock","level"] [0])).Nodup by trivial))) (aZ (aO (aN (i:=1) (show ((bN mO ["stock","level"] [0])).Nodup by trivial))) cL)) (aY (aY cI)))) (λb=>(aI (aJ (ZpG T) hr (af (ac (pv 2)) (af (ac (pv 0)) (af (ac (pv 1)) aB)))))) rfl (show BlkOk mO (aG qT) _ [0] by trivial)) (j6 (eW (cQ (by decide)) (eW (cQ (by decide)) j7))))) aF)) Zam)))))
noncomputable def sH:yq :=
 (iL 6 (ae aS (ae bD (aa 5) (ay (av jm (ad (aa 0) (ad (aa 7) (ad (aa 8) ak)))))) (ay (av jl (ad (aa 0) (ad (aa 1) (ad (aa 8) (ad (aa 3) (ad (aa 4) ak)))))))))
def oE:yr:=bg 5 4
 (ao (aX 5 (ae bD (aa 4) (bh dD (ah (aa 1) aq))))
 (ao (jI 6 (di aq))
 (ao (eB (jH (ay (av fD (ad (aa 0) ak))) (aa 2)) (bv (az (aj 7) (az (aj 8) br))) sH)
 (gt 6))))
theorem ZpL (T:Txt K mg):ACal (ba (K,cn)) P w K mg base "costs_by" 4 ["shop","day","levels","ahead","scale"] oE:=bL T.ZoN lf rfl λf cdv A outer sh H E hr=>by
 exact (aw (bf (aU (i:=5) lf.nd (au bW bV (ac (pv 4)) (bI (t:=bb) (be (gT rfl) rfl T.gM boot_sum (ai (ac (pv 1)) aF)) gx))))
 (aw (mq (aU (i:=6) lf.nd (dO aF)))
 (aw (fh vI rfl (mx (lD rfl rfl T.lL (aI (aJ (iG T) hr (af (ac (pv 0)) aB))) (ac (pv 2)))) (cM rfl (aZ (aO (aN (i:=7) lf.nd)) (aZ (aO (aN (i:=8) lf.nd)) cL)) (aY (aY cI)))
  (aK (mr (i6 (lF vZ wl wk lM (pv 6) (aV (au bz bx (au bW bV (ac (pv 5)) (aI (aJ (tV T) hr (af (ac (pv 0)) (af (ac (pv 7)) (af (ac (pv 8)) aB)))))) (aI (aJ (o9 T) hr (af (ac (pv 0)) (af (ac (pv 1)) (af (ac (pv 8)) (af (ac (pv 3)) (af (ac (pv 4)) aB)))))))) bM))))))
 (aK (ph (pv 6))))))
noncomputable def rz:yn :=
 (ae aS (ae bD (ae bD (aa 5) (ae aE (aa 1) (aC (.int 3)))) (aa 0)) (ay (av jl (ad (aa 1) (ad (aa 2) (ad (aa 0) (ad (aa 3) (ad (aa 4) ak))))))))
def lT:yr:=bg 4 1
 (ao (aX 4 (ae bD (aa 3) (bh dD (ah (aa 1) aq))))
 (uw (db (fk (ay (av fD (ad (aa 0) ak)))) 1 [0,1,2,3,4] (aj 0) rz)))
theorem Ze1 (T:Txt K mg):ACal (ba (K,cn)) P w K mg base "level_sums" 4 ["shop","day","ahead","scale"] lT:=bL T.ZoA Zba rfl λf cdv A outer sh H E hr=>by
 exact (aw (bf (aU (i:=4) Zba.nd (au bW bV (ac (pv 3)) (bI (t:=bb) (be (gT rfl) rfl T.gM boot_sum (ai (ac (pv 1)) aF)) gx))))
 (aK (ZpY (fi (eX pW ["level"] [0,1,2,3,4] rfl (gq (aI (aJ (iG T) hr (af (ac (pv 0)) aB)))) (λb=>(aO (aN (i:=0) (show ((bN pW ["level"] [0,1,2,3,4])).Nodup by trivial)))) (λb=>(au bz bx (au bW bV (au bW bV (ac (pv 5)) (aR aQ aP (ac (pv 1)) (bO rfl T.sU))) (ac (pv 0))) (aI (aJ (o9 T) hr (af (ac (pv 1)) (af (ac (pv 2)) (af (ac (pv 0)) (af (ac (pv 3)) (af (ac (pv 4)) aB))))))))) rfl (show BlkOk pW (aG qQ) _ [0,1,2,3,4] by trivial)) (cQ (by decide))))))
noncomputable def oI:yq :=
 (jJ (λi j=>i - j) 4 (ae aS (ay (av jn (ad (aa 0) (ad (aa 3) (ad (aa 5) ak))))) (ae aE (aa 0) (aC (.int 1)))) (aa 6))
def oC:yr:=bg 4 5
 (ao (jI 4 (pO j4 (bU (di (ah (aC (.int 0)) aq))) (ae aS (ae aS (ae aE (aa 0) (aC (.int 0))) (ae aE (aa 0) (aC (.int 1)))) (aC (.int 1)))))
 (ao (jJ (λi j=>i+j) 4 (ae aS (aa 2) (ae aE (aa 0) (aC (.int 1)))) (bh dD (ah (aa 1) aq)))
 (ao (eB (mG (aa 1)) (bv (az (aj 5) (az (aj 6) br))) oI)
 (ao (kM 4 (aC (.int 0)) (bh dD (ah (aa 1) aq)))
 (ao (aX 7 (ae bD (bU (di (ah (aC (.int 0)) aq))) (mH dt (kL 4 ak))))
 (ao (aX 8 (ae aS (ae bD (bh dD (ah (aa 1) aq)) (ay (av jm (ad (aa 0) (ad (aa 2) (ad (aa 3) ak)))))) (ay (av jl (ad (aa 0) (ad (aa 1) (ad (aa 3) (ad (aa 7) (ad (aC (.int 1)) ak)))))))))
 (kN 4 (bu (ae aS (aa 4) (bU (di (ah (aa 8) aq))))))))))))
theorem ZpJ (T:Txt K mg):ACal (ba (K,cn)) P w K mg base "equation" 4 ["shop","one","stock","level"] oC:=bL T.ZoL jX rfl λf cdv A outer sh H E hr=>by
 exact (aw (mq (aU (i:=4) jX.nd (Zp1 ZcS Zf2 (cE (dO (ai aA aF))) (au bz bx (au bz bx (aR aQ aP (ac (pv 0)) (bO rfl T.gQ)) (aR aQ aP (ac (pv 0)) (bO rfl T.dF))) aA))))
 (aw (Zfs (Zcv (pv 4) (au bz bx (ac (pv 2)) (aR aQ aP (ac (pv 0)) (bO rfl T.dF))) ZdS (bI (t:=bb) (be (gT rfl) rfl T.gM boot_sum (ai (ac (pv 1)) aF)) gx) ZkJ la))
 (aw (fh vI rfl (uj (rM rfl rfl T.r8 (ac (pv 1)))) (cM rfl (aZ (aO (aN (i:=5) jX.nd)) (aZ (aO (aN (i:=6) jX.nd)) cL)) (aY (aY cI)))
  (aK (Zfs (Zcv (pv 4) (au bz bx (aI (aJ (tW T) hr (af (ac (pv 0)) (af (ac (pv 3)) (af (ac (pv 5)) aB))))) (aR aQ aP (ac (pv 0)) (bO rfl T.dF))) ZdS (ac (pv 6)) ZkI la))))
 (aw (ue (dX (bI (t:=bb) (be (gT rfl) rfl T.gM boot_sum (ai (ac (pv 1)) aF)) gx) (rN (pv 4) aA la)))
 (aw (bf (aU (i:=7) jX.nd (au bW bV (cE (dO (ai aA aF))) (uq rK (be eM rfl T.eJ boot_len (ut (pv 4) ur)) fQ))))
 (aw (bf (aU (i:=8) jX.nd (au bz bx (au bW bV (bI (t:=bb) (be (gT rfl) rfl T.gM boot_sum (ai (ac (pv 1)) aF)) gx) (aI (aJ (tV T) hr (af (ac (pv 0)) (af (ac (pv 2)) (af (ac (pv 3)) aB)))))) (aI (aJ (o9 T) hr (af (ac (pv 0)) (af (ac (pv 1)) (af (ac (pv 3)) (af (ac (pv 7)) (af aA aB))))))))))
 (aK (pj (k:=4) (bA (au bz bx (ac (pv 4)) (cE (dO (ai (ac (pv 8)) aF)))))))))))))
noncomputable def rn:yn :=
 (ay (av jl (ad (aa 1) (ad (aa 2) (ad (aa 0) (ad (aa 3) (ad (aa 4) ak)))))))
noncomputable def kr:yq :=
 (cz (bE (ae (c6 λi j=>decide (i < j)) (ae aS (ae bD (aa 5) (ay (av jm (ad (aa 0) (ad (aa 7) (ad (aa 9) ak)))))) (ae aE (aa 6) (ae aS (aa 9) (ae aE (aa 0) (aC (.int 1)))))) (aa 8)))
  (bu (aC (.bool false)))
  cy)
noncomputable def kn:yq :=
 (eB (uv (ah (aa 7) (ah (ae aS (ae aE (aa 0) (aC (.int 0))) (aC (.int 1))) aq))) (aj 9) kr)
def kg:yr:=bg 5 5
 (ao (aX 5 (ae bD (aa 4) (bh dD (ah (aa 1) aq))))
 (ao (aX 6 (bU (db (fk (ay (av fD (ad (aa 0) ak)))) 1 [0,1,3,4] (aj 0) rn)))
 (ao (eB (jH (ay (av fD (ad (aa 0) ak))) (aa 2)) (bv (az (aj 7) (az (aj 8) br))) kn)
 (bu (aC (.bool true))))))
theorem Zpq (T:Txt K mg):ACal (ba (K,cn)) P w K mg base "none_less" 4 ["shop","day","costs","ahead","scale"] kg:=bL T.Zow jU rfl λf cdv A outer sh H E hr=>by
 exact (aw (bf (aU (i:=5) jU.nd (au bW bV (ac (pv 4)) (bI (t:=bb) (be (gT rfl) rfl T.gM boot_sum (ai (ac (pv 1)) aF)) gx))))
 (aw (Zfp (Zcs (i:=6) pV ["level"] [0,1,3,4] rfl jU.nd rfl rfl (gq (aI (aJ (iG T) hr (af (ac (pv 0)) aB)))) (λb=>(aO (aN (i:=0) (show ((bN pV ["level"] [0,1,3,4])).Nodup by trivial)))) (λb=>(aI (aJ (o9 T) hr (af (ac (pv 1)) (af (ac (pv 2)) (af (ac (pv 0)) (af (ac (pv 3)) (af (ac (pv 4)) aB)))))))) rfl (show BlkOk pV (aG qO) _ [0,1,3,4] by trivial) rfl) (cQ (by decide)))
 (aw (fh vI rfl (mx (lD rfl rfl T.lL (aI (aJ (iG T) hr (af (ac (pv 0)) aB))) (ac (pv 2)))) (cM rfl (aZ (aO (aN (i:=7) jU.nd)) (aZ (aO (aN (i:=8) jU.nd)) cL)) (aY (aY cI)))
  (aK (fh vI rfl (Zqa (ZiB rfl T.fY (ai (ac (pv 7)) (ai (au bz bx (aR aQ aP (ac (pv 0)) (bO rfl T.gQ)) aA) aF)))) (aO (aN (i:=9) jU.nd))
  (aK (cV (cv il dI (au bz bx (au bW bV (ac (pv 5)) (aI (aJ (tV T) hr (af (ac (pv 0)) (af (ac (pv 7)) (af (ac (pv 9)) aB)))))) (aR aQ aP (ac (pv 6)) (au bz bx (ac (pv 9)) (aR aQ aP (ac (pv 0)) (bO rfl T.dF))))) (ac (pv 8)) (nomark _))
  (aK (bA eA))
  cU)))))
 (aK (bA eA)))))
noncomputable def rB:yn :=
 (ay (av ou (cg 1 ak)))
def ot:yr:=bg 1 5
 (ao (aX 1 (ay (av cC (cg 0 (ad (aC (.int 6)) ak)))))
 (ao (aX 2 (ay (av cC (cg 0 (ad (aC (.int 8)) ak)))))
 (ao (cz (bE (ae dg (aa 1) (aC (.int 5))))
  (aX 2 (ae aS (aC (.int 8)) (ay (av cC (cg 0 (ad (aC (.int 32)) ak))))))
  cy)
 (ao (aX 3 (ay (av cC (cg 0 (ad (ae aS (aa 2) (aC (.int 1))) ak)))))
 (ao (aX 4 (bh lO (ah (aC (.int 7)) (ah (bh jj (ah (aC (.int 0)) (ah (ae aS (aa 2) (ae aE (bU (di (ah (aC (.int 0)) (ah (ae bZ (aC (.int 0)) (aC (.int 1))) (ah (aC (.int 1)) (ah (ae aS (ae bZ (aC (.int 0)) (aa 2)) (ay (av cC (cg 0 (ad (aC (.int 8)) ak))))) (ah (aC (.int 0)) (ah (aC (.int 0)) aq)))))))) (aa 1))) aq))) aq))))
 (ao (aX 5 (ae aS (ay (av lU (cg 0 (ad (ae aS (aa 4) (aC (.int 1))) (ad (aa 4) ak))))) (ae gF (cj (ah (aC (.int 0)) aq)) (ay (av cC (cg 0 (ad (ae bZ (aC (.int 8)) (aa 4)) ak)))))))
 (bu (cj (ah (ae aS (cj (ah (ae bZ (aa 2) (aa 3)) (ah (aa 3) aq))) (bh gy (ah (bU (db (g0 (ah (aC (.int 7)) aq)) 1 [0] (aj 0) rB)) aq))) (ah (aa 5) (ah (aa 4) aq)))))))))))
theorem Zpx (T:Txt K mg):ACal (ba (K,cn)) P w K mg base "_law_shop" 4 ["_law_pen_here"] ot:=bL T.ZoV iW rfl λf cdv A outer sh H E hr=>by
 exact (aw (bf (aU (i:=1) iW.nd (aI (aJ (dN T) hr (dh (pv 0) (af aA aB))))))
 (aw (bf (aU (i:=2) iW.nd (aI (aJ (dN T) hr (dh (pv 0) (af aA aB))))))
 (aw (cV (cv (im hr) hY (ac (pv 1)) aA (nomark _))
  (aK (bf (aU (i:=2) iW.nd (au bz bx aA (aI (aJ (dN T) hr (dh (pv 0) (af aA aB))))))))
  cU)
 (aw (bf (aU (i:=3) iW.nd (aI (aJ (dN T) hr (dh (pv 0) (af (au bz bx (ac (pv 2)) aA) aB))))))
 (aw (bf (aU (i:=4) iW.nd (bI (t:=bb) (be (Zpf rfl) rfl T.n6 boot_min (ai aA (ai (bI (t:=bb) (be (tT rfl) rfl T.oa boot_max (ai aA (ai (au bz bx (ac (pv 2)) (aR aQ aP (cE (dO (ai aA (ai (au cY cP aA aA) (ai aA (ai (au bz bx (au cY cP aA (ac (pv 2))) (aI (aJ (dN T) hr (dh (pv 0) (af aA aB))))) (ai aA (ai aA aF)))))))) (ac (pv 1)))) aF))) qg) aF))) Zf7)))
 (aw (bf (aU (i:=5) iW.nd (au bz bx (aI (aJ (Zpw T) hr (dh (pv 0) (af (au bz bx (ac (pv 4)) aA) (af (ac (pv 4)) aB))))) (au ZcR Zai (cD (ai aA aF)) (aI (aJ (dN T) hr (dh (pv 0) (af (au cY cP aA (ac (pv 4))) aB))))))))
 (aK (bA (cD (ai (au bz bx (cD (ai (au cY cP (ac (pv 2)) (ac (pv 3))) (ai (ac (pv 3)) aF))) (bI (t:=bb) (dY mj rfl T.fX boot_tuple (ai (cE (fi (eX pZ ["_law_k"] [0] rfl (kK (j8 rfl T.fY (ai aA aF))) (λb=>(aO (aN (i:=0) (show ((bN pZ ["_law_k"] [0])).Nodup by trivial)))) (λb=>(aI (aJ (Zpy T) hr (dh (pv 1) aB)))) rfl (show BlkOk pZ (aG qW) _ [0] by trivial)) (cQ (by decide)))) aF)) kU)) (ai (ac (pv 5)) (ai (ac (pv 4)) aF))))))))))))
noncomputable def lx:yn :=
 (ay (av oC (ad (aa 2) (ad (aa 3) (ad (aa 0) (ad (aa 1) ak))))))
def iA:yr:=bg 3 2
 (ao (eP (bv (az (aj 3) (az (aj 4) br))) (ay (uz on (db (jH (ay (av fD (ad (aa 0) ak))) (aa 2)) 2 [0,1] (bv (az (aj 0) (az (aj 1) br))) lx))))
 (bu (cj (ah (ae aE (aa 3) (aC (.int 0))) (ah (ae aS (bU (di (ah (aC (.int 0)) aq))) (pG (aa 3) (mF (aC (.int 1))) pJ)) (ah (aa 4) aq))))))
theorem Ze0 (T:Txt K mg):ACal (ba (K,cn)) P w K mg base "mean_and_worths" 5 ["shop","one","levels"] iA:=bL T.Zoy qI rfl λf cdv A outer sh H E hr=>by
 exact (aw (fK (dX (aI (Zp0 (Zpn T) (hr.mono (by decide)) rfl (fi (eX mM ["stock","level"] [0,1] rfl (mx (lD rfl rfl T.lL (aI (aJ (iG T) hr (af (ac (pv 0)) aB))) (ac (pv 2)))) (λb=>(cM rfl (aZ (aO (aN (i:=0) (show ((bN mM ["stock","level"] [0,1])).Nodup by trivial))) (aZ (aO (aN (i:=1) (show ((bN mM ["stock","level"] [0,1])).Nodup by trivial))) cL)) (aY (aY cI)))) (λb=>(aI (aJ (ZpJ T) hr (af (ac (pv 2)) (af (ac (pv 3)) (af (ac (pv 0)) (af (ac (pv 1)) aB))))))) rfl (show BlkOk mM (aG qP) _ [0,1] by trivial)) (j6 (eW (cQ (by decide)) (eW (cQ (by decide)) j7)))))) (cM rfl (aZ (aO (aN (i:=3) qI.nd)) (aZ (aO (aN (i:=4) qI.nd)) cL)) (aY (aY cI)))))
 (aK (bA (cD (ai (aR aQ aP (ac (pv 3)) aA) (ai (au bz bx (cE (dO (ai aA aF))) (ZfC (ac (pv 3)) (Zfx aA) Zfy)) (ai (ac (pv 4)) aF)))))))
def jq:yr:=bg 2 3
 (ao (cz (g6 (fM (fj (g9 "tuple" (aa 1)))) (bE (ae dq (bh dt (ah (aa 1) aq)) (aC (.int 3)))))
  (bu (aC (.bool false)))
  cy)
 (ao (eP (bv (az (aj 2) (az (aj 3) (az (aj 4) br)))) (aa 1))
 (bu (jK (ay (av oz (ad (aa 2) ak))) (jK (ay (av ox (ad (aa 0) (ad (aa 3) ak)))) (ay (av oA (ad (aa 0) (ad (aa 4) ak)))))))))
theorem ZpH (T:Txt K mg):ACal (ba (K,cn)) P w K mg base "is_lasting_paper" 5 ["shop","thing"] jq:=bL T.ZoH nq rfl λf cdv A outer sh H E hr=>by
 exact (aw (cV (iH (jD (gX (gm (jG (T:="tuple") (Or.inr (Or.inr (Or.inr (Or.inr (.inl rfl))))) rfl (be jC rfl T.fZ boot_isinstance (aV (ac (pv 1)) (aV (ik (v:=.ty "tuple") rfl T.fX boot_tuple rfl) bM)))))) (kI (cv (gK hr) gw (bI (t:=bb) (be eM rfl T.eJ boot_len (ai (ac (pv 1)) aF)) fQ) aA (nomark _)))))
 (aK (bA eA))
 cU)
 (aw (fK (dX (ac (pv 1)) (cM rfl (aZ (aO (aN (i:=2) nq.nd)) (aZ (aO (aN (i:=3) nq.nd)) (aZ (aO (aN (i:=4) nq.nd)) cL))) (aY (aY (aY cI))))))
 (aK (bA (mB (aI (aJ (Ze3 T) hr (af (ac (pv 2)) aB))) (mB (aI (aJ (ZpD T) hr (af (ac (pv 0)) (af (ac (pv 3)) aB)))) (pC (aI (aJ (ZpF T) hr (af (ac (pv 0)) (af (ac (pv 4)) aB)))))))))))
noncomputable def rD:yn :=
 (aa 1)
noncomputable def qf:yp :=
 (bE (aC (.bool true)))
noncomputable def l8:yq :=
 (ao (eP (bv (az (aj 3) (az (aj 4) (az (aj 5) br)))) (ay (av iA (ad (aa 0) (ad (aa 1) (ad (aa 2) ak))))))
 (ao (aX 6 (ay (av kl (ad (aa 0) (ad (ay (av lT (ad (aa 0) (ad (aa 1) (ad (aa 4) (ad (aa 5) ak)))))) (ad (ae bD (aa 5) (bh dD (ah (aa 1) aq))) ak))))))
 (ao (aX 7 (bU (db (fk (aa 6)) 2 [] (bv (az (aj 0) (az (aj 1) br))) rD)))
 (ao (cz (bE (ae dg (aa 7) (aa 2)))
  (bu (cj (ah (aa 3) (ah (aa 4) (ah (aa 5) (ah (aa 2) aq))))))
  cy)
 (aX 2 (aa 7))))))
def lY:yr:=bg 2 6
 (ao (aX 2 (bU (pM lZ (ah (ay (av fD (ad (aa 0) ak))) aq))))
 (cN qf l8 100000))
theorem Ze6 (T:Txt K mg):ACal (ba (K,cn)) P w K mg base "best_of_all" 6 ["shop","one"] lY:=bL T.ZoR ig rfl λf cdv A outer sh H E hr=>by
 exact (aw (bf (aU (i:=2) ig.nd (cE (Zp3 (t:=bb) (dY ZeX rfl T.Zc2 boot_list (ai (aI (aJ (iG T) hr (af (ac (pv 0)) aB))) aF)) Zga))))
 (aK (ud 100000 vI (ZpU eA)
  (aw (fK (dX (aI (aJ (Ze0 T) hr (af (ac (pv 0)) (af (ac (pv 1)) (af (ac (pv 2)) aB))))) (cM rfl (aZ (aO (aN (i:=3) ig.nd)) (aZ (aO (aN (i:=4) ig.nd)) (aZ (aO (aN (i:=5) ig.nd)) cL))) (aY (aY (aY cI))))))
 (aw (bf (aU (i:=6) ig.nd (aI (aJ (Ze5 T) hr (af (ac (pv 0)) (af (aI (aJ (Ze1 T) hr (af (ac (pv 0)) (af (ac (pv 1)) (af (ac (pv 4)) (af (ac (pv 5)) aB)))))) (af (au bW bV (ac (pv 5)) (bI (t:=bb) (be (gT rfl) rfl T.gM boot_sum (ai (ac (pv 1)) aF)) gx)) aB)))))))
 (aw (Zfp (Zcs (i:=7) mQ ["cost","level"] [] rfl ig.nd rfl rfl (gq (ac (pv 6))) (λb=>(cM rfl (aZ (aO (aN (i:=0) (show ((bN mQ ["cost","level"] [])).Nodup by trivial))) (aZ (aO (aN (i:=1) (show ((bN mQ ["cost","level"] [])).Nodup by trivial))) cL)) (aY (aY cI)))) (λb=>(ac (pv 1))) rfl (show BlkOk mQ (aG qV) _ [] by trivial) rfl) (j6 (eW (cQ (by decide)) (eW (cQ (by decide)) j7))))
 (aw (cV (cv (im hr) hY (ac (pv 7)) (ac (pv 2)) (nomark _))
  (aK (bA (cD (ai (ac (pv 3)) (ai (ac (pv 4)) (ai (ac (pv 5)) (ai (ac (pv 2)) aF)))))))
  cU)
 (aK (bf (aU (i:=2) ig.nd (ac (pv 7))))))))))))
def kh:yr:=bg 3 3
 (ao (kO (ay (av gO (ad (aa 0) (ad (aa 1) ak)))))
 (ao (eP (bv (az (aj 3) (az (aj 4) (az (aj 5) br)))) (ay (av iA (ad (aa 0) (ad (aa 1) (ad (aa 2) ak))))))
 (iJ (av gN (ad (aa 3) (ad (aa 5) ak))))))
theorem Zps (T:Txt K mg):ACal (ba (K,cn)) P w K mg base "mean_of" 6 ["shop","one","levels"] kh:=bL T.ZeB lc rfl λf cdv A outer sh H E hr=>by
 exact (aw (pq (aI (aJ (pd T) hr (af (ac (pv 0)) (af (ac (pv 1)) aB)))))
 (aw (fK (dX (aI (aJ (Ze0 T) hr (af (ac (pv 0)) (af (ac (pv 1)) (af (ac (pv 2)) aB))))) (cM rfl (aZ (aO (aN (i:=3) lc.nd)) (aZ (aO (aN (i:=4) lc.nd)) (aZ (aO (aN (i:=5) lc.nd)) cL))) (aY (aY (aY cI))))))
 (aK (kJ (aJ (ml T) hr (af (ac (pv 3)) (af (ac (pv 5)) aB)))))))
noncomputable def rA:yn :=
 (ay (av gN (ad (aa 0) (ad (ae bD (aa 1) (bh dD (ah (aa 2) aq))) ak))))
noncomputable def Zcm:yn :=
 (ay (av Zdd (ad (aa 1) (ad (aa 0) ak))))
def fb:yr:=bg 3 6
 (ao (kO (ay (av gO (ad (aa 0) (ad (aa 1) ak)))))
 (ao (cz (fM (fj (ay (av jq (ad (aa 0) (ad (aa 2) ak))))))
  (bu (aC (.bool false)))
  cy)
 (ao (eP (bv (az (aj 3) (az (aj 4) (az (aj 5) br)))) (aa 2))
 (ao (eP (bv (az (aj 6) (az (aj 7) br))) (ay (av oo (ad (aa 4) ak))))
 (ao (aX 8 (ay (av oE (ad (aa 0) (ad (aa 1) (ad (aa 5) (ad (aa 6) (ad (aa 7) ak))))))))
 (ao (cz (bE (ae dq (bU (db (fk (aa 8)) 1 [7,1] (aj 0) rA)) (bU (db (fk (aa 4)) 1 [3] (aj 0) Zcm))))
  (bu (aC (.bool false)))
  cy)
 (iJ (av kg (ad (aa 0) (ad (aa 1) (ad (aa 8) (ad (aa 6) (ad (aa 7) ak)))))))))))))
theorem Ze2 (T:Txt K mg):ACal (ba (K,cn)) P w K mg base "lets_lasting" 6 ["shop","one","thing"] fb:=bL T.ZeC ia rfl λf cdv A outer sh H E hr=>by
 exact (aw (pq (aI (aJ (pd T) hr (af (ac (pv 0)) (af (ac (pv 1)) aB)))))
 (aw (cV (gX (gm (aI (aJ (ZpH T) hr (af (ac (pv 0)) (af (ac (pv 2)) aB))))))
  (aK (bA eA))
  cU)
 (aw (fK (dX (ac (pv 2)) (cM rfl (aZ (aO (aN (i:=3) ia.nd)) (aZ (aO (aN (i:=4) ia.nd)) (aZ (aO (aN (i:=5) ia.nd)) cL))) (aY (aY (aY cI))))))
 (aw (fK (dX (aI (aJ (Zpp T) hr (af (ac (pv 4)) aB))) (cM rfl (aZ (aO (aN (i:=6) ia.nd)) (aZ (aO (aN (i:=7) ia.nd)) cL)) (aY (aY cI)))))
 (aw (bf (aU (i:=8) ia.nd (aI (aJ (ZpL T) hr (af (ac (pv 0)) (af (ac (pv 1)) (af (ac (pv 5)) (af (ac (pv 6)) (af (ac (pv 7)) aB)))))))))
 (aw (cV (cv (gK hr) gw (cE (fi (eX jL ["cost"] [7,1] rfl (gq (ac (pv 8))) (λb=>(aO (aN (i:=0) (show ((bN jL ["cost"] [7,1])).Nodup by trivial)))) (λb=>(aI (aJ (ml T) hr (af (ac (pv 0)) (af (au bW bV (ac (pv 1)) (bI (t:=bb) (be (gT rfl) rfl T.gM boot_sum (ai (ac (pv 2)) aF)) gx)) aB))))) rfl (show BlkOk jL (aG nw) _ [7,1] by trivial)) (cQ (by decide)))) (cE (fi (eX jL ["worth"] [3] rfl (gq (ac (pv 4))) (λb=>(aO (aN (i:=0) (show ((bN jL ["worth"] [3])).Nodup by trivial)))) (λb=>(aI (aJ (Zpo T) hr (af (ac (pv 1)) (af (ac (pv 0)) aB))))) rfl (show BlkOk jL (aG nw) _ [3] by trivial)) (cQ (by decide)))) (nomark _))
  (aK (bA eA))
  cU)
 (aK (kJ (aJ (Zpq T) hr (af (ac (pv 0)) (af (ac (pv 1)) (af (ac (pv 8)) (af (ac (pv 6)) (af (ac (pv 7)) aB))))))))))))))
noncomputable def nD:yn :=
 (ay (av gN (ad (aa 0) (ad (aa 1) ak))))
def jp:yr:=bg 2 4
 (ao (kO (ay (av gO (ad (aa 0) (ad (aa 1) ak)))))
 (ao (eP (bv (az (aj 2) (az (aj 3) (az (aj 4) (az (aj 5) br))))) (ay (av lY (ad (aa 0) (ad (aa 1) ak)))))
 (bu (cj (ah (ay (av gN (ad (aa 2) (ad (aa 4) ak)))) (ah (bh gy (ah (bU (db (fk (aa 3)) 1 [4] (aj 0) nD)) aq)) (ah (bh gy (ah (aa 5) aq)) aq)))))))
theorem ZpC (T:Txt K mg):ACal (ba (K,cn)) P w K mg base "lasting" 7 ["shop","one"] jp:=bL T.ZeE jW rfl λf cdv A outer sh H E hr=>by
 exact (aw (pq (aI (aJ (pd T) hr (af (ac (pv 0)) (af (ac (pv 1)) aB)))))
 (aw (fK (dX (aI (aJ (Ze6 T) hr (af (ac (pv 0)) (af (ac (pv 1)) aB)))) (cM rfl (aZ (aO (aN (i:=2) jW.nd)) (aZ (aO (aN (i:=3) jW.nd)) (aZ (aO (aN (i:=4) jW.nd)) (aZ (aO (aN (i:=5) jW.nd)) cL)))) (aY (aY (aY (aY cI)))))))
 (aK (bA (cD (ai (aI (aJ (ml T) hr (af (ac (pv 2)) (af (ac (pv 4)) aB)))) (ai (bI (t:=bb) (dY mj rfl T.fX boot_tuple (ai (cE (fi (eX pX ["worth"] [4] rfl (gq (ac (pv 3))) (λb=>(aO (aN (i:=0) (show ((bN pX ["worth"] [4])).Nodup by trivial)))) (λb=>(aI (aJ (ml T) hr (af (ac (pv 0)) (af (ac (pv 1)) aB))))) rfl (show BlkOk pX (aG qR) _ [4] by trivial)) (cQ (by decide)))) aF)) kU) (ai (bI (t:=bb) (dY mj rfl T.fX boot_tuple (ai (ac (pv 5)) aF)) kU) aF))))))))
def ki:yr:=bg 2 5
 (ao (kO (ay (av gO (ad (aa 0) (ad (aa 1) ak)))))
 (ao (eP (bv (az (aj 2) (az (aj 3) (az (aj 4) (az (aj 5) br))))) (ay (av lY (ad (aa 0) (ad (aa 1) ak)))))
 (ao (aX 6 (ay (av lT (ad (aa 0) (ad (aa 1) (ad (aa 3) (ad (aa 4) ak)))))))
 (iJ (av oq (ad (aa 0) (ad (aa 6) (ad (ae bD (aa 4) (bh dD (ah (aa 1) aq))) (ad (fN (ae aE (aa 0) (aC (.int 1)))) ak)))))))))
theorem ZpA (T:Txt K mg):ACal (ba (K,cn)) P w K mg base "lasting_marks" 7 ["shop","one"] ki:=bL T.ZeD iV rfl λf cdv A outer sh H E hr=>by
 exact (aw (pq (aI (aJ (pd T) hr (af (ac (pv 0)) (af (ac (pv 1)) aB)))))
 (aw (fK (dX (aI (aJ (Ze6 T) hr (af (ac (pv 0)) (af (ac (pv 1)) aB)))) (cM rfl (aZ (aO (aN (i:=2) iV.nd)) (aZ (aO (aN (i:=3) iV.nd)) (aZ (aO (aN (i:=4) iV.nd)) (aZ (aO (aN (i:=5) iV.nd)) cL)))) (aY (aY (aY (aY cI)))))))
 (aw (bf (aU (i:=6) iV.nd (aI (aJ (Ze1 T) hr (af (ac (pv 0)) (af (ac (pv 1)) (af (ac (pv 3)) (af (ac (pv 4)) aB))))))))
 (aK (kJ (aJ (Zpt T) hr (af (ac (pv 0)) (af (ac (pv 6)) (af (au bW bV (ac (pv 4)) (bI (t:=bb) (be (gT rfl) rfl T.gM boot_sum (ai (ac (pv 1)) aF)) gx)) (af (iI (aR aQ aP (ac (pv 0)) (bO rfl T.dF))) aB))))))))))
def fU:yp:=fF 2 0
 (bE (ae (c6 λi j=>decide (i < j)) (ay (av jr (ad (aa 1) ak))) (ae aS (ae aE (aa 0) (aC (.int 0))) (ae aE (aa 0) (aC (.int 1))))))
theorem pb (T:Txt K mg) {C:Addr} (hC:mg "NoMean"=some (.ref C)) (xc:Xcl K C fI "ValueError.__new__"):CalleeX P w K mg base "ask_lasting" 2 ["shop","one"] (spX (ba (K,cn)) 2 fU C):=by
 refine T.ZeF.okX Zbc (λvs H Q E h=>h.1) (λf cdv A outer s H vs Q E hr h=>?_);refine ⟨_,eI (i5 (tc:=TAt (ba (K,cn)) (bE (ae (c6 λi j=>decide (i < j)) (ay (av jr (ad (aa 1) ak))) (ae aS (ae aE (aa 0) (aC (.int 0))) (ae aE (aa 0) (aC (.int 1))))))) (cv il dI (aI (aJ (Ze4 T) hr (af (ac (pv 1)) aB))) (au bz bx (aR aQ aP (ac (pv 0)) (bO rfl T.gQ)) (aR aQ aP (ac (pv 0)) (bO rfl T.dF))) (nomark _)) (eI (Zit F.excBase_ValueError xc rfl hC)) i0),?_⟩;exact ZfX rfl h
def je:yp:=fF 2 4
 λρ=>(ad (aa 0) (ad (aa 1) ak) ρ).bind fU
theorem ZpB (T:Txt K mg) {C:Addr} (hC:mg "NoMean"=some (.ref C)) (xc:Xcl K C fI "ValueError.__new__"):CalleeX P w K mg base "lasting" 7 ["shop","one"] (spX (ba (K,cn)) 2 je C):=by
 obtain ⟨fs,fds,FS,hms,hks,hbs⟩:=(pb (P:=P) (w:=w) (base:=base) (cn:=cn) T hC xc).ex;refine T.ZeE.okX jW (λvs H Q E h=>h.1) (λf cdv A outer s H vs Q E hr h=>?_);refine ⟨_,cG (nF FS (hr.mono (by decide)) rfl hms hks hbs (af (PK:=(ba (K,cn))) (ac (pv 0)) (af (ac (pv 1)) aB))) nE,?_⟩
 exact mU rfl iD h
def jb:yp:=fF 3 3
 λρ=>(ad (aa 0) (ad (aa 1) ak) ρ).bind fU
theorem Zpr (T:Txt K mg) {C:Addr} (hC:mg "NoMean"=some (.ref C)) (xc:Xcl K C fI "ValueError.__new__"):CalleeX P w K mg base "mean_of" 6 ["shop","one","levels"] (spX (ba (K,cn)) 3 jb C):=by
 obtain ⟨fs,fds,FS,hms,hks,hbs⟩:=(pb (P:=P) (w:=w) (base:=base) (cn:=cn) T hC xc).ex;refine T.ZeB.okX lc (λvs H Q E h=>h.1) (λf cdv A outer s H vs Q E hr h=>?_);refine ⟨_,cG (nF FS (hr.mono (by decide)) rfl hms hks hbs (af (PK:=(ba (K,cn))) (ac (pv 0)) (af (ac (pv 1)) aB))) nE,?_⟩
 exact mU rfl iD h
def jd:yp:=fF 2 5
 λρ=>(ad (aa 0) (ad (aa 1) ak) ρ).bind fU
theorem Zpz (T:Txt K mg) {C:Addr} (hC:mg "NoMean"=some (.ref C)) (xc:Xcl K C fI "ValueError.__new__"):CalleeX P w K mg base "lasting_marks" 7 ["shop","one"] (spX (ba (K,cn)) 2 jd C):=by
 obtain ⟨fs,fds,FS,hms,hks,hbs⟩:=(pb (P:=P) (w:=w) (base:=base) (cn:=cn) T hC xc).ex;refine T.ZeD.okX iV (λvs H Q E h=>h.1) (λf cdv A outer s H vs Q E hr h=>?_);refine ⟨_,cG (nF FS (hr.mono (by decide)) rfl hms hks hbs (af (PK:=(ba (K,cn))) (ac (pv 0)) (af (ac (pv 1)) aB))) nE,?_⟩
 exact mU rfl iD h
def jc:yp:=fF 3 6
 λρ=>(ad (aa 0) (ad (aa 1) ak) ρ).bind fU
theorem Zpu (T:Txt K mg) {C:Addr} (hC:mg "NoMean"=some (.ref C)) (xc:Xcl K C fI "ValueError.__new__"):CalleeX P w K mg base "lets_lasting" 6 ["shop","one","thing"] (spX (ba (K,cn)) 3 jc C):=by
 obtain ⟨fs,fds,FS,hms,hks,hbs⟩:=(pb (P:=P) (w:=w) (base:=base) (cn:=cn) T hC xc).ex;refine T.ZeC.okX ia (λvs H Q E h=>h.1) (λf cdv A outer s H vs Q E hr h=>?_);refine ⟨_,cG (nF FS (hr.mono (by decide)) rfl hms hks hbs (af (PK:=(ba (K,cn))) (ac (pv 0)) (af (ac (pv 1)) aB))) nE,?_⟩
 exact mU rfl iD h
theorem Zpv (T:Txt K mg) {C D a0 a1 a2 a3 a4 a5 a6:Addr} (hC:mg "NoMean"=some (.ref C)) (hD:mg "ShopError"=some (.ref D)) (h0:mg "NoBack"=some (.ref a0)) (h1:mg "NoFall"=some (.ref a1)) (h2:mg "NoLevel"=some (.ref a2)) (h3:mg "NoRow"=some (.ref a3)) (h4:mg "NoShare"=some (.ref a4)) (h5:mg "NoStand"=some (.ref a5)) (h6:mg "NoText"=some (.ref a6)) (xc:Exc K C D [a0,a1,a2,a3,a4,a5,a6]) :
  Callee P w K mg base "_law_word" 9 ["_law_ask"] (qy P w K mg base (9 - 1) C):=by
 refine T.ZoS.ok nt (λvs H Q E h=>h.1) λf cdv A outer sh H vs Q E hr hsp=>?_;obtain ⟨hv,fl,sp,Q0,E0,rfl,LP,hs,hQ0,hE0⟩:=hsp;refine ⟨_,cG (aU (i:=1) nt.nd ZcF)
  (cG (Zis (i:=2) (j:=0) (k:=9 - 1) rfl rfl nt.nd (hr.mono (by decide)) rfl (.inl rfl) xc.un rfl hD rfl rfl (.inl rfl) (.inl rfl) (λea=>eI (aU (i:=1) nt.nd (pv 2))))
  (cG (i5 (Zip (Zi0 (pv 1)) (nomark _)) (eI (eV cX)) i0)
  (cG (i5 (Zcr (be (Zpi xc.ci xP (by trivial) sj) rfl T.fZ rfl (aV (pv 1) (aV (rO (aV (gI (v:=.ref a0) rfl h0 rfl) (aV (gI (v:=.ref a1) rfl h1 rfl) (aV (gI (v:=.ref a2) rfl h2 rfl) (aV (gI (v:=.ref a3) rfl h3 rfl) (aV (gI (v:=.ref a4) rfl h4 rfl) (aV (gI (v:=.ref a5) rfl h5 rfl) (aV (gI (v:=.ref a6) rfl h6 rfl) bM)))))))) bM)))) (eI (eV cX)) i0)
  (eI (eV (lE oK (ZcG (aV cX (aV cX bM))) (dY tU rfl T.og boot_int (aV (ZcH (be (Zpk xc.ci xP (by trivial) sj) rfl T.fZ rfl (aV (pv 1) (aV (gI (v:=.ref C) rfl hC rfl) bM))) (ZcE (be (Zpj xc.ci xP (by trivial) sj) rfl T.fZ rfl (aV (pv 1) (aV (ik (v:=.ty "ValueError") rfl T.ZjD ZpO rfl) bM))))) bM)) (λ_ _=>rfl))))))),?_⟩
 refine ⟨fl,sp,Q0,E0,rfl,LP,hs,λv H' h=>?_,λcls t H' h=>?_⟩
 ·exact ⟨.non,rfl,true,congrArg V.bl (decide_eq_true rfl),hQ0 v H' h⟩
 ·obtain ⟨rfl,hn⟩:=hE0 cls t H' h;refine ⟨rfl,λea hea=>⟨.ref ea,rfl,.ref ea,rfl,false,congrArg V.bl (decide_eq_false nofun),?_⟩⟩;refine ⟨.ref ea,rfl,by show 7<=sizeLine; decide,λp hp=>?_⟩
  have hne:ea≠p:=λe=>by rw [e,bq] at hp; cases hp
  have hat:upd (upd H' ea (.ext (dl ea (.ref C)))) p (.tup [.ref a0,.ref a1,.ref a2,.ref a3,.ref a4,.ref a5,.ref a6]) ea=some (.ext (dl ea (.ref C))):=by rw [ap hne,bq]
  refine ⟨ea,p,[a0,a1,a2,a3,a4,a5,a6],false,rfl,hat,bq,xc.any,false,rfl,?_⟩;refine ⟨by show 2<=sizeLine; decide,λq hq=>?_⟩
  have hneq:ea≠q:=λe=>by rw [<- e,hat] at hq; cases hq
  have hat2:upd (upd (upd H' ea (.ext (dl ea (.ref C)))) p (.tup [.ref a0,.ref a1,.ref a2,.ref a3,.ref a4,.ref a5,.ref a6])) q (.lst [.str "other",.str "no mean"]) ea=some (.ext (dl ea (.ref C))):=by rw [ap hneq]; exact hat
  refine ⟨.ref ea,rfl,ea,C,true,rfl,hat2,Zkq,true,rfl,.ref ea,rfl,ea,"ValueError",true,rfl,hat2,xc.vt,?_⟩;refine .inr ⟨true,rfl,q,[.str "other",.str "no mean"],1,.str "no mean",rfl,rfl,SqL.of bq,rfl,?_⟩;refine hn _ λb o hb=>?_;have n1:b≠ea:=bS hb hea;have n2:b≠p:=bS (show upd H' ea (.ext (dl ea (.ref C))) b=some o by rw [ap n1]; exact hb) hp
  have n3:b≠q:=bS (show upd (upd H' ea (.ext (dl ea (.ref C)))) p (.tup [.ref a0,.ref a1,.ref a2,.ref a3,.ref a4,.ref a5,.ref a6]) b=some o by rw [ap n2,ap n1]; exact hb) hq
  rw [ap n3,ap n2,ap n1];exact hb
noncomputable def nA:yn :=
 (ae aS (ae bZ (aa 0) (ae aE (aa 2) (aC (.int 1)))) (ay (av cC (cg 1 (ad (ae bZ (ae aS (aa 3) (aC (.int 1))) (aa 0)) ak)))))
noncomputable def sG:yq :=
 (ao (eP (bv (az (aj 3) (az (aj 4) (az (aj 5) br)))) (ay (av ot (cg 1 ak))))
 (ao (aX 6 (ae aS (ae aE (aa 3) (aC (.int 0))) (ae aE (aa 3) (aC (.int 1)))))
 (ao (aX 7 (bh gy (ah (bU (db (g0 (ah (ae aS (aa 6) (aC (.int 1))) aq)) 1 [1,3,6] (aj 0) nA)) aq)))
 (ao (aX 8 (ae aE (bU (di (ah (aC .none) (ah (cj aq) (ah (cj (ah (cj (ah (aC (.int 0)) (ah (aC (.int 1)) aq))) (ah (ae gF (cj (ah (cj (ah (aC (.int 0)) (ah (aC (.int 1)) aq))) aq)) (bh dt (ah (aa 7) aq))) (ah (aa 7) aq)))) (ah (aC (.int 7)) (ah (aC (.str "paper")) (ah (aC (.dict [])) (ah (bU (di (ah (aa 7) aq))) aq))))))))) (ay (av cC (cg 1 (ad (aC (.int 7)) ak))))))
 (ao (aX 9 (bh lq (ah (cj (ah (aa 3) (ah (aa 4) (ah (aa 7) (ah (aa 8) aq))))) aq)))
 (ao (aX 10 (ae aE (bU (di (ah (aC (.str "told")) (ah (aC (.str "no mean")) aq)))) (bh ma (ah (ae (c6 λi j=>decide (i < j)) (aa 5) (aa 6)) aq))))
 (ao (jI 11 (di (ah (dQ [3,4] (ad (aa 0) (ad (aa 1) ak)) je (ay (av jp (ad (aa 0) (ad (aa 1) ak))))) aq)))
 (ao (iL 11 (dQ [3,4,7] (ad (aa 0) (ad (aa 1) (ad (aa 2) ak))) jb (ay (av kh (ad (aa 0) (ad (aa 1) (ad (aa 2) ak)))))))
 (ao (iL 11 (dQ [3,4] (ad (aa 0) (ad (aa 1) ak)) jd (ay (av ki (ad (aa 0) (ad (aa 1) ak))))))
 (ao (kN 11 (cz (g6 (bE (ae dq (aa 11) (ae bD (bU (di (ah (aa 10) aq))) (aC (.int 3))))) (bE (ae dq (dQ [3,4,8] (ad (aa 0) (ad (aa 1) (ad (aa 2) ak))) jc (ay (av fb (ad (aa 0) (ad (aa 1) (ad (aa 2) ak)))))) (aa 10))))
  (bu (aC (.bool false)))
  cy))
 (ao (cz (pP (bE (ae dg (aa 10) (aC (.str "told")))) (fM (fj (g9 "bool" (ay (av fb (ad (aa 3) (ad (aa 4) (ad (aa 8) ak)))))))))
  (bu (aC (.bool false)))
  cy)
 (cz (bE (ae dq (bh lq (ah (cj (ah (aa 3) (ah (aa 4) (ah (aa 7) (ah (aa 8) aq))))) aq)) (aa 9)))
  (bu (aC (.bool false)))
  cy))))))))))))
noncomputable def ow:yq :=
 (ao (eB (g0 (ah (aC (.int 10)) aq)) (aj 2) sG)
 (bu (aC (.bool true))))
abbrev sy:yD:=.un::.pen::List.replicate 10 .un
theorem Zjk (T:Txt K mg) {fa c0 Pl:Addr} {fd:FuncData} (LK:LawK K fa c0 Pl (fG eG) (dA eG) (aG eG) fd) (BK:BltK base mg) (hl:(ow sy).ok 0 λ_ o=>o=.ret (.d (.bool true))):FnOk P w K mg base dH 10 fa fd ["_law_script"] (kZ Pl K):=by
 obtain ⟨oc,od,kV,doc,pm,an,ct,osl,rfl,lk⟩:=LK.ex;refine sX lk LK.cd eU (λvs H Q E h=>?_) (λA outer s H vs Q E hr h=>?_)
 ·obtain ⟨a,ns,rfl,_⟩:=h
  rfl
 ·obtain ⟨a,ns,rfl,hS,hlen,ps,hPl,k⟩:=h;have hu:=oP hr;obtain ⟨C,D,a0,a1,a2,a3,a4,a5,a6,hC,hD,h0,h1,h2,h3,h4,h5,h6,xc⟩:=T.ZfY;obtain ⟨gW,fdW,FW,hmW,hkW,hbW⟩:=(Zpv (P:=P) (w:=w) (base:=base) T hC hD h0 h1 h2 h3 h4 h5 h6 xc).ex;have key:∃ t,PSs (cK dH P w K mg base gv "law" (aG eG) fa (.ref c0) A outer s H E).nox (dA eG) t/\t { nx:=λ_ H'=>Q .non H',rt:=Q } (L2.start gv [.ref a]) H:=by
   refine ⟨_,(cG (aU (i:=1) eU.nd (nK (Zji T) (hr.mono (by decide)) rfl (aV (pv 0) bM)))
 (Ziq (t:=λcn=>bF (PKc Pl (ba (K,cn))) ow) λcn=>by
   obtain ⟨g_lasting,fd_lasting,F_lasting,hm_lasting,hk_lasting,hb_lasting⟩:=(ZpB (P:=P) (w:=w) (base:=base) (cn:=cn) T hC xc.cl).ex;obtain ⟨g_mean_of,fd_mean_of,F_mean_of,hm_mean_of,hk_mean_of,hb_mean_of⟩:=(Zpr (P:=P) (w:=w) (base:=base) (cn:=cn) T hC xc.cl).ex;obtain ⟨g_lasting_marks,fd_lasting_marks,F_lasting_marks,hm_lasting_marks,hk_lasting_marks,hb_lasting_marks⟩:=(Zpz (P:=P) (w:=w) (base:=base) (cn:=cn) T hC xc.cl).ex;obtain ⟨g_lets_lasting,fd_lets_lasting,F_lets_lasting,hm_lets_lasting,hk_lets_lasting,hb_lets_lasting⟩:=(Zpu (P:=P) (w:=w) (base:=base) (cn:=cn) T hC xc.cl).ex;refine aw ?_ ?_; (refine fh vI rfl (kK (j8 rfl T.fY (ai aA aF))) (aO (aN (i:=2) eU.nd)) ?_; (refine aw ?_ ?_; (exact (fK (dX (aI (gZ (ACal.cod (Zpx T)) (hr.mono (by decide)) rfl (dh (pv 1) aB))) (cM rfl (aZ (aO (aN (i:=3) eU.nd)) (aZ (aO (aN (i:=4) eU.nd)) (aZ (aO (aN (i:=5) eU.nd)) cL))) (aY (aY (aY cI))))))); (refine aw ?_ ?_; (exact (bf (aU (i:=6) eU.nd (au bz bx (aR aQ aP (ac (pv 3)) aA) (aR aQ aP (ac (pv 3)) aA))))); (refine aw ?_ ?_; (exact (bf (aU (i:=7) eU.nd (bI (t:=bb) (dY mj rfl T.fX boot_tuple (ai (cE (fi (eX gv ["_law_k"] [1,3,6] rfl (kK (j8 rfl T.fY (ai (au bz bx (ac (pv 6)) aA) aF))) (λb=>(aO (aN (i:=0) (show ((bN gv ["_law_k"] [1,3,6])).Nodup by trivial)))) (λb=>(au bz bx (au cY cP (ac (pv 0)) (aR aQ aP (ac (pv 2)) aA)) (aI (gZ (ACal.cod (dN T)) (hr.mono (by decide)) rfl (dh (pv 1) (af (au cY cP (au bz bx (ac (pv 3)) aA) (ac (pv 0))) aB)))))) rfl (show BlkOk gv (aG eG) _ [1,3,6] by trivial)) (cQ (by decide)))) aF)) kU)))); (refine aw ?_ ?_; (refine @bf _ _ _ _ _ ?_; (refine @Zct _ _ 8 _ _ _ _ eU.nd rfl (.inr rfl) ?_ (by rfl) (by first | exact .inl rfl | exact .inr rfl | assumption); (refine @ZfD _ _ _ _ _ _ _ _ _ aQ aP ?_ ?_ (λ_ _=>rfl); (refine @cE _ _ _ _ ?_; (refine @dO _ _ _ _ _ ?_; (refine @dG _ _ _ _ _ _ ?_ ?_ (by rfl); (exact Zqf); (refine @dG _ _ _ _ _ _ ?_ ?_ (by rfl); (refine @cD _ _ _ _ _ _ ?_; (exact aF)); (refine @dG _ _ _ _ _ _ ?_ ?_ (by rfl); (refine @cD _ _ _ _ _ _ ?_; (refine @dG _ _ _ _ _ _ ?_ ?_ (by rfl); (refine @cD _ _ _ _ _ _ ?_; (refine @dG _ _ _ _ _ _ ?_ ?_ (by rfl); (exact aA); (refine @dG _ _ _ _ _ _ ?_ ?_ (by rfl); (exact aA); (exact aF)))); (refine @dG _ _ _ _ _ _ ?_ ?_ (by rfl); (refine @au _ _ _ _ _ _ _ _ _ _ ZcR Zai ?_ ?_; (refine @cD _ _ _ _ _ _ ?_; (refine @dG _ _ _ _ _ _ ?_ ?_ (by rfl); (refine @cD _ _ _ _ _ _ ?_; (refine @dG _ _ _ _ _ _ ?_ ?_ (by rfl); (exact aA); (refine @dG _ _ _ _ _ _ ?_ ?_ (by rfl); (exact aA); (exact aF)))); (exact aF))); (exact (bI (t:=bb) (be eM rfl T.eJ boot_len (ai (ac (pv 7)) aF)) fQ))); (refine @dG _ _ _ _ _ _ ?_ ?_ (by rfl); (exact (ac (pv 7))); (exact aF))))); (refine @dG _ _ _ _ _ _ ?_ ?_ (by rfl); (exact aA); (refine @dG _ _ _ _ _ _ ?_ ?_ (by rfl); (exact jF); (refine @dG _ _ _ _ _ _ ?_ ?_ (by rfl); (exact Zqh); (refine @dG _ _ _ _ _ _ ?_ ?_ (by rfl); (refine @cE _ _ _ _ ?_; (refine @dO _ _ _ _ _ ?_; (refine @dG _ _ _ _ _ _ ?_ ?_ (by rfl); (exact (ac (pv 7))); (exact aF)))); (exact aF)))))))))); (exact (aI (gZ (ACal.cod (dN T)) (hr.mono (by decide)) rfl (dh (pv 1) (af aA aB)))))))); (refine aw ?_ ?_; (exact (bf (aU (i:=9) eU.nd (bI (t:=bb) (be (ZeV hr) rfl T.Zc1 boot_repr (ai (cD (ai (ac (pv 3)) (ai (ac (pv 4)) (ai (ac (pv 7)) (ai (ac (pv 8)) aF))))) aF)) Zaj)))); (refine aw ?_ ?_; (exact (bf (aU (i:=10) eU.nd (aR aQ aP (cE (dO (ai jF (ai jF aF)))) (bI (t:=bb) (dY tU rfl T.og boot_int (ai (my il dI (ac (pv 5)) (ac (pv 6)) (nomark _)) aF)) Zal))))); (refine aw ?_ ?_; (exact (mq (aU (i:=11) eU.nd (dO (ai (pB (kk:=7) (n':=2) (P:=Pl) (C:=C) (i:=(ad (aa 0) (ad (aa 1) ak))) (qx:=je) PKc.has (λ_=>rfl) LK.ck BK rfl FW (hr.mono (by decide)) rfl hmW hkW hbW (show LamD gv (aG eG) _ ["_law_shop_here","_law_one"] [3,4] from ⟨rfl,rfl,rfl,by trivial,by trivial,by trivial,by trivial,by trivial⟩) iD (λcl q f c A outer s H E hr=>(aI (gZ (ACal.cod (ZpC T)) (hr.mono (by decide)) rfl (af (ac (pv 0)) (af (ac (pv 1)) aB))))) (λcl q f c A outer s H E hr=>(nJ (spX.cod F_lasting) (hr.mono (by decide)) rfl hm_lasting hk_lasting hb_lasting (af (ac (pv 0)) (af (ac (pv 1)) aB))))) aF))))); (refine aw ?_ ?_; (exact (mr (i6 (lF vZ wl wk lM (pv 11) (aV (pB (kk:=7) (n':=3) (P:=Pl) (C:=C) (i:=(ad (aa 0) (ad (aa 1) (ad (aa 2) ak)))) (qx:=jb) PKc.has (λ_=>rfl) LK.ck BK rfl FW (hr.mono (by decide)) rfl hmW hkW hbW (show LamD gv (aG eG) _ ["_law_shop_here","_law_one","_law_levels"] [3,4,7] from ⟨rfl,rfl,rfl,by trivial,by trivial,by trivial,by trivial,by trivial⟩) iD (λcl q f c A outer s H E hr=>(aI (gZ (ACal.cod (Zps T)) (hr.mono (by decide)) rfl (af (ac (pv 0)) (af (ac (pv 1)) (af (ac (pv 2)) aB)))))) (λcl q f c A outer s H E hr=>(nJ (spX.cod F_mean_of) (hr.mono (by decide)) rfl hm_mean_of hk_mean_of hb_mean_of (af (ac (pv 0)) (af (ac (pv 1)) (af (ac (pv 2)) aB)))))) bM))))); (refine aw ?_ ?_; (exact (mr (i6 (lF vZ wl wk lM (pv 11) (aV (pB (kk:=7) (n':=2) (P:=Pl) (C:=C) (i:=(ad (aa 0) (ad (aa 1) ak))) (qx:=jd) PKc.has (λ_=>rfl) LK.ck BK rfl FW (hr.mono (by decide)) rfl hmW hkW hbW (show LamD gv (aG eG) _ ["_law_shop_here","_law_one"] [3,4] from ⟨rfl,rfl,rfl,by trivial,by trivial,by trivial,by trivial,by trivial⟩) iD (λcl q f c A outer s H E hr=>(aI (gZ (ACal.cod (ZpA T)) (hr.mono (by decide)) rfl (af (ac (pv 0)) (af (ac (pv 1)) aB))))) (λcl q f c A outer s H E hr=>(nJ (spX.cod F_lasting_marks) (hr.mono (by decide)) rfl hm_lasting_marks hk_lasting_marks hb_lasting_marks (af (ac (pv 0)) (af (ac (pv 1)) aB))))) bM))))); (refine aw ?_ ?_; (exact (pj (k:=11) (cV (iH (jD (cv (gK hr) gw (ac (pv 11)) (au bW bV (cE (dO (ai (ac (pv 10)) aF))) aA) (nomark _)) (kI (cv (gK hr) gw (pB (kk:=7) (n':=3) (P:=Pl) (C:=C) (i:=(ad (aa 0) (ad (aa 1) (ad (aa 2) ak)))) (qx:=jc) PKc.has (λ_=>rfl) LK.ck BK rfl FW (hr.mono (by decide)) rfl hmW hkW hbW (show LamD gv (aG eG) _ ["_law_shop_here","_law_one","_law_thing"] [3,4,8] from ⟨rfl,rfl,rfl,by trivial,by trivial,by trivial,by trivial,by trivial⟩) iD (λcl q f c A outer s H E hr=>(aI (gZ (ACal.cod (Ze2 T)) (hr.mono (by decide)) rfl (af (ac (pv 0)) (af (ac (pv 1)) (af (ac (pv 2)) aB)))))) (λcl q f c A outer s H E hr=>(nJ (spX.cod F_lets_lasting) (hr.mono (by decide)) rfl hm_lets_lasting hk_lets_lasting hb_lets_lasting (af (ac (pv 0)) (af (ac (pv 1)) (af (ac (pv 2)) aB)))))) (ac (pv 10)) (nomark _)))))   (aK (bA eA))   cU))); (refine aw ?_ ?_; (exact (cV (iH (Zfj (cv (im hr) hY (ac (pv 10)) jF (nomark _)) (Zfi (gX (gm (jG (T:="bool") (Or.inr (.inl rfl)) rfl (be jC rfl T.fZ boot_isinstance (aV (aI (gZ (ACal.cod (Ze2 T)) (hr.mono (by decide)) rfl (af (ac (pv 3)) (af (ac (pv 4)) (af (ac (pv 8)) aB))))) (aV (ik (v:=.ty "bool") rfl T.Zc3 boot_bool rfl) bM)))))))))   (aK (bA eA))   cU)); (refine aK ?_; (exact (cV (cv (gK hr) gw (bI (t:=bb) (be (ZeV hr) rfl T.Zc1 boot_repr (ai (cD (ai (ac (pv 3)) (ai (ac (pv 4)) (ai (ac (pv 7)) (ai (ac (pv 8)) aF))))) aF)) Zaj) (ac (pv 9)) (nomark _))   (aK (bA eA))   cU))))))))))))))); (exact (aK (bA eA))))),?_⟩
   refine ⟨_,rfl,a,ns,rfl,hS,hlen,λp H' hp hP hs=>?_⟩;exact Zki (n:=10) hP (hs _ _ hPl) rfl rfl (λH' q=>k H' q) hl
  obtain ⟨t,ht,hq⟩:=key;exact ⟨t,ht.nox,hq⟩
end
end My
local macro_rules | `(tactic| simp_arith only [$ls,*] $[$loc]?) => do let b : Lean.TSyntaxArray ``Lean.Parser.Tactic.simpLemma ← (("L2.Zlk L2.Zlj L2.ZnR L2.Znt L2.Zns L2.ZnJ L2.Zeb L2.oU L2.Zlu L2.Znf L2.Zm7 L2.Zml L2.Zm5 L2.Zmk L2.mh L2.iF L2.uc L2.ub L2.ua L2.t9 L2.t7 L2.Zfn L2.Zfm L2.Zmj L2.Zmi L2.Zlt L2.Zlp L2.Zls L2.Zlr L2.Zlq L2.ZnH L2.Zmd L2.Zmg L2.ZnF L2.ZnG L2.Zmb L2.Zmc L2.Zmf L2.ZnE L2.ZnC L2.ZnD L2.ZmX L2.ZmV L2.ZmW L2.Zng L2.Znk L2.Znj L2.Zni L2.Znh L2.Zmh L2.Zne L2.Znd L2.Znc L2.Zlo L2.Zln L2.Zms L2.Zmr L2.Zmu L2.Zmt L2.cu L2.Zno L2.Znl L2.Zmx L2.Zd4 L2.ZnK L2.Zmp L2.Zmo L2.ZmN L2.Zlm L2.Zmq L2.sZ L2.ZnI L2.ZmM L2.ZmL L2.Zlx L2.Zlw L2.Zlv L2.tj L2.Zl8 L2.Zl7 L2.Zl6 L2.Zll L2.Zd1 L2.ZnN L2.ZnO L2.ZnQ L2.ZnP L2.Zl3 L2.Zl2 L2.ZnM L2.ZnL L2.Znp L2.Zl1 L2.Zl0 L2.Znb L2.Zm4 L2.Zm3 L2.ZlI L2.ZlH L2.ZlG L2.Zly L2.ZmQ L2.ZmO L2.ZmP L2.ZlY L2.ZlX L2.ZlW L2.ZlV L2.ZlU L2.ZlT L2.ZlS L2.ZlR L2.ZlQ L2.ZlF L2.ZlE L2.ZlD L2.ZlC L2.Zj1 L2.Zj0 L2.Znw L2.Znv L2.Znu L2.ZmY L2.Zma L2.Zl9 L2.ZnB L2.ZnA L2.Znz L2.ZlP L2.ZlO L2.ZmZ L2.Zk7 L2.Zk8 L2.Zny L2.Znx L2.Zme L2.ZkY L2.ZkW L2.ZkZ L2.Zk0 L2.ZkX L2.Zl5 L2.Zl4 L2.ZmK L2.ZmJ L2.ZmI L2.ZlM L2.ZlL L2.Zli L2.Zlh L2.Zlg L2.Zlf L2.Zle L2.Zm8 L2.Zna L2.Zm9 L2.Zm1 L2.Zm0 L2.mi L2.gR L2.ZmE L2.ZmD L2.ZmC L2.Zmy L2.Zmw L2.Zmv L2.Zmz L2.ZmB L2.ZmA L2.ZmR L2.ZmT L2.ZmU L2.ZmS L2.Znn L2.Znm L2.Zm2 L2.ZlB L2.ZlA L2.Zlz L2.ZlK L2.ZlN L2.ZlJ L2.tu L2.ZmH L2.ZmG L2.ZmF Tw.Zhn Tw.Zhm Tw.Zhl Tw.Zhk Tw.Zhj Tw.Zhi Tw.Zhh L2.Znr L2.Znq L2.Zmm L2.rb2 L2.Tr.of_some L2.Tr.bind_assoc L2.Tr.draw_bind List.cons_append List.nil_append List.replicate_succ List.replicate_zero List.length_cons List.length_nil L2.Re.val_d L2.Re.val_own L2.blk L2.t4 List.map_cons List.map_nil List.getElem?_cons_zero List.getElem?_cons_succ Option.getD_some Nat.reduceAdd Nat.reduceLeDiff List.isEmpty_cons".splitOn " ").toArray.map fun s => Lean.mkIdent s.toName).mapM fun i => `(Lean.Parser.Tactic.simpLemma| $i:ident); `(tactic| simp -implicitDefEqProofs only [$b,*, $ls,*] $[$loc]?)
namespace My
open L2 Tw
theorem gS {s:Shp} (h:s.Ok):fD [.d s.d]=.ret (.d (.tuple (aH (-s.depth) (s.top+1)))):=by
 have:=h.t0;have:=h.d0;have:=h.td;have hr:ll (-s.depth) (s.top+1)=true:=by
  unfold ll;rw [ff (by omega) (by omega),ff (by omega) (by omega)]
  simp;omega
 simp_arith only [fD,Zd1 hr]
theorem tE (s:Shp) (y f:Int):jn [.d s.d,.d (.int y),.d (.int f)]=.ret (.d (.int (s.nx y f))):=by
 simp_arith only [jn,Shp.nx]
theorem tD {s:Shp} (h:s.Ok) {x y:Int} (hx:nb 20 x) (hy:nb 20 y):jm [.d s.d,.d (.int x),.d (.int y)]=.ret (.d (.int (s.ord x y))):=by
 have f1:=bc h.piece (by decide)
 have f2:=bc (fy hy hx) (by decide)
 by_cases hp:y<=x
 ·simp_arith only [jm,decide_eq_true hp,Shp.ord,if_pos hp]
 ·simp_arith only [jm,decide_eq_false hp,f1,f2,Shp.ord,if_neg hp]
theorem Zob {s:Shp} (h:s.Ok) {y f:Int} (hy:nb 20 y) (hf:nb 40 f):lX [.d s.d,.d (.int y),.d (.int f)]=.ret (.d (.int (s.day y f))):=by
 have hd:nb 7 s.depth:=by have:=h.t0; have:=h.d0; have:=h.td; exact cR (by show -128 < _; omega) (by show _ < 128; omega)
 have hn:nb 50 (s.nx y f):=by
  unfold Shp.nx cS;exact n5 (bn (kd hd) (by decide)) (bn (fy hy hf) (by decide))
 have f1:=bc h.keep (by decide)
 have f2:=bc hn (by decide)
 have f3:=bc (kd hn) (by decide)
 have f4:=bc h.lack (by decide)
 have f5:=bc h.lost (by decide)
 have f6:=bc (fy hn (fy hy hf)) (by decide)
 have e:=tE s y f;by_cases hp:s.nx y f > 0
 ·simp_arith only [lX,e,decide_eq_true hp,f1,f2,f5,f6,Shp.day,if_pos hp]
 ·simp_arith only [lX,e,decide_eq_false hp,f3,f4,f5,f6,Shp.day,if_neg hp]
theorem Zkd (l:yy):(l.map PyData.int).length=l.length:=uO ..
theorem oV {s:Shp} (h:s.Ok) {day:yy} (hd:DayB day) {y:Int} (y1:-s.depth<=y) (y2:y<=s.top) {A:Int->Int} {b:Nat} (hA:Bd s b A) {sc:Int} (hs:nb b sc) (hb:b<=5000) :
  jl [.d s.d,.d (tI day),.d (.int y),.d (lI (s.row A)),.d (.int sc)]=.ret (.d (.int (s.wg day y A sc))):=by
 have:=h.t0;have:=h.d0;have:=h.td;have hy:nb 20 y:=cR (by show -1048576 < _; omega) (by show _ < 1048576; omega)
 apply ui;simp_arith only [jl,tI,lI];refine eO (n:=0) (n':=0) (P:=λo=>∃ J1 J2 J3:Sl,o=.next [.d s.d,.d (.tuple (day.map PyData.int)),.d (.int y),.d (.list ((s.row A).map PyData.int)),.d (.int sc),.d (.int (s.wg day y A sc)),J1,J2,J3]) ?_ (by decide) ?_
 ·refine pA (n:=0) (λpre ρ=>∃ J1 J2 J3:Sl,ρ=[.d s.d,.d (.tuple (day.map PyData.int)),.d (.int y),.d (.list ((s.row A).map PyData.int)),.d (.int sc),.d (.int (s.wg day y A sc - ws (λf=>sc * s.day y f+A (s.nx y f)) pre.length (day.drop pre.length))),J1,J2,J3]) ⟨.un,.un,.un,?_⟩ (by simp) ?_ ?_
  ·have:s.wg day y A sc - ws (λf=>sc * s.day y f+A (s.nx y f)) 0 day=0:=by unfold Shp.wg; omega
   simp only [wn,List.drop_zero,this]
  ·rintro pre x post ρ e ⟨J1,J2,J3,rfl⟩;obtain ⟨w,hw,rfl⟩:=ZnW e;rw [uT] at hw;obtain ⟨v,hv,rfl⟩:=xz.mp hw;refine ⟨_,rfl,?_⟩;have hl:pre.length < day.length:=(uR.mp hv).1;have hlen:=hd.len;have hf:nb 40 (pre.length:Int):=cR (by show -1099511627776 < _; omega) (by show _ < 1099511627776; omega)
   have e1:=tE s y pre.length;have e2:=Zob h hy hf;have n1:=ji s y pre.length;have n2:=jh h y2 (show (0:Int)<=pre.length by omega)
   have e3:=ny (f:=A) n1 n2;have v1:nb 30 v:=hd.nb v (vY hv);have b1:=cx hs (o5 h hy hf);have f1:=bc hs (by omega)
   have f2:=bc (o5 h hy hf) (by decide)
   have f3:=bc v1 (by decide)
   have f4:=bc (eZ b1 (hA _ n1 n2)) (by omega)
   simp_arith only [Zdv,e1,e2,e3,f1,f2,f3,f4];have ed:day.drop pre.length=v::day.drop (pre.length+1):=by
    rw [vR hl];congr 1;exact (uR.mp hv).2
   have el:(pre++[PyData.tuple [PyData.int pre.length,PyData.int v]]).length=pre.length+1:=by simp
   have ee:s.wg day y A sc - ws (λf=>sc * s.day y f+A (s.nx y f)) pre.length (day.drop pre.length)+v * (sc * s.day y pre.length+A (s.nx y pre.length)) =
     s.wg day y A sc - ws (λf=>sc * s.day y f+A (s.nx y f)) (pre++[PyData.tuple [PyData.int pre.length,PyData.int v]]).length (day.drop (pre++[PyData.tuple [PyData.int pre.length,PyData.int v]]).length):=by
    rw [el,ed,ws];omega
   rw [ee];exact c7 ⟨_,rfl,_,_,_,rfl⟩
  ·rintro ρ ⟨J1,J2,J3,rfl⟩;refine ⟨J1,J2,J3,?_⟩;rw [ZnX,Zkd,xv,ws,Int.sub_zero]
 ·rintro _ ⟨J1,J2,J3,rfl⟩;simp_arith only [xn];exact c7 rfl
theorem Zek {s:Shp} (h:s.Ok) {day:yy} (hd:DayB day) {A:Int->Int} {b:Nat} (hA:Bd s b A) {sc:Int} (hs:nb b sc) (hb:b<=5000) :
  lT [.d s.d,.d (tI day),.d (lI (s.row A)),.d (.int sc)]=.ret (.own ((s.row (s.sm day A sc)).map PyData.int)):=by
 have:=h.t0;have:=h.d0;have:=h.td;have f1:=bc hs (by omega)
 have f2:=bc (dC hd) (by decide)
 have f3:=bc (cx hs (dC hd)) (by omega)
 have f4:=bc h.piece (by decide)
 have f5:=bc (cx (cx hs (dC hd)) h.piece) (by omega)
 have es:ce dD [tI day]=.ret (.int day.sum):=sZ day;have hsm:small (aH (-s.depth) (s.top+1)).length=true:=cu (by rw [cw]; omega)
 have e:bG (cm (aj 0) rz (blk 1 [0,1,2,3,4] [.d s.d,.d (tI day),.d (lI (s.row A)),.d (.int sc),.d (.int (sc * day.sum))])) (aH (-s.depth) (s.top+1))=.ret ((s.row (s.sm day A sc)).map PyData.int):=by
  refine Eq.trans (Zda (f:=λx=>.int (s.sm day A sc x)) λz h1 h2=>?_) ?_
  ·have e1:=oV h hd (y:=z) (by omega) (by omega) hA hs hb
   have hz:nb 20 z:=cR (by show -1048576 < _; omega) (by show _ < 1048576; omega)
   have f6:=bc hz (by decide)
   simp_arith only [rz,e1,f3,f4,f5,f6]
   rfl
  ·unfold Shp.row Shp.n;rw [vg]
   rfl
 simp_arith only [lT,gS h,hsm,es,f1,f2] at e ⊢;simp_arith only [e]
theorem p6 {xs ys pre post:yx} {x:PyData} (h:bw xs ys=pre++x::post):∃ a b,xs[pre.length]?=some a/\ys[pre.length]?=some b/\x=.tuple [a,b]:=by
 have h1:(bw xs ys)[pre.length]?=some x:=by rw [h]; simp
 unfold bw at h1;rw [uT] at h1;obtain ⟨⟨a,b⟩,hz,rfl⟩:=xz.mp h1;obtain ⟨z1,z2⟩:=yc.mp hz;exact ⟨a,b,z1,z2,rfl⟩
theorem rb {lo hi:Int} {k:Nat} {y:PyData} (h:(aH lo hi)[k]?=some y):y=.int (lo+k)/\(k:Int) < hi - lo:=by
 have hk:=(uR.mp h).1;rw [cw] at hk;unfold aH aL at h;rw [vg,uT,u7 hk] at h;cases h;exact ⟨rfl,by omega⟩
noncomputable def cby (s:Shp) (day:yy) (A:Int->Int) (sc:Int) (g:Int->Int) (x:Int):Int:=sc * day.sum * s.ord x (g x)+s.wg day (g x) A sc
theorem Zo7 {s:Shp} (h:s.Ok) {day:yy} (hd:DayB day) {A:Int->Int} {b:Nat} (hA:Bd s b A) {sc:Int} (hs:nb b sc) (hb:b<=5000) {x y:Int} (x1:-s.depth<=x) (xy:x<=y) (y2:y<=s.top) {L:yx} (hL:L.length<=900) (LV:Sl) :
  sH [.d s.d,.d (tI day),LV,.d (lI (s.row A)),.d (.int sc),.d (.int (sc * day.sum)),.own L,.d (.int x),.d (.int y)]=.ret (.next [.d s.d,.d (tI day),LV,.d (lI (s.row A)),.d (.int sc),.d (.int (sc * day.sum)),.own (L++[.int (sc * day.sum * s.ord x y+s.wg day y A sc)]),.d (.int x),.d (.int y)]):=by
 have hx:=fu h x1 (show x<=s.top by omega)
 have hy:=fu h (show -s.depth<=y by omega) y2
 have e1:=tD h hx hy;have e2:=oV h hd (show -s.depth<=y by omega) y2 hA hs hb
 have hsm:small (L.length+1)=true:=cu (by omega)
 have g1:=bc (cx hs (dC hd)) (by omega)
 have g2:=bc (nN h hx hy) (by decide)
 simp_arith only [sH,e1,e2,hsm,g1,g2]
theorem Zoc {s:Shp} (h:s.Ok) {day:yy} (hd:DayB day) {A:Int->Int} {b:Nat} (hA:Bd s b A) {sc:Int} (hs:nb b sc) (hb:b<=5000) {g:Int->Int} (hg:s.RlOk g) {LV:PyData} (hLV:cH LV=.ret ((s.row g).map PyData.int)) :
  oE [.d s.d,.d (tI day),.d LV,.d (lI (s.row A)),.d (.int sc)]=.ret (.own ((s.row (cby s day A sc g)).map PyData.int)):=by
 have:=h.t0;have:=h.d0;have:=h.td;have hn:=h.n_eq;have g1:=bc hs (by omega)
 have g2:=bc (dC hd) (by decide)
 apply ui;simp_arith only [oE,gz,g1,g2,gS h,hLV];refine eO (n:=0) (n':=0) (P:=λo=>∃ J7 J8:Sl,o=.next [.d s.d,.d (tI day),.d LV,.d (lI (s.row A)),.d (.int sc),.d (.int (sc * day.sum)),.own ((s.row (cby s day A sc g)).map PyData.int),J7,J8]) ?_ (by decide) ?_
 ·refine pA (n:=0) (λpre ρ=>∃ J7 J8:Sl,ρ=[.d s.d,.d (tI day),.d LV,.d (lI (s.row A)),.d (.int sc),.d (.int (sc * day.sum)),.own (((s.row (cby s day A sc g)).map PyData.int).take pre.length),J7,J8]) ⟨_,_,rfl⟩ (by simp) ?_ ?_
  ·rintro pre x post ρ e ⟨J7,J8,rfl⟩;obtain ⟨a,c,ha,hc,rfl⟩:=p6 e;obtain ⟨rfl,hpre⟩:=rb ha;have x1:-s.depth<=-s.depth+(pre.length:Int):=by omega
   have x2:-s.depth+(pre.length:Int)<=s.top:=by omega
   have ek:(-s.depth+(pre.length:Int)+s.depth).toNat=pre.length:=by omega
   have hr:=fw (f:=g) x1 x2;have hr3:=fw (f:=cby s day A sc g) x1 x2;rw [ek] at hr hr3;rw [uT,hr] at hc;cases hc;have hr2:((s.row (cby s day A sc g)).map PyData.int)[pre.length]?=some (.int (cby s day A sc g (-s.depth+(pre.length:Int)))):=by rw [uT,hr3]; rfl
   have el:∀ z:PyData,(pre++[z]).length=pre.length+1:=λz=>by simp
   rw [el,List.take_add_one,hr2];obtain ⟨q1,q2⟩:=hg _ x1 x2;exact ⟨_,rfl,Zp5 (Zo7 h hd hA hs hb x1 q1 q2 (by rw [v9,uO,fS]; omega) _) ⟨_,rfl,_,_,rfl⟩⟩
  ·rintro ρ ⟨J7,J8,rfl⟩;refine ⟨J7,J8,?_⟩;have el:(bw (aH (-s.depth) (s.top+1)) ((s.row g).map PyData.int)).length=s.n:=by
    unfold bw;rw [uO,wO,cw,uO,fS];unfold Shp.n;omega
   rw [el,List.take_of_length_le (by rw [uO,fS]; exact uQ _)]
 ·rintro _ ⟨J7,J8,rfl⟩;simp_arith only [xn];exact c7 rfl
def ZfK (s:Shp) (day:yy) (C A:Int->Int) (sc:Int):Prop:=∀ x y,-s.depth<=x->x<=y->y<=s.top->C x<=sc * day.sum * s.ord x y+s.wg day y A sc
noncomputable abbrev dE (s:Shp) (day:yy) (C A:Int->Int) (sc:Int) (J7 J8 J9:Sl):yD:=[.d s.d,.d (tI day),.d (lI (s.row C)),.d (lI (s.row A)),.d (.int sc),.d (.int (sc * day.sum)),.d (lI (s.row λy=>s.wg day y A sc)),J7,J8,J9]
theorem nn1 {s:Shp} (h:s.Ok) {day:yy} (hd:DayB day) {C A:Int->Int} {b:Nat} {sc:Int} (hs:nb b sc) (hb:b<=5000) {x y c:Int} (x1:-s.depth<=x) (xy:x<=y) (y2:y<=s.top) :
  kr (dE s day C A sc (.d (.int x)) (.d (.int c)) (.d (.int y)))=if sc * day.sum * s.ord x y+s.wg day y A sc < c then .ret (.ret (.d (.bool false))) else .ret (.next (dE s day C A sc (.d (.int x)) (.d (.int c)) (.d (.int y)))):=by
 have hx:=fu h x1 (show x<=s.top by omega)
 have hy:=fu h (show -s.depth<=y by omega) y2
 have e1:=tD h hx hy;have e2:=ny (s:=s) (f:=λy=>s.wg day y A sc) (x:=y) (by omega) y2
 have g1:=bc (cx hs (dC hd)) (by omega)
 have g2:=bc (nN h hx hy) (by decide)
 by_cases q:sc * day.sum * s.ord x y+s.wg day y A sc < c
 ·rw [if_pos q];simp_arith only [kr,dE,lI,e1,e2,g1,g2,decide_eq_true q]
 ·rw [if_neg q];simp_arith only [kr,dE,lI,e1,e2,g1,g2,decide_eq_false q]
theorem nn2 {s:Shp} (h:s.Ok) {day:yy} (hd:DayB day) {C A:Int->Int} {b:Nat} {sc:Int} (hs:nb b sc) (hb:b<=5000) {x c:Int} (x1:-s.depth<=x) (x2:x<=s.top) (J9:Sl) :
  ((∃ y,x<=y/\y<=s.top/\sc * day.sum * s.ord x y+s.wg day y A sc < c)/\kn (dE s day C A sc (.d (.int x)) (.d (.int c)) J9)=.ret (.ret (.d (.bool false))))\/((∀ y,x<=y->y<=s.top->¬ sc * day.sum * s.ord x y+s.wg day y A sc < c)/\∃ K9:Sl,kn (dE s day C A sc (.d (.int x)) (.d (.int c)) J9)=.ret (.next (dE s day C A sc (.d (.int x)) (.d (.int c)) K9))):=by
 have:=h.t0;have:=h.d0;have:=h.td;have r1:iY [.int x,.int (s.top+1)]=.ret (aH x (s.top+1)):=tq (ff (by omega) (by omega)) (ff (by omega) (by omega))
 have key:=ZdV (g:=aj 9) (s:=kr) (r:=.d (.bool false)) (xs:=aH x (s.top+1)) (ρ:=dE s day C A sc (.d (.int x)) (.d (.int c)) J9) (λpre _=>sc * day.sum * s.ord x (x+pre.length)+s.wg day (x+pre.length) A sc < c) (λ_ ρ=>∃ K9:Sl,ρ=dE s day C A sc (.d (.int x)) (.d (.int c)) K9) ⟨_,rfl⟩ (by
  rintro pre z post ρ e ⟨K9,rfl⟩;obtain ⟨rfl,hpre⟩:=ra e;refine ⟨_,rfl,?_⟩;have st:=nn1 h hd (C:=C) (A:=A) hs hb (c:=c) x1 (show x<=x+(pre.length:Int) by omega) (by omega)
  by_cases q:sc * day.sum * s.ord x (x+pre.length)+s.wg day (x+pre.length) A sc < c
  ·rw [if_pos q] at st;exact .inl ⟨q,st⟩
  ·rw [if_neg q] at st;exact .inr ⟨q,_,st,_,rfl⟩)
 have eL:kn (dE s day C A sc (.d (.int x)) (.d (.int c)) J9)=cb (aj 9) kr (aH x (s.top+1)) (dE s day C A sc (.d (.int x)) (.d (.int c)) J9):=by
  simp_arith only [kn,dE,r1]
 rw [eL];rcases key with ⟨⟨p,z,q,e,hb⟩,k⟩ | ⟨hn,ρ2,k,K9,rfl⟩
 ·obtain ⟨rfl,hpre⟩:=ra e;exact .inl ⟨⟨x+p.length,by omega,by omega,hb⟩,k⟩
 ·refine .inr ⟨λy y1 y2=>?_,K9,k⟩;have hlen:(y - x).toNat < (aH x (s.top+1)).length:=by rw [cw]; omega
  have hsp:aH x (s.top+1)=(aH x (s.top+1)).take (y - x).toNat++(aH x (s.top+1))[(y - x).toNat]::(aH x (s.top+1)).drop ((y - x).toNat+1):=by
   rw [<- vR hlen,xD]
  have:=hn _ _ _ hsp;rw [v9,xB (by omega)] at this
  have e:x+((y - x).toNat:Int)=y:=by omega
  rwa [e] at this
theorem Zn0 {s:Shp} (h:s.Ok) {day:yy} (hd:DayB day) {C A:Int->Int} {b:Nat} (hA:Bd s b A) {sc:Int} (hs:nb b sc) (hb:b<=5000) :
  (ZfK s day C A sc/\kg [.d s.d,.d (tI day),.d (lI (s.row C)),.d (lI (s.row A)),.d (.int sc)]=.ret (.d (.bool true)))\/(¬ ZfK s day C A sc/\kg [.d s.d,.d (tI day),.d (lI (s.row C)),.d (lI (s.row A)),.d (.int sc)]=.ret (.d (.bool false))):=by
 have:=h.t0;have:=h.d0;have:=h.td;have hn:=h.n_eq;have g1:=bc hs (by omega)
 have g2:=bc (dC hd) (by decide)
 have hsm:small (aH (-s.depth) (s.top+1)).length=true:=cu (by rw [cw]; omega)
 have hmap:bG (cm (aj 0) rn [.un,.d s.d,.d (tI day),.d (lI (s.row A)),.d (.int sc)]) (aH (-s.depth) (s.top+1))=.ret ((s.row λy=>s.wg day y A sc).map PyData.int):=by
  rw [Zda (f:=λy=>.int (s.wg day y A sc)) λz z1 z2=>?_]
  ·unfold Shp.row;rw [vg]
   rfl
  ·have e:=oV h hd (y:=z) z1 (by omega) hA hs hb
   have e3:∀ q:yn,cm (aj 0) q [.un,.d s.d,.d (tI day),.d (lI (s.row A)),.d (.int sc)] (.int z)=q [.d (.int z),.d s.d,.d (tI day),.d (lI (s.row A)),.d (.int sc)]:=λq=>rfl;rw [e3];simp_arith only [rn,e]
 have key:=ZdV (g:=bv (az (aj 7) (az (aj 8) br))) (s:=kn) (r:=.d (.bool false)) (xs:=bw (aH (-s.depth) (s.top+1)) ((s.row C).map PyData.int)) (ρ:=dE s day C A sc .un .un .un) (λpre _=>∃ y,-s.depth+(pre.length:Int)<=y/\y<=s.top/\sc * day.sum * s.ord (-s.depth+pre.length) y+s.wg day y A sc < C (-s.depth+pre.length)) (λ_ ρ=>∃ K7 K8 K9:Sl,ρ=dE s day C A sc K7 K8 K9) ⟨_,_,_,rfl⟩ (by
  rintro pre z post ρ e ⟨K7,K8,K9,rfl⟩;obtain ⟨a,c,ha,hc,rfl⟩:=p6 e;obtain ⟨rfl,hpre⟩:=rb ha;have x1:-s.depth<=-s.depth+(pre.length:Int):=by omega
  have x2:-s.depth+(pre.length:Int)<=s.top:=by omega
  have ek:(-s.depth+(pre.length:Int)+s.depth).toNat=pre.length:=by omega
  have hr:=fw (f:=C) x1 x2;rw [ek] at hr;rw [uT,hr] at hc;cases hc;refine ⟨_,rfl,?_⟩;rcases nn2 h hd (C:=C) (A:=A) hs hb (c:=C (-s.depth+(pre.length:Int))) x1 x2 K9 with ⟨q,st⟩ | ⟨q,K9',st⟩
  ·exact .inl ⟨q,st⟩
  ·exact .inr ⟨λ⟨y,y1,y2,y3⟩=>q y y1 y2 y3,_,st,_,_,_,rfl⟩)
 rcases key with ⟨⟨p,z,q,e,y,y1,y2,y3⟩,k⟩ | ⟨hno,ρ2,k,K7,K8,K9,rfl⟩
 ·refine .inr ⟨λnl=>?_,?_⟩
  ·have:=nl _ y (by omega) y1 y2
   omega
  ·have ei:cH (lI (s.row C))=.ret ((s.row C).map PyData.int):=rfl;have el:PyData.list ((s.row λy=>s.wg day y A sc).map PyData.int)=lI (s.row λy=>s.wg day y A sc):=rfl;simp_arith only [kg,gz,g1,g2,gS h,hsm,hmap,ei,el];simp only [dE] at k;simp_arith only [k]
 ·refine .inl ⟨λx y x1 xy y2=>?_,?_⟩
  ·have hlen:(x+s.depth).toNat < (bw (aH (-s.depth) (s.top+1)) ((s.row C).map PyData.int)).length:=by
    unfold bw;rw [uO,wO,cw,uO,fS];omega
   have hsp:bw (aH (-s.depth) (s.top+1)) ((s.row C).map PyData.int)=(bw (aH (-s.depth) (s.top+1)) ((s.row C).map PyData.int)).take (x+s.depth).toNat++(bw (aH (-s.depth) (s.top+1)) ((s.row C).map PyData.int))[(x+s.depth).toNat]::(bw (aH (-s.depth) (s.top+1)) ((s.row C).map PyData.int)).drop ((x+s.depth).toNat+1):=by
    rw [<- vR hlen,xD]
   have:=hno _ _ _ hsp;rw [v9,xB (by omega)] at this
   have e:-s.depth+((x+s.depth).toNat:Int)=x:=by omega
   rw [e] at this;by_cases q:C x<=sc * day.sum * s.ord x y+s.wg day y A sc
   ·exact q
   ·exact absurd ⟨y,xy,y2,by omega⟩ this
  ·have ei:cH (lI (s.row C))=.ret ((s.row C).map PyData.int):=rfl;have el:PyData.list ((s.row λy=>s.wg day y A sc).map PyData.int)=lI (s.row λy=>s.wg day y A sc):=rfl;simp_arith only [kg,gz,g1,g2,gS h,hsm,hmap,ei,el];simp only [dE] at k;simp_arith only [k]
theorem ZpV {xs:yx} {v:PyData} (h:xs[xs.length - 1]?=some v):bp xs (-1)=some v:=by
 have hl:xs≠[]:=λe=>by subst e; cases h
 have hp:0 < xs.length:=wY.mpr hl;obtain ⟨k,hk⟩:=Nat.exists_eq_succ_of_ne_zero (vO hp);unfold bp cT;have e0:(-1:Int)+(xs.length:Int)=(k:Int):=by rw [hk]; show (-1:Int)+((k:Int)+1)=k; rw [Int.add_comm,Int.add_assoc]; exact Int.add_zero _
 have e:((-1:Int)+(xs.length:Int)).toNat=xs.length - 1:=by rw [e0,hk]; exact vH k
 rw [if_neg (by decide),if_pos (by omega)]
 show xs[((-1:Int)+(xs.length:Int)).toNat]?=some v;rw [e];exact h
noncomputable def c9 (g:Int->Int) (top K P x:Int):PyData:=.tuple [.int (cst g top K P x),.int (lvl g top K x)]
theorem Zh3 {lo hi:Int} {F:Int->PyData}:((List.range (hi - lo).toNat).map λ(i:Nat)=>F (hi - 1 - i)).reverse=(aL lo (hi - lo).toNat).map F:=by
 unfold aL;rw [vg];apply v7;intro i;by_cases hi':i < (hi - lo).toNat
 ·rw [xF (by simpa using hi'),uO,vq,uT,uT,u7 (by omega),u7 hi']
  show some (F (hi - 1 - (((hi - lo).toNat - 1 - i:Nat):Int)))=some (F (lo+(i:Int)));congr 2;omega
 ·rw [vh (by simpa using hi'),vh (by simpa using hi')]
theorem Zod {s:Shp} (h:s.Ok) {low:Int} (hl:low<=s.top) (hl0:-1000<=low) {g:Int->Int} {b:Nat} (hg:∀ x,low<=x->x<=s.top->nb b (g x)) {sc:Int} (hs:nb b sc) (hK:0<=sc * s.start) (hb:b<=3000) :
  oF [.d s.d,.d (.int low),.d (lI ((aL low (s.top+1 - low).toNat).map g)),.d (.int sc)]=.ret (.own ((aL low (s.top+1 - low).toNat).map (c9 g s.top (sc * s.start) (sc * s.piece)))):=by
 have:=h.t0;have:=h.d0;have:=h.td;have hn:0 < (s.top+1 - low).toNat:=by omega
 have hlen:(((aL low (s.top+1 - low).toNat).map g).map PyData.int).length=(s.top+1 - low).toNat:=by rw [uO,uO,gG]
 have hat:∀ x,low<=x->x<=s.top->(((aL low (s.top+1 - low).toNat).map g).map PyData.int)[(x - low).toNat]?=some (.int (g x)):=λx h1 h2=>by
  unfold aL;rw [vg,vg,uT,u7 (by omega)]
  show some (PyData.int (g (low+((x - low).toNat:Int))))=_;congr 3;omega
 have hlast:bp (((aL low (s.top+1 - low).toNat).map g).map PyData.int) (-1)=some (.int (g s.top)):=ZpV (by
  rw [hlen];have:=hat s.top hl (vz _);have e:(s.top - low).toNat=(s.top+1 - low).toNat - 1:=by
   obtain ⟨k,hk⟩:=xr (Int.sub_nonneg_of_le hl);have hk2:s.top+1 - low=((k+1:Nat):Int):=by omega
   rw [hk,hk2]
   rfl
  rw [e] at this;exact this)
 have r1:fE low=true:=ff (by omega) (by omega)
 have r2:fE (s.top+1)=true:=ff (by omega) (by omega)
 have f1:=bc hs (by omega)
 have f2:=bc h.start (by decide)
 have f3:=bc h.piece (by decide)
 have f4:=bc (cx hs h.piece) (by omega)
 apply ui;simp_arith only [oF,lI,hlast,tq r1 r2];refine eO (n:=0) (n':=0) (P:=λo=>∃ J5 J6 J7 J8 J9:Sl,o=.next [.d s.d,.d (.int low),.d (.list (((aL low (s.top+1 - low).toNat).map g).map PyData.int)),.d (.int sc),.own ((List.range (s.top+1 - low).toNat).map λ(i:Nat)=>c9 g s.top (sc * s.start) (sc * s.piece) (s.top+1 - 1 - i)),J5,J6,J7,J8,J9]) ?_ (by decide) ?_
 ·refine pA (n:=0) (λpre ρ=>∃ J6 J7 J8 J9:Sl,ρ=[.d s.d,.d (.int low),.d (.list (((aL low (s.top+1 - low).toNat).map g).map PyData.int)),.d (.int sc),.own ((List.range pre.length).map λ(i:Nat)=>c9 g s.top (sc * s.start) (sc * s.piece) (s.top+1 - 1 - i)),.d (.tuple [.int (bst g s.top (pre.length - 1)).1,.int (bst g s.top (pre.length - 1)).2]),J6,J7,J8,J9]) ⟨.un,.un,.un,.un,rfl⟩ (by simp) ?_ ?_
  ·rintro pre x post ρ e ⟨J6,J7,J8,J9,rfl⟩;obtain ⟨rfl,hpre⟩:=Zh0 e;refine ⟨_,rfl,?_⟩;generalize hk:pre.length=k at hpre ⊢;have hx1:low<=s.top+1 - 1 - (k:Int):=by omega
   have hx2:s.top+1 - 1 - (k:Int)<=s.top:=by omega
   have ha:bp (((aL low (s.top+1 - low).toNat).map g).map PyData.int) (s.top+1 - 1 - (k:Int) - low)=some (.int (g (s.top+1 - 1 - (k:Int)))):=fJ (by omega) (hat _ hx1 hx2)
   have hxn:nb 20 (s.top+1 - 1 - (k:Int)):=cR (by show -1048576 < _; omega) (by show _ < 1048576; omega)
   have f5:=bc hxn (by decide)
   have hsm:small (((List.range k).map λ(i:Nat)=>c9 g s.top (sc * s.start) (sc * s.piece) (s.top+1 - 1 - i)).length+1)=true:=cu (by rw [uO,vq]; omega)
   have el:(pre++[PyData.int (s.top+1 - 1 - (k:Int))]).length=k+1:=by rw [vF,hk]; rfl
   have m1:ce iy [.tuple [.int (g (s.top+1 - 1 - (k:Int))),.int (s.top+1 - 1 - (k:Int))],.tuple [.int (sc * s.start+(bst g s.top (k - 1)).1),.int (bst g s.top (k - 1)).2]]=.ret (.tuple [.int (pck g s.top (sc * s.start) (s.top+1 - 1 - (k:Int))).1,.int (pck g s.top (sc * s.start) (s.top+1 - 1 - (k:Int))).2]):=by
    rw [tu];cases k with
    | zero =>
     have ex:s.top+1 - 1 - ((0:Nat):Int)=s.top:=by simp
     rw [ex,i8,if_neg];show ¬ (sc * s.start+g s.top < g s.top\/sc * s.start+g s.top=g s.top/\s.top < s.top);omega
    | succ n =>
     have ex:s.top+1 - 1 - ((n+1:Nat):Int)=s.top - ((n+1:Nat):Int):=by omega
     rw [ex,i9,Nat.add_sub_cancel];have hb:=(pe g s.top n).1;by_cases hc:sc * s.start+(bst g s.top n).1 < g (s.top - ((n+1:Nat):Int))
     ·rw [if_pos (.inl hc),if_pos hc]
     ·rw [if_neg (by omega),if_neg hc]
   have m2:ce iy [.tuple [.int (g (s.top+1 - 1 - (k:Int))),.int (s.top+1 - 1 - (k:Int))],.tuple [.int (bst g s.top (k - 1)).1,.int (bst g s.top (k - 1)).2]]=.ret (.tuple [.int (bst g s.top k).1,.int (bst g s.top k).2]):=by
    rw [tu];cases k with
    | zero =>
     have ex:s.top+1 - 1 - ((0:Nat):Int)=s.top:=by simp
     rw [ex,if_neg]
     ·rfl
     ·show ¬ (g s.top < g s.top\/g s.top=g s.top/\s.top < s.top);omega
    | succ n =>
     have ex:s.top+1 - 1 - ((n+1:Nat):Int)=s.top - ((n+1:Nat):Int):=by omega
     rw [ex,Nat.add_sub_cancel];have hb:=(pe g s.top n).1;rw [bst];by_cases hc:(bst g s.top n).1 < g (s.top - ((n+1:Nat):Int))
     ·rw [if_pos (.inl hc),if_pos hc]
     ·rw [if_neg (by omega),if_neg hc]
   simp_arith only [Zdw,ha,m1,m2,f1,f2,f3,f4,f5,hsm];rw [el,wW,vW];exact c7 ⟨_,rfl,_,_,_,_,rfl⟩
  ·rintro ρ ⟨J6,J7,J8,J9,rfl⟩;rw [wI,cw];exact ⟨_,J6,J7,J8,J9,rfl⟩
 ·rintro _ ⟨J5,J6,J7,J8,J9,rfl⟩;simp_arith only [xn];rw [Zh3];exact c7 rfl
theorem Zel {s:Shp} (h:s.Ok) {g:Int->Int} {b:Nat} (hg:Bd s b g) {sc:Int} (hs:nb b sc) (h0:0<=sc) (hb:b<=3000) :
  kl [.d s.d,.d (lI (s.row g)),.d (.int sc)]=.ret (.own ((aL (-s.depth) s.n).map (c9 g s.top (sc * s.start) (sc * s.piece)))):=by
 have:=h.t0;have:=h.d0;have:=h.td;have e:=Zod h (low:=-s.depth) (by omega) (by omega) (λx h1 h2=>hg x h1 h2) hs (v6 h0 h.start0) hb
 simp_arith only [kl];unfold Shp.row Shp.n;rw [e];simp_arith only [xn]
end My
namespace My
open L2 Tw Bar
noncomputable def b7 (A:Nat->Nat->Int) (n k i:Nat):PyData:=.list (((List.range (n+1)).map λj=>M A k i (col A j)).map PyData.int)
noncomputable def bR (A:Nat->Nat->Int) (n k at':Nat):yx:=(List.range n).map λi=>if i < at' then b7 A n (k+1) i else b7 A n k i
structure SvOk (A:Nat->Nat->Int) (n:Nat):Prop where
 n9:n<=9
 d0:∀ j,j<=n->0 < d A j
 nb:∀ k i j,k<=n->i < n->j<=n->Tw.nb 3000 (M A k i (col A j))
 nd:∀ j,j<=n->Tw.nb 3000 (d A j)
theorem gD (A:Nat->Nat->Int) (n k at':Nat):(bR A n k at').length=n:=by unfold bR; rw [uO,vq]
theorem iX (A:Nat->Nat->Int) {n k at' i:Nat} (h:i < n):(bR A n k at')[i]?=some (if i < at' then b7 A n (k+1) i else b7 A n k i):=by
 unfold bR;rw [uT,u7 h]
 rfl
theorem ZhM {A:Nat->Nat->Int} {n k:Nat} (h:SvOk A n) (hk:k < n):b7 A n (k+1) k=b7 A n k k:=by
 unfold b7;congr 2;refine vP λj _=>?_;exact Zq0 A (λj hj=>Int.ne_of_gt (h.d0 j (by omega))) _
theorem ZhK {A:Nat->Nat->Int} {n k i:Nat} (hi:i < n):(bR A n k i).set i (b7 A n (k+1) i)=bR A n k (i+1):=by
 refine v7 λq=>?_;rw [List.getElem?_set,gD];by_cases e:i=q
 ·subst e;rw [if_pos rfl,if_pos hi,iX A hi,if_pos (by omega)]
 ·rw [if_neg e];by_cases hq:q < n
  ·rw [iX A hq,iX A hq];by_cases h2:q < i
   ·rw [if_pos h2,if_pos (by omega)]
   ·rw [if_neg h2,if_neg (by omega)]
  ·rw [vh (by rw [gD]; omega),vh (by rw [gD]; omega)]
theorem ZhJ {A:Nat->Nat->Int} {n k:Nat} (h:SvOk A n) (hk:k < n):bR A n k k=bR A n k (k+1):=by
 refine v7 λq=>?_;by_cases hq:q < n
 ·rw [iX A hq,iX A hq];by_cases h2:q < k
  ·rw [if_pos h2,if_pos (by omega)]
  ·rw [if_neg h2];by_cases h3:q=k
   ·subst h3;rw [if_pos (by omega),ZhM h hk]
   ·rw [if_neg (by omega)]
 ·rw [vh (by rw [gD]; omega),vh (by rw [gD]; omega)]
theorem ZhL (A:Nat->Nat->Int) (n k:Nat):bR A n k n=bR A n (k+1) 0:=by
 unfold bR;refine vP λi hi=>?_;have:=vQ.mp hi;rw [if_pos this,if_neg (by omega)]
theorem Zlb {a m:Int} (ha:0 < a):(a * m).fdiv a=m:=by
 rw [x9 _ (by omega)]
 exact Int.mul_ediv_cancel_left m (by omega)
theorem ZbI {A:Nat->Nat->Int} {n k i j:Nat} (hj:j<=n):aT aE (b7 A n k i) (.int j)=.ret (.int (M A k i (col A j))):=by
 unfold b7;rw [mh,fJ (v:=.int (M A k i (col A j))) (by omega) (by rw [vH,uT,uT,u7 (by omega)]; rfl)]
 rfl
theorem ZgY {A:Nat->Nat->Int} {n k i:Nat} (h:SvOk A n) (hk:k < n) (hi:i < n) (hik:i≠k):bG (cm (bv (az (aj 0) (az (aj 1) br))) lu [.un,.un,.d (.int (d A k)),.d (.int (d A (k+1))),.d (.int (M A k i (col A k)))]) (bw (((List.range (n+1)).map λj=>M A k i (col A j)).map PyData.int) (((List.range (n+1)).map λj=>M A k k (col A j)).map PyData.int))=.ret (((List.range (n+1)).map λj=>M A (k+1) i (col A j)).map PyData.int):=by
 have key:∀ l:List Nat,(∀ j∈l,j<=n)->bG (cm (bv (az (aj 0) (az (aj 1) br))) lu [.un,.un,.d (.int (d A k)),.d (.int (d A (k+1))),.d (.int (M A k i (col A k)))]) (bw ((l.map λj=>M A k i (col A j)).map PyData.int) ((l.map λj=>M A k k (col A j)).map PyData.int))=.ret ((l.map λj=>M A (k+1) i (col A j)).map PyData.int):=by
  intro l
  induction l with
  | nil=>intro _; rfl
  | cons j l ih =>
   intro hl;have hj:=hl j (by simp)
   have ih':=ih λq hq=>hl q (uP _ hq);have st:=ZqZ A (k:=k) (λq hq=>Int.ne_of_gt (h.d0 q (by omega))) (col A j) hik
   rw [uH] at st;have dk:=h.d0 k (by omega)
   have f1:=bc (h.nd k (by omega)) (by decide)
   have f2:=bc (h.nd (k+1) (by omega)) (by decide)
   have f3:=bc (h.nb k i j (by omega) hi hj) (by decide)
   have f4:=bc (h.nb k i k (by omega) hi (by omega)) (by decide)
   have f5:=bc (h.nb k k j (by omega) hk hj) (by decide)
   have ed:aT gk (.int (d A (k+1) * M A k i (col A j) - M A k i (col A k) * M A k k (col A j))) (.int (d A k))=.ret (.int (M A (k+1) i (col A j))):=by
    rw [tw (by omega) f1,<- st,Zlb dk]
   have e0:cm (bv (az (aj 0) (az (aj 1) br))) lu [.un,.un,.d (.int (d A k)),.d (.int (d A (k+1))),.d (.int (M A k i (col A k)))] (.tuple [.int (M A k i (col A j)),.int (M A k k (col A j))])=.ret (.int (M A (k+1) i (col A j))):=by
    simp_arith only [lu,f2,f3,f4,f5,ed]
   have ez:bw (((j::l).map λj=>M A k i (col A j)).map PyData.int) (((j::l).map λj=>M A k k (col A j)).map PyData.int)=.tuple [.int (M A k i (col A j)),.int (M A k k (col A j))]::bw ((l.map λj=>M A k i (col A j)).map PyData.int) ((l.map λj=>M A k k (col A j)).map PyData.int):=rfl;rw [ez,bG,e0,Tr.ret_bind,ih']
   rfl
 exact key _ λj hj=>by have:=vQ.mp hj; omega
theorem sv1 {A:Nat->Nat->Int} {n k i:Nat} (h:SvOk A n) (hk:k < n) (hi:i < n) (J6:Sl):∃ K6:Sl,l7 [.own (bR A n k i),.d (.int (d A k)),.d (.int k),.d (b7 A n k k),.d (.int (d A (k+1))),.d (.int i),J6]=.ret (.next [.own (bR A n k (i+1)),.d (.int (d A k)),.d (.int k),.d (b7 A n k k),.d (.int (d A (k+1))),.d (.int i),K6]):=by
 by_cases e:i=k
 ·subst e;have c:(!((i:Int) == (i:Int)))=false:=by simp
  refine ⟨J6,?_⟩;rw [<- ZhJ h hk];simp_arith only [l7,c]
 ·have c:(!((i:Int) == (k:Int)))=true:=by simp; omega
  have hat:bp (bR A n k i) (i:Int)=some (b7 A n k i):=fJ (by omega) (by rw [vH,iX A hi,if_neg (by omega)])
  have hix:=ZbI (A:=A) (n:=n) (k:=k) (i:=i) (j:=k) (by omega)
  have er:=ZgY h hk hi e;have i1:cH (b7 A n k i)=.ret (((List.range (n+1)).map λj=>M A k i (col A j)).map PyData.int):=rfl;have i2:cH (b7 A n k k)=.ret (((List.range (n+1)).map λj=>M A k k (col A j)).map PyData.int):=rfl;have hs:small (bw (((List.range (n+1)).map λj=>M A k i (col A j)).map PyData.int) (((List.range (n+1)).map λj=>M A k k (col A j)).map PyData.int)).length=true:=cu (by
   unfold bw;have:=h.n9;simp;omega)
  have hx:cT (bR A n k i).length (i:Int)=some i:=by
   unfold cT;rw [gD,if_pos (by omega),if_pos (by omega)]
   simp
  have e2:PyData.list (((List.range (n+1)).map λj=>M A (k+1) i (col A j)).map PyData.int)=b7 A n (k+1) i:=rfl;refine ⟨.d (.int (M A k i (col A k))),?_⟩;simp_arith only [l7,c,hat,hix,i1,i2,hs,er,tm hx,e2,ZhK hi]
theorem sv2 {A:Nat->Nat->Int} {n k:Nat} (h:SvOk A n) (hk:k < n):∀ (m i:Nat) (J5 J6:Sl),i+m=n->∃ K5 K6:Sl,cb (aj 5) l7 ((aL i m).map PyData.int) [.own (bR A n k i),.d (.int (d A k)),.d (.int k),.d (b7 A n k k),.d (.int (d A (k+1))),J5,J6]=.ret (.next [.own (bR A n k n),.d (.int (d A k)),.d (.int k),.d (b7 A n k k),.d (.int (d A (k+1))),K5,K6])
 | 0,i,J5,J6,e=>⟨J5,J6,by
  have e0:i=n:=by omega
  rw [e0]; rfl⟩
 | m+1,i,J5,J6,e=>by
  obtain ⟨K6,e1⟩:=sv1 h hk (show i < n by omega) J6
  obtain ⟨L5,L6,e2⟩:=sv2 h hk m (i+1) (.d (.int i)) K6 (by omega)
  refine ⟨L5,L6,?_⟩;have er:(aL (i:Int) (m+1)).map PyData.int=.int (i:Int)::(aL ((i+1:Nat):Int) m).map PyData.int:=by
   have e1:aL (i:Int) (m+1)=aL (i:Int) 1++aL ((i:Int)+(1:Nat)) m:=by rw [<- ZbY,xC]
   have e2:aL (i:Int) 1=[(i:Int)]:=by unfold aL; simp
   have e3:((i+1:Nat):Int)=(i:Int)+(1:Nat):=by omega
   rw [e1,e2,e3]
   rfl
  have eg:aj 5 (.int (i:Int)) [.own (bR A n k i),.d (.int (d A k)),.d (.int k),.d (b7 A n k k),.d (.int (d A (k+1))),J5,J6]=some [.own (bR A n k i),.d (.int (d A k)),.d (.int k),.d (b7 A n k k),.d (.int (d A (k+1))),.d (.int i),J6]:=rfl;rw [er,iE,eg,Tr.of_some,Tr.ret_bind,mi,e1,Tr.ret_bind,gR,e2]
theorem sv3 {A:Nat->Nat->Int} {n k:Nat} (h:SvOk A n) (hk:k < n) (J3 J4 J5 J6:Sl):∃ K3 K4 K5 K6:Sl,oH [.own (bR A n k 0),.d (.int (d A k)),.d (.int k),J3,J4,J5,J6]=.ret (.next [.own (bR A n (k+1) 0),.d (.int (d A (k+1))),.d (.int k),K3,K4,K5,K6]):=by
 have n9:=h.n9;obtain ⟨K5,K6,e⟩:=sv2 h hk n 0 J5 J6 (by omega)
 have hat:bp (bR A n k 0) (k:Int)=some (b7 A n k k):=fJ (by omega) (by rw [vH,iX A hk,if_neg (by omega)])
 have hix:=ZbI (A:=A) (n:=n) (k:=k) (i:=k) (j:=k) (by omega)
 rw [uH] at hix;have hl:(bR A n k 0).length=n:=gD A n k 0;have r1:gE [.int (n:Int)]=.ret ((aL ((0:Nat):Int) n).map PyData.int):=by
  rw [kF (ff (by omega) (by omega))]
  unfold aH;have:((n:Int) - 0).toNat=n:=by omega
  rw [this]
  rfl
 refine ⟨.d (b7 A n k k),.d (.int (d A (k+1))),K5,K6,?_⟩;rw [<- ZhL];simp_arith only [oH,hat,hix,hl,r1,e]
theorem sv4 {A:Nat->Nat->Int} {n:Nat} (h:SvOk A n):∀ (m k:Nat) (J2 J3 J4 J5 J6:Sl),k+m=n->∃ K2 K3 K4 K5 K6:Sl,cb (aj 2) oH ((aL k m).map PyData.int) [.own (bR A n k 0),.d (.int (d A k)),J2,J3,J4,J5,J6]=.ret (.next [.own (bR A n n 0),.d (.int (d A n)),K2,K3,K4,K5,K6])
 | 0,k,J2,J3,J4,J5,J6,e=>⟨J2,J3,J4,J5,J6,by
  have e0:k=n:=by omega
  rw [e0]; rfl⟩
 | m+1,k,J2,J3,J4,J5,J6,e=>by
  obtain ⟨K3,K4,K5,K6,e1⟩:=sv3 h (show k < n by omega) J3 J4 J5 J6
  obtain ⟨L2,L3,L4,L5,L6,e2⟩:=sv4 h m (k+1) (.d (.int k)) K3 K4 K5 K6 (by omega)
  refine ⟨L2,L3,L4,L5,L6,?_⟩;have er:(aL (k:Int) (m+1)).map PyData.int=.int (k:Int)::(aL ((k+1:Nat):Int) m).map PyData.int:=by
   have e1:aL (k:Int) (m+1)=aL (k:Int) 1++aL ((k:Int)+(1:Nat)) m:=by rw [<- ZbY,xC]
   have e2:aL (k:Int) 1=[(k:Int)]:=by unfold aL; simp
   have e3:((k+1:Nat):Int)=(k:Int)+(1:Nat):=by omega
   rw [e1,e2,e3]
   rfl
  have eg:aj 2 (.int (k:Int)) [.own (bR A n k 0),.d (.int (d A k)),J2,J3,J4,J5,J6]=some [.own (bR A n k 0),.d (.int (d A k)),.d (.int k),J3,J4,J5,J6]:=rfl;rw [er,iE,eg,Tr.of_some,Tr.ret_bind,mi,e1,Tr.ret_bind,gR,e2]
theorem Zej {A:Nat->Nat->Int} {n:Nat} (h:SvOk A n):on [.own ((List.range n).map λi=>.list (((List.range (n+1)).map λj=>A i j).map PyData.int))]=.ret (.d (.tuple [.list (((List.range n).map λi=>M A n i (col A n)).map PyData.int),.int (d A n)])):=by
 have n9:=h.n9;have e0:((List.range n).map λi=>PyData.list (((List.range (n+1)).map λj=>A i j).map PyData.int))=bR A n 0 0:=by
  unfold bR;refine vP λi _=>?_;rw [if_neg (by omega)]
  unfold b7;congr 2;refine vP λj _=>?_;rw [ZqY]
  rfl
 obtain ⟨K2,K3,K4,K5,K6,e⟩:=sv4 h n 0 .un .un .un .un .un (by omega)
 rw [o6] at e;have hl:(bR A n 0 0).length=n:=gD A n 0 0;have r1:gE [.int (n:Int)]=.ret ((aL ((0:Nat):Int) n).map PyData.int):=by
  rw [kF (ff (by omega) (by omega))]
  unfold aH;have:((n:Int) - 0).toNat=n:=by omega
  rw [this]
  rfl
 have hs:small (bR A n n 0).length=true:=cu (by rw [gD]; omega)
 have em:bG (cm (aj 0) lr [.un]) (bR A n n 0)=.ret (((List.range n).map λi=>M A n i (col A n)).map PyData.int):=by
  have key:∀ l:List Nat,(∀ i∈l,i < n)->bG (cm (aj 0) lr [.un]) (l.map λi=>if i < 0 then b7 A n (n+1) i else b7 A n n i)=.ret ((l.map λi=>M A n i (col A n)).map PyData.int):=by
   intro l
   induction l with
   | nil=>intro _; rfl
   | cons i l ih =>
    intro hi;have ih':=ih λq hq=>hi q (uP _ hq);have hix:aT aE (b7 A n n i) (.int (-1))=.ret (.int (M A n i (col A n))):=by
     unfold b7;have hl:(((List.range (n+1)).map λj=>M A n i (col A j)).map PyData.int).length=n+1:=by rw [uO,uO,vq]
     have ha:bp (((List.range (n+1)).map λj=>M A n i (col A j)).map PyData.int) (-1)=some (.int (M A n i (col A n))):=by
      unfold bp cT;rw [hl,if_neg (by omega),if_pos (by omega)]
      have:(-1+((n+1:Nat):Int)).toNat=n:=by omega
      simp only [Option.bind_some,this];rw [uT,uT,u7 (by omega)]
      rfl
     rw [mh,ha]
     rfl
    have e1:cm (aj 0) lr [.un] (b7 A n n i)=.ret (.int (M A n i (col A n))):=by
     simp_arith only [lr,hix]
    rw [uX,if_neg (by omega),bG,e1,Tr.ret_bind,ih']
    rfl
  exact key _ λi hi=>vQ.mp hi
 rw [e0];simp_arith only [on,hl,r1,e,hs,em]
noncomputable def lA (s:Shp) (one:yy) (y:Int) (j:Nat):Int:=ws (λf=>if (s.nx y f+s.depth).toNat=j then 1 else 0) 0 one
noncomputable def cB (s:Shp) (one:yy) (x y:Int):Int:=one.sum * s.ord x y+s.wg one y (λ_=>0) 1
noncomputable def bP (s:Shp) (one:yy) (lv:Nat->Int) (n i j:Nat):Int:=if j=n then cB s one ((i:Int) - s.depth) (lv i) else if j=0 then one.sum else (if i=j then one.sum else 0) - lA s one (lv i) j
noncomputable def bC (n:Nat) (r:Nat->Int):yx:=((List.range n).map r).map PyData.int
theorem jY (n:Nat) (r:Nat->Int):(bC n r).length=n:=by unfold bC; rw [uO,uO,vq]
theorem li {n:Nat} {r:Nat->Int} {j:Nat} (h:j < n):(bC n r)[j]?=some (.int (r j)):=by
 unfold bC;rw [uT,uT,u7 h]
 rfl
theorem qZ {n:Nat} {r:Nat->Int} {j:Nat} (h:j < n) (v:Int):(bC n r).set j (.int v)=bC n λq=>if q=j then v else r q:=by
 refine v7 λq=>?_;rw [List.getElem?_set,jY];by_cases e:j=q
 ·subst e;rw [if_pos rfl,if_pos h,li h,if_pos rfl]
 ·rw [if_neg e];by_cases hq:q < n
  ·rw [li hq,li hq,if_neg (by omega)]
  ·rw [vh (by rw [jY]; omega),vh (by rw [jY]; omega)]
theorem q9 {n:Nat} {r r':Nat->Int} (h:∀ j,j < n->r j=r' j):bC n r=bC n r':=by
 unfold bC;congr 1;exact vP λj hj=>h j (vQ.mp hj)
theorem Zed {s:Shp} (h:s.Ok) {y:Int} (y1:-s.depth<=y) (y2:y<=s.top) (O X7 X8:Sl) (x:Sl):∀ (l:yy) (k:Nat) (r:Nat->Int) (J5 J6:Sl),∃ K5 K6:Sl,cb (bv (az (aj 5) (az (aj 6) br))) oI (enu k l) [.d s.d,O,x,.d (.int y),.own (bC s.n r),J5,J6,X7,X8]=.ret (.next [.d s.d,O,x,.d (.int y),.own (bC s.n λj=>r j - ws (λf=>if (s.nx y f+s.depth).toNat=j then 1 else 0) k l),K5,K6,X7,X8])
 | [],k,r,J5,J6=>⟨J5,J6,by
  have e:bC s.n (λj=>r j - ws (λf=>if (s.nx y f+s.depth).toNat=j then 1 else 0) k [])=bC s.n r:=q9 λj _=>by rw [ws,Int.sub_zero]
  rw [e]
  rfl⟩
 | w::l,k,r,J5,J6=>by
  have n1:=ji s y k;have n2:=jh h y2 (show (0:Int)<=k by omega)
  have hn:=h.n_eq;have hj:(s.nx y k+s.depth).toNat < s.n:=by omega
  obtain ⟨K5,K6,e⟩:=Zed h y1 y2 O X7 X8 x l (k+1) (λj=>if j=(s.nx y k+s.depth).toNat then r (s.nx y k+s.depth).toNat - w else r j) (.d (.int k)) (.d (.int w))
  refine ⟨K5,K6,?_⟩;have e1:=tE s y k;have ha:=Zea (g:=λi j=>i - j) (k:=4) (i:=aa 6) (ρ:=[.d s.d,O,x,.d (.int y),.own (bC s.n r),.d (.int k),.d (.int w),X7,X8]) (xs:=bC s.n r) (y:=s.nx y k+s.depth) (a:=r (s.nx y k+s.depth).toNat) (by omega) (li hj)
  have et:oI [.d s.d,O,x,.d (.int y),.own (bC s.n r),.d (.int k),.d (.int w),X7,X8]=.ret (.next [.d s.d,O,x,.d (.int y),.own (bC s.n λj=>if j=(s.nx y k+s.depth).toNat then r (s.nx y k+s.depth).toNat - w else r j),.d (.int k),.d (.int w),X7,X8]):=by
   unfold oI;rw [Zd7 (xs:=bC s.n r) rfl];have en:(ae aS (ay (av jn (ad (aa 0) (ad (aa 3) (ad (aa 5) ak))))) (ae aE (aa 0) (aC (.int 1)))) [.d s.d,O,x,.d (.int y),.own (bC s.n r),.d (.int k),.d (.int w),X7,X8]=.ret (.int (s.nx y k+s.depth)):=by
    simp_arith only [e1]
   rw [en,Tr.ret_bind,ha,Zd9];have ew:aa 6 [.d s.d,O,x,.d (.int y),.own (bC s.n r),.d (.int k),.d (.int w),X7,X8]=.ret (.int w):=rfl;rw [ew,Tr.ret_bind,Zd8,qZ hj]
   rfl
  have eg:(bv (az (aj 5) (az (aj 6) br))) (.tuple [.int (k:Int),.int w]) [.d s.d,O,x,.d (.int y),.own (bC s.n r),J5,J6,X7,X8]=some [.d s.d,O,x,.d (.int y),.own (bC s.n r),.d (.int k),.d (.int w),X7,X8]:=rfl;have er:(bC s.n λj=>(if j=(s.nx y k+s.depth).toNat then r (s.nx y k+s.depth).toNat - w else r j) - ws (λf=>if (s.nx y f+s.depth).toNat=j then 1 else 0) (k+1) l)=bC s.n λj=>r j - ws (λf=>if (s.nx y f+s.depth).toNat=j then 1 else 0) k (w::l):=q9 λj hj=>by
   rw [ws];by_cases q:j=(s.nx y k+s.depth).toNat
   ·subst q;rw [if_pos rfl,if_pos rfl];omega
   ·rw [if_neg q,if_neg (λe=>q e.symm)];omega
  rw [enu,iE,eg,Tr.of_some,Tr.ret_bind,mi,et,Tr.ret_bind,gR,e,er]
theorem Zoa {s:Shp} (h:s.Ok) {one:yy} (hd:DayB one) {i:Nat} (hi:i < s.n) {lv:Nat->Int} (y0:(i:Int) - s.depth<=lv i) (y2:lv i<=s.top) :
  oC [.d s.d,.d (tI one),.d (.int ((i:Int) - s.depth)),.d (.int (lv i))]=.ret (.d (.list (((List.range (s.n+1)).map λj=>bP s one lv s.n i j).map PyData.int))):=by
 have hn:=h.n_eq;have t0:=h.t0;have d0:=h.d0;have td:=h.td;have y1:-s.depth<=lv i:=by omega
 have hrep:mo j4 (.list [.int 0]) (.int (s.top+s.depth+1))=.ret (bC s.n λ_=>0):=by
  rw [Zh5 (by simp; omega)]
  have e1:(s.top+s.depth+1).toNat=s.n:=by omega
  rw [e1];unfold bC;congr 1;generalize s.n=m
  induction m with
  | zero=>rfl
  | succ m ih=>rw [List.replicate_succ',List.flatten_append,ih,wW,vW,vW]; rfl
 have ei:(i:Int) - s.depth+s.depth=(i:Int):=by omega
 have ea:jJ (λi j=>i+j) 4 (ae aS (aa 2) (ae aE (aa 0) (aC (.int 1)))) (bh dD (ah (aa 1) aq)) [.d s.d,.d (tI one),.d (.int ((i:Int) - s.depth)),.d (.int (lv i)),.own (bC s.n λ_=>0),.un,.un,.un,.un]=.ret (.next [.d s.d,.d (tI one),.d (.int ((i:Int) - s.depth)),.d (.int (lv i)),.own (bC s.n λj=>if j=i then one.sum else 0),.un,.un,.un,.un]):=by
  rw [Zd7 (xs:=bC s.n λ_=>0) rfl];have en:(ae aS (aa 2) (ae aE (aa 0) (aC (.int 1)))) [.d s.d,.d (tI one),.d (.int ((i:Int) - s.depth)),.d (.int (lv i)),.own (bC s.n λ_=>0),.un,.un,.un,.un]=.ret (.int (i:Int)):=by
   simp_arith only [ei]
  rw [en,Tr.ret_bind,Zea (a:=0) (by omega) (by rw [vH]; exact li hi),Zd9]
  have ew:(bh dD (ah (aa 1) aq)) [.d s.d,.d (tI one),.d (.int ((i:Int) - s.depth)),.d (.int (lv i)),.own (bC s.n λ_=>0),.un,.un,.un,.un]=.ret (.int one.sum):=by
   simp_arith only [gz]
  rw [ew,Tr.ret_bind,Zd8,vH,qZ hi,Int.zero_add]
  rfl
 obtain ⟨K5,K6,eL⟩:=Zed h y1 y2 (.d (tI one)) .un .un (.d (.int ((i:Int) - s.depth))) one 0 (λj=>if j=i then one.sum else 0) .un .un
 have ee:dL (one.map PyData.int)=enu 0 one:=Zeg one;generalize hr:(λj=>(if j=i then one.sum else 0) - ws (λf=>if (s.nx (lv i) f+s.depth).toNat=j then 1 else 0) 0 one)=r at *
 have hx:cT (bC s.n r).length 0=some 0:=by
  unfold cT;rw [jY,if_pos (by omega),if_pos (by omega)]
  rfl
 have hmul:aT bD (.list [.int 0]) (.int (s.n:Int))=.ret (lI (s.row λ_=>0)):=by
  have hsm:small ([PyData.int 0].length * (s.n:Int).toNat)=true:=cu (by rw [vH]; show 1 * _<=_; omega)
  have hc:(decide (-(2 ^ 63)<=(s.n:Int)) && decide ((s.n:Int) < 2 ^ 63) && small ([PyData.int 0].length * (s.n:Int).toNat))=true:=by
   rw [hsm,decide_eq_true (show -(2 ^ 63)<=(s.n:Int) by omega),decide_eq_true (show (s.n:Int) < 2 ^ 63 by omega)]
   rfl
  have ef:(List.replicate s.n [PyData.int 0]).flatten=(s.row λ_=>0).map PyData.int:=by
   unfold Shp.row aL;rw [vg,vg];generalize s.n=m
   induction m with
   | zero=>rfl
   | succ m ih=>rw [List.replicate_succ',List.flatten_append,ih,wW,vW]; rfl
  have em:bD (.list [.int 0]) (.int (s.n:Int))=some (lI (s.row λ_=>0)):=by
   rw [bD,if_pos hc,vH,ef]
   rfl
  unfold aT;rw [em]
  rfl
 have hz:Bd s 1 λ_=>0:=λx _ _=>by show (0:Int).natAbs < 2 ^ 1; decide
 have ew:=oV h hd y1 y2 (hz) (sc:=1) (b:=1) (by show (1:Int).natAbs < 2 ^ 1; decide) (by decide)
 have eo:=tD h (fu h (show -s.depth<=(i:Int) - s.depth by omega) (by omega)) (fu h y1 y2)
 have g1:=bc (dC hd) (by decide)
 have g2:=bc (nN h (fu h (show -s.depth<=(i:Int) - s.depth by omega) (by omega)) (fu h y1 y2)) (by decide)
 have hl4:∀ q:Nat->Int,(bC s.n q).length=s.n:=jY s.n;have hset:(bC s.n r).set 0 (.int one.sum)=bC s.n λq=>if q=0 then one.sum else r q:=qZ (by omega) _
 have hs:small ((bC s.n λq=>if q=0 then one.sum else r q).length+[PyData.int (cB s one ((i:Int) - s.depth) (lv i))].length)=true:=cu (by rw [jY]; show _+1<=_; omega)
 have hfin:(bC s.n λq=>if q=0 then one.sum else r q)++[PyData.int (cB s one ((i:Int) - s.depth) (lv i))]=((List.range (s.n+1)).map λj=>bP s one lv s.n i j).map PyData.int:=by
  rw [wW,vW,vW];have e1:(bC s.n λq=>if q=0 then one.sum else r q)=((List.range s.n).map λj=>bP s one lv s.n i j).map PyData.int:=q9 λj hj=>by
   unfold bP;rw [if_neg (show ¬ j=s.n by omega)]
   by_cases e:j=0
   ·rw [if_pos e,if_pos e]
   ·rw [if_neg e,if_neg e,<- hr];unfold lA;dsimp only;by_cases e2:j=i
    ·rw [if_pos e2,if_pos e2.symm]
    ·rw [if_neg e2,if_neg (λq=>e2 q.symm)]
  have e2:([s.n].map λj=>bP s one lv s.n i j).map PyData.int=[PyData.int (cB s one ((i:Int) - s.depth) (lv i))]:=by
   unfold bP;simp
  rw [e1,e2]
 have hadd:aT aS (.list (bC s.n λq=>if q=0 then one.sum else r q)) (.list [PyData.int (cB s one ((i:Int) - s.depth) (lv i))])=.ret (.list (((List.range (s.n+1)).map λj=>bP s one lv s.n i j).map PyData.int)):=by rw [oU hs,hfin]
 unfold cB at hadd;simp_arith only [oC,hrep,ea,oN,ee,eL,gz,tm hx,hset,hl4,hmul,eo,ew,g1,g2,hadd]
theorem qd {f:Int->Int}:∀ {l:yy} {k:Nat},(∀ w∈l,0<=w)->(∀ x:Int,0<=f x)->0<=ws f k l
 | [],k,_,_=>by rw [ws]; exact vz _
 | w::l,k,h0,hf=>by
  have a:=qd (f:=f) (l:=l) (k:=k+1) (λv hv=>h0 v (uP _ hv)) hf;have b:=v6 (h0 w (by simp)) (hf k)
  rw [ws];omega
theorem qb {f:Int->Int}:∀ {l:yy} {k:Nat},(∀ w∈l,0<=w)->(∀ x:Int,0<=f x)->∀ {x:Int},x∈cF k l->0 < f x->0 < ws f k l
 | [],k,_,_,x,hx,_=>by cases hx
 | w::l,k,h0,hf,x,hx,hp=>by
  have h0':∀ v∈l,0<=v:=λv hv=>h0 v (uP _ hv);have a:=qd (f:=f) (l:=l) (k:=k+1) h0' hf;have b:=v6 (h0 w (by simp)) (hf k)
  rw [ws];rw [cF] at hx;by_cases hw:w > 0
  ·rw [if_pos hw] at hx;rcases uV.mp hx with rfl | hx
   ·have:=wZ hw hp;omega
   ·have:=qb h0' hf hx hp;omega
  ·rw [if_neg hw] at hx;have:=qb h0' hf hx hp;omega
theorem Zg2 {g:Nat} {n:Nat} (h:g < n) (w:Int):Bar.am (λj=>w * (if g=j then 1 else 0)) n=w:=by
 have key:∀ m:Nat,Bar.am (λj=>w * (if g=j then 1 else 0)) m=if g < m then w else 0:=by
  intro m
  induction m with
  | zero=>rfl
  | succ m ih =>
   rw [Bar.am,ih];by_cases e:g=m
   ·subst e;rw [if_neg (by omega),if_pos rfl,if_pos (by omega)]
    omega
   ·rw [if_neg e];by_cases e2:g < m
    ·rw [if_pos e2,if_pos (by omega)]
     omega
    ·rw [if_neg e2,if_neg (by omega)]
     omega
 rw [key,if_pos h]
theorem qv (f g:Nat->Int):∀ n:Nat,Bar.am (λj=>f j+g j) n=Bar.am f n+Bar.am g n
 | 0=>rfl
 | n+1=>by rw [Bar.am,Bar.am,Bar.am,qv f g n]; omega
theorem ZaS {n:Nat} {ix:Int->Nat} (h:∀ x:Int,0<=x->ix x < n):∀ (l:yy) (k:Nat),Bar.am (λj=>ws (λf=>if ix f=j then 1 else 0) k l) n=l.sum
 | [],k=>by
  rw [kY λj _=>by rw [ws]]
  rfl
 | w::l,k=>by
  have ih:=ZaS h l (k+1);have e:(λj=>ws (λf=>if ix f=j then 1 else 0) k (w::l))=λj=>w * (if ix (k:Int)=j then 1 else 0)+ws (λf=>if ix f=j then 1 else 0) (k+1) l:=funext λj=>by rw [ws]
  rw [e,qv,Zg2 (h k (by omega)),ih,wx]
structure RuOk (s:Shp) (one:yy) (lv:Nat->Int):Prop where
 h:s.Ok
 n9:s.n<=9
 hd:DayB one
 gr:s.top+s.depth<=great one
 ps:∃ w∈one,w > 0
 lo:∀ i,i < s.n->(i:Int) - s.depth<=lv i
 hi:∀ i,i < s.n->lv i<=s.top
theorem lB {s:Shp} {one:yy} {lv:Nat->Int} (r:RuOk s one lv):Pol s.n (bP s one lv s.n) (λi j=>lA s one (lv i) j) one.sum:=by
 have h:=r.h;have hn:=h.n_eq;have t0:=h.t0;have d0:=h.d0;refine ⟨r.hd.pos,λi hi=>?_,λi j hi j1 j2=>?_,λi j _ _=>?_,λi hi=>?_,λi hi=>?_⟩
 ·unfold bP;rw [if_neg (by omega),if_pos rfl]
 ·unfold bP;rw [if_neg (by omega),if_neg (by omega)]
 ·exact qd r.hd.w0 λx=>by split <;> omega
 ·have y2:=r.hi i hi;have y1:=r.lo i hi;have hg:=(lQ (qA (k:=0) r.ps)).1;refine qb r.hd.w0 (λx=>by split <;> omega) (x:=great one) hg ?_
  have gr:=r.gr;have en:s.nx (lv i) (great one)=-s.depth:=by unfold Shp.nx cS; split <;> omega
  rw [en,if_pos (by omega)]
  decide
 ·exact ZaS (ix:=λf=>(s.nx (lv i) f+s.depth).toNat) (λx hx=>by
   have n1:=ji s (lv i) x;have n2:=jh h (r.hi i hi) hx;omega) one 0
theorem ZpN {s:Shp} {one:yy} {lv:Nat->Int} (r:RuOk s one lv) {i:Nat} (hi:i < s.n):nb 160 (cB s one ((i:Int) - s.depth) (lv i)):=by
 have h:=r.h;have hn:=h.n_eq;have t0:=h.t0;have d0:=h.d0;have y2:=r.hi i hi;have y1:=r.lo i hi;have a1:=cx (dC r.hd) (nN h (fu h (show -s.depth<=(i:Int) - s.depth by omega) (show (i:Int) - s.depth<=s.top by omega)) (fu h (show -s.depth<=lv i by omega) y2))
 have a2:nb (30+110+one.length) (s.wg one (lv i) (λ_=>0) 1):=by
  unfold Shp.wg;refine Zad (a:=30) (b:=110) r.hd.nb λx x1 x2=>?_;have hl:=r.hd.len;have:=o5 h (fu h (show -s.depth<=lv i by omega) y2) (show nb 40 x from cR (by show -1099511627776 < _; omega) (by show _ < 1099511627776; omega))
  rw [xY,Int.add_zero];exact bn this (by decide)
 unfold cB;exact bn (eZ a1 a2) (by have:=r.hd.len; omega)
theorem kG {s:Shp} {one:yy} {lv:Nat->Int} (r:RuOk s one lv) {i j:Nat} (hi:i < s.n):nb 160 (bP s one lv s.n i j):=by
 unfold bP
 split
 ·exact ZpN r hi
 ·split
  ·exact bn (dC r.hd) (by decide)
  ·have h1:nb 46 (if i=j then one.sum else 0):=by
    split
    ·exact dC r.hd
    ·exact ke _
   have h2:nb (30+1+one.length) (lA s one (lv i) j):=Zae (a:=30) (b:=1) (λx _=>by
    split
    ·show (1:Int).natAbs < 2 ^ 1; decide
    ·exact ke _) r.hd.nb
   exact bn (fy h1 h2) (by have:=r.hd.len; omega)
theorem ZaL {s:Shp} {one:yy} {lv:Nat->Int} (r:RuOk s one lv):SvOk (bP s one lv s.n) s.n:=by
 have p:=lB r;refine ⟨r.n9,λj hj=>leads p j hj,λk i j hk hi hj=>?_,λj hj=>?_⟩
 ·exact bn (ZfN (b:=160) r.n9 (λi j hi _=>kG r hi) hk hi λq hq=>kG r hq) (by decide)
 ·exact bn (tL (b:=160) r.n9 (λi j hi _=>kG r hi) hj) (by decide)
noncomputable def zB (s:Shp) (one:yy) (lv:Nat->Int) (i:Nat):Int:=M (bP s one lv s.n) s.n i (col (bP s one lv s.n) s.n)
noncomputable def aW (s:Shp) (one:yy) (lv:Nat->Int):Int:=d (bP s one lv s.n) s.n
noncomputable def wB (s:Shp) (one:yy) (lv:Nat->Int) (x:Int):Int:=if x=-s.depth then 0 else zB s one lv (x+s.depth).toNat
theorem ZeK (xs:yx):L2.fH xs (some 1) none=xs.drop 1:=by
 unfold L2.fH;have e1:(1:Int)=((1:Nat):Int):=rfl;rw [e1,HT.ZbH,HT.ZhG];cases xs with
 | nil=>rfl
 | cons x xs =>
  rw [xB (by simp),List.take_of_length_le (by rw [wG]; exact uQ _)]
theorem Zah {s:Shp} (h:s.Ok) (one:yy) (lv:Nat->Int):PyData.int 0::(((List.range s.n).map (zB s one lv)).map PyData.int).drop 1=(s.row (wB s one lv)).map PyData.int:=by
 have hn:=h.n_eq;have t0:=h.t0;have d0:=h.d0;unfold Shp.row aL;rw [vg,vg,vg];refine v7 λq=>?_;rw [uT];cases q with
 | zero =>
  rw [u7 (by omega)]
  show some (PyData.int 0)=some (PyData.int (wB s one lv (-s.depth+((0:Nat):Int))));unfold wB;rw [if_pos (by omega)]
 | succ q =>
  rw [xq,List.getElem?_drop,uT,xC 1 q];by_cases hq:q+1 < s.n
  ·rw [u7 hq];show some (PyData.int (zB s one lv (q+1)))=some (PyData.int (wB s one lv (-s.depth+((q+1:Nat):Int))));unfold wB;have e:(-s.depth+((q+1:Nat):Int)+s.depth).toNat=q+1:=by omega
   rw [if_neg (by omega),e]
  ·rw [vh (by rw [vq]; omega)]
   rfl
theorem Zc6 {s:Shp} {one:yy} {lv:Nat->Int} (r:RuOk s one lv):bG (cm (bv (az (aj 0) (az (aj 1) br))) lx [.un,.un,.d s.d,.d (tI one)]) (bw (aH (-s.depth) (s.top+1)) (((List.range s.n).map lv).map PyData.int))=.ret ((List.range s.n).map λi=>.list (((List.range (s.n+1)).map λj=>bP s one lv s.n i j).map PyData.int)):=by
 have h:=r.h;have hn:=h.n_eq;have e1:bw (aH (-s.depth) (s.top+1)) (((List.range s.n).map lv).map PyData.int)=(List.range s.n).map λi:Nat=>PyData.tuple [.int ((i:Int) - s.depth),.int (lv i)]:=by
  unfold aH aL bw;have e:(s.top+1 - -s.depth).toNat=s.n:=rfl;rw [e,vg,vg];have key:∀ l:List Nat,((l.map (PyData.int ∘ λk:Nat=>-s.depth+(k:Int))).zip (l.map (PyData.int ∘ lv))).map (λp=>PyData.tuple [p.1,p.2])=l.map λi:Nat=>PyData.tuple [.int ((i:Int) - s.depth),.int (lv i)]:=by
   intro l
   induction l with
   | nil=>rfl
   | cons i l ih =>
    rw [uX,uX,wN,uX,uX,ih];have:-s.depth+(i:Int)=(i:Int) - s.depth:=by omega
    simp only [xK,this]
  exact key _
 rw [e1];have key:∀ l:List Nat,(∀ i∈l,i < s.n)->bG (cm (bv (az (aj 0) (az (aj 1) br))) lx [.un,.un,.d s.d,.d (tI one)]) (l.map λi:Nat=>PyData.tuple [.int ((i:Int) - s.depth),.int (lv i)])=.ret (l.map λi=>.list (((List.range (s.n+1)).map λj=>bP s one lv s.n i j).map PyData.int)):=by
  intro l
  induction l with
  | nil=>intro _; rfl
  | cons i l ih =>
   intro hl;have hi:=hl i (by simp)
   have e:=Zoa h r.hd hi (r.lo i hi) (r.hi i hi);have e0:cm (bv (az (aj 0) (az (aj 1) br))) lx [.un,.un,.d s.d,.d (tI one)] (.tuple [.int ((i:Int) - s.depth),.int (lv i)])=.ret (.list (((List.range (s.n+1)).map λj=>bP s one lv s.n i j).map PyData.int)):=by
    simp_arith only [lx,e]
   rw [uX,bG,e0,Tr.ret_bind,ih λq hq=>hl q (uP _ hq)]
   rfl
 exact key _ λi hi=>vQ.mp hi
theorem Zn3 {s:Shp} {one:yy} {lv:Nat->Int} (r:RuOk s one lv):iA [.d s.d,.d (tI one),.d (lI ((List.range s.n).map lv))]=.ret (.d (.tuple [.int (zB s one lv 0),lI (s.row (wB s one lv)),.int (aW s one lv)])):=by
 have h:=r.h;have hn:=h.n_eq;have t0:=h.t0;have d0:=h.d0;have n9:=r.n9;have e1:=gS h;have em:=Zc6 r;have es:=Zej (ZaL r);have it:∀ xs,cH (.tuple xs)=.ret xs:=λ_=>rfl;have hs:small (bw (aH (-s.depth) (s.top+1)) (((List.range s.n).map lv).map PyData.int)).length=true:=cu (by
  unfold bw;rw [uO,wO,cw];omega)
 have ew:=Zah h one lv;have ez:((List.range s.n).map λi=>M (bP s one lv s.n) s.n i (col (bP s one lv s.n) s.n)).map PyData.int=((List.range s.n).map (zB s one lv)).map PyData.int:=rfl;rw [ez] at es;have a0:aT aE (.list (((List.range s.n).map (zB s one lv)).map PyData.int)) (.int 0)=.ret (.int (zB s one lv 0)):=by
  rw [mh,fJ (v:=.int (zB s one lv 0)) (by decide) (by rw [uT,uT]; show Option.map _ (Option.map _ ((List.range s.n)[0]?))=_; rw [u7 (by omega)]; rfl)]
  rfl
 have a1:k8 (.list (((List.range s.n).map (zB s one lv)).map PyData.int)) (some 1) none=.ret (.list ((((List.range s.n).map (zB s one lv)).map PyData.int).drop 1)):=by
  rw [tj,ZeK]
 have a2:aT aS (.list [.int 0]) (.list ((((List.range s.n).map (zB s one lv)).map PyData.int).drop 1))=.ret (lI (s.row (wB s one lv))):=by
  rw [oU (cu (by rw [wG,uO,uO,vq]; show 1+_<=_; omega))]
  show Tr.ret (PyData.list (PyData.int 0::(((List.range s.n).map (zB s one lv)).map PyData.int).drop 1))=_;rw [ew]
  rfl
 have ed:d (bP s one lv s.n) s.n=aW s one lv:=rfl;rw [ed] at es;generalize ((List.range s.n).map (zB s one lv)).map PyData.int=zs at *;simp_arith only [iA,Zd5,Zd6,e1,it,ZdB,hs,em,es,a0,a1,a2]
theorem Zg1 {g n:Nat} (h:g < n) (w:Int) (v:Nat->Int):Bar.am (λj=>w * (if g=j then 1 else 0) * v j) n=w * v g:=by
 have key:∀ m:Nat,Bar.am (λj=>w * (if g=j then 1 else 0) * v j) m=if g < m then w * v g else 0:=by
  intro m
  induction m with
  | zero=>rfl
  | succ m ih =>
   rw [Bar.am,ih];by_cases e:g=m
   ·subst e;rw [if_neg (by omega),if_pos rfl,if_pos (by omega),xZ]
    omega
   ·rw [if_neg e];by_cases e2:g < m
    ·rw [if_pos e2,if_pos (by omega)]
     simp
    ·rw [if_neg e2,if_neg (by omega)]
     simp
 rw [key,if_pos h]
theorem ZaO {n:Nat} {ix:Int->Nat} (h:∀ x:Int,0<=x->ix x < n) (v:Nat->Int):∀ (l:yy) (k:Nat),Bar.am (λj=>ws (λf=>if ix f=j then 1 else 0) k l * v j) n=ws (λf=>v (ix f)) k l
 | [],k=>by
  rw [kY λj _=>by rw [ws,Int.zero_mul]]
  rfl
 | w::l,k=>by
  have ih:=ZaO h v l (k+1);have e:(λj=>ws (λf=>if ix f=j then 1 else 0) k (w::l) * v j)=λj=>w * (if ix (k:Int)=j then 1 else 0) * v j+ws (λf=>if ix f=j then 1 else 0) (k+1) l * v j:=funext λj=>by rw [ws,Int.add_mul]
  rw [e,qv,Zg1 (h k (by omega)),ih]
  rfl
noncomputable def vB (s:Shp) (one:yy) (A:Int->Int) (D x y:Int):Int:=D * one.sum * s.ord x y+s.wg one y A D
theorem Zac (f g:Int->Int) (D:Int):∀ (l:yy) (k:Nat),ws (λx=>D * f x+g x) k l=D * ws (λx=>1 * f x+0) k l+ws g k l
 | [],k=>by simp [ws]
 | w::l,k=>by
  rw [ws,ws,ws,Zac f g D l (k+1)]
  grind
theorem ZbN {s:Shp} {one:yy} {lv:Nat->Int} (r:RuOk s one lv) (z:Nat->Int) (A:Int->Int) (hA:∀ x,-s.depth<=x->x<=s.top->A x=if (x+s.depth).toNat=0 then 0 else z (x+s.depth).toNat) (D:Int) {i:Nat} (hi:i < s.n) :
  Bar.am (λl=>bP s one lv s.n i l * z l) s.n=one.sum * z 0+one.sum * A ((i:Int) - s.depth) - (vB s one A D ((i:Int) - s.depth) (lv i) - D * cB s one ((i:Int) - s.depth) (lv i)):=by
 have h:=r.h;have hn:=h.n_eq;have t0:=h.t0;have d0:=h.d0;obtain ⟨m,hm⟩:∃ m,s.n=m+1:=⟨s.n - 1,by omega⟩
 have e1:=fw (lB r) z hi (m:=m) (by omega)
 rw [<- hm] at e1;rw [e1];have e2:(λl=>lA s one (lv i) l * (if l=0 then 0 else z l))=λl=>ws (λf=>if (s.nx (lv i) f+s.depth).toNat=l then 1 else 0) 0 one * (λl=>if l=0 then 0 else z l) l:=rfl
 rw [e2,ZaO (ix:=λf=>(s.nx (lv i) f+s.depth).toNat) (λx hx=>by
   have n1:=ji s (lv i) x;have n2:=jh h (r.hi i hi) hx;omega)]
 have e3:ws (λf=>(λl=>if l=0 then 0 else z l) (s.nx (lv i) f+s.depth).toNat) 0 one=ws (λf=>A (s.nx (lv i) f)) 0 one:=qc λf hf=>by
  have n1:=ji s (lv i) f;have n2:=jh h (r.hi i hi) hf;rw [hA _ n1 n2]
 rw [e3];have e4:A ((i:Int) - s.depth)=if i=0 then 0 else z i:=by
  rw [hA _ (by omega) (by omega)]
  have:((i:Int) - s.depth+s.depth).toNat=i:=by omega
  rw [this]
 have e5:(if 1<=i/\i<=m then one.sum * z i else 0)=one.sum * A ((i:Int) - s.depth):=by
  rw [e4];by_cases e:i=0
  ·rw [if_neg (by omega),if_pos e,xf]
  ·rw [if_pos (by omega),if_neg e]
 rw [e5];have e6:s.wg one (lv i) A D=D * s.wg one (lv i) (λ_=>0) 1+ws (λf=>A (s.nx (lv i) f)) 0 one:=Zac (λf=>s.day (lv i) f) (λf=>A (s.nx (lv i) f)) D one 0;unfold vB cB;rw [e6]
 grind
theorem Zaq {s:Shp} {one:yy} {A:Int->Int} {D x y:Int} (h:x<=y):vB s one A D x y=kH (s.sm one A D) (D * one.sum * s.start) x y - D * one.sum * s.piece * x:=by
 unfold vB kH Shp.sm Shp.ord;by_cases e:x < y
 ·rw [if_pos e,if_neg (by omega)]
  grind
 ·have:y=x:=by omega
  subst this;rw [if_neg e,if_pos (by omega)]
  grind
noncomputable def gB (s:Shp) (one:yy) (lv:Nat->Int):Int->Int:=s.sm one (wB s one lv) (aW s one lv)
noncomputable def kB (s:Shp) (one:yy) (lv:Nat->Int):Int:=aW s one lv * one.sum * s.start
noncomputable def bj (s:Shp) (one:yy) (lv:Nat->Int) (i:Nat):Int:=if i < s.n then lvl (gB s one lv) s.top (kB s one lv) ((i:Int) - s.depth) else 0
theorem kb {s:Shp} {one:yy} {lv:Nat->Int} {i:Nat} (hi:i < s.n):bj s one lv i=(pck (gB s one lv) s.top (kB s one lv) ((i:Int) - s.depth)).2:=if_pos hi
theorem fv {s:Shp} {one:yy} {lv:Nat->Int} (r:RuOk s one lv):0 < aW s one lv:=leads (lB r) s.n (uQ _)
theorem jf {s:Shp} {one:yy} {lv:Nat->Int} (r:RuOk s one lv):RuOk s one (bj s one lv):=by
 have hn:=r.h.n_eq;refine ⟨r.h,r.n9,r.hd,r.gr,r.ps,λi hi=>?_,λi hi=>?_⟩
 ·rw [kb hi];exact (lG (g:=gB s one lv) (top:=s.top) (K:=kB s one lv) (x:=(i:Int) - s.depth) (by omega)).1
 ·rw [kb hi];exact (lG (g:=gB s one lv) (top:=s.top) (K:=kB s one lv) (x:=(i:Int) - s.depth) (by omega)).2.1
theorem rP {s:Shp} {one:yy} {lv:Nat->Int} (r:RuOk s one lv) {i:Nat} (hi:i < s.n):Bar.am (λl=>bP s one lv s.n i l * zB s one lv l) s.n=aW s one lv * cB s one ((i:Int) - s.depth) (lv i):=by
 have:=Zq1 (bP s one lv s.n) hi (col (bP s one lv s.n) s.n);have e:col (bP s one lv s.n) s.n i=cB s one ((i:Int) - s.depth) (lv i):=by
  unfold col bP;rw [if_pos rfl]
 rw [e] at this;exact this
theorem mZ {s:Shp} (one:yy) (lv:Nat->Int) (x:Int) (x1:-s.depth<=x) (x2:x<=s.top):wB s one lv x=if (x+s.depth).toNat=0 then 0 else zB s one lv (x+s.depth).toNat:=by
 unfold wB;by_cases e:x=-s.depth
 ·rw [if_pos e,if_pos (by omega)]
 ·rw [if_neg e,if_neg (by omega)]
noncomputable def gC (s:Shp) (one:yy) (lv:Nat->Int) (i:Nat):Int:=kH (gB s one lv) (kB s one lv) ((i:Int) - s.depth) (lv i) - (pck (gB s one lv) s.top (kB s one lv) ((i:Int) - s.depth)).1
theorem ZaV {s:Shp} {one:yy} {lv:Nat->Int} (r:RuOk s one lv) {i:Nat} (hi:i < s.n):0<=gC s one lv i:=by
 have hn:=r.h.n_eq;obtain ⟨p1,p2⟩:=ZiY (g:=gB s one lv) (top:=s.top) (K:=kB s one lv) (x:=(i:Int) - s.depth) (by omega)
 have y1:=r.lo i hi;have y2:=r.hi i hi;unfold gC kH
 split
 ·have:=p2 (lv i) (by omega) y2
  omega
 ·have:lv i=(i:Int) - s.depth:=by omega
  rw [this];omega
theorem ZoZ {s:Shp} {one:yy} {lv:Nat->Int} (r:RuOk s one lv) {i:Nat} (hi:i < s.n):kH (gB s one lv) (kB s one lv) ((i:Int) - s.depth) (bj s one lv i)=(pck (gB s one lv) s.top (kB s one lv) ((i:Int) - s.depth)).1:=by
 have hn:=r.h.n_eq;obtain ⟨q1,q2,q3⟩:=lG (g:=gB s one lv) (top:=s.top) (K:=kB s one lv) (x:=(i:Int) - s.depth) (by omega)
 rw [kb hi];unfold kH;rcases q3 with ⟨e1,e2⟩ | ⟨e1,e2,e3⟩
 ·rw [e1,if_neg (by omega),e2]
 ·rw [if_pos e1,e2]
theorem ZcT {s:Shp} {one:yy} {lv:Nat->Int} (r:RuOk s one lv) {i:Nat} (hi:i < s.n):Bar.am (λl=>bP s one (bj s one lv) s.n i l * zB s one lv l) s.n=aW s one lv * cB s one ((i:Int) - s.depth) (bj s one lv i)+gC s one lv i:=by
 have hn:=r.h.n_eq;have r':=jf r;have a1:=ZbN r (zB s one lv) (wB s one lv) (mZ one lv) (aW s one lv) hi;have a2:=ZbN r' (zB s one lv) (wB s one lv) (mZ one lv) (aW s one lv) hi;rw [rP r hi] at a1;rw [a2];have v1:=Zaq (s:=s) (one:=one) (A:=wB s one lv) (D:=aW s one lv) (r.lo i hi);have v2:=Zaq (s:=s) (one:=one) (A:=wB s one lv) (D:=aW s one lv) (r'.lo i hi);have c2:=ZoZ r hi;unfold gC;unfold gB kB at *;omega
theorem ZpR {s:Shp} {one:yy} {lv:Nat->Int} (r:RuOk s one lv) (hs:∃ i,i < s.n/\0 < gC s one lv i):Bet s.n (zB s one lv) (aW s one lv) (zB s one (bj s one lv)) (aW s one (bj s one lv)):=by
 have hn:=r.h.n_eq;have t0:=r.h.t0;have d0:=r.h.d0;exact better (lB (jf r)) (by omega) (fv r) (fv (jf r)) (b:=λi=>cB s one ((i:Int) - s.depth) (bj s one lv i)) (λi hi=>rP (jf r) hi) (λi hi=>ZaV r hi) (λi hi=>ZcT r hi) hs
theorem Zgp {s:Shp} {one:yy} {lv:Nat->Int} (r:RuOk s one lv) (hs:∀ i,i < s.n->gC s one lv i=0):∀ l,l < s.n->aW s one lv * zB s one (bj s one lv) l=aW s one (bj s one lv) * zB s one lv l:=by
 intro l hl;have r':=jf r;have:=sole (bP s one (bj s one lv) s.n) (k:=s.n) (λj hj=>Int.ne_of_gt (leads (lB r') j hj)) (z:=λl=>aW s one lv * zB s one (bj s one lv) l - aW s one (bj s one lv) * zB s one lv l) (λi hi=>by
  rw [gA,rP r' hi,ZcT r hi,hs i hi]
  grind) l hl
 have e:aW s one lv * zB s one (bj s one lv) l - aW s one (bj s one lv) * zB s one lv l=0:=this;omega
theorem Zgq {s:Shp} {one:yy} {lv:Nat->Int} (r:RuOk s one lv) (hs:∀ i,i < s.n->gC s one lv i=0):∀ i,i < s.n->bj s one (bj s one lv) i=bj s one lv i:=by
 intro i hi;have h:=r.h;have hn:=h.n_eq;have t:=Zgp r hs;have p1:=fv r;have p2:=fv (jf r);generalize hD:aW s one lv=D at *;generalize hD':aW s one (bj s one lv)=D' at *;have hw:∀ x,-s.depth<=x->x<=s.top->D * wB s one (bj s one lv) x=D' * wB s one lv x:=λx x1 x2=>by
  rw [mZ one _ x x1 x2,mZ one _ x x1 x2]
  split
  ·omega
  ·exact t _ (by omega)
 have hg:∀ y,-s.depth<=y->y<=s.top->D * gB s one (bj s one lv) y=D' * gB s one lv y:=λy y1 y2=>by
  unfold gB Shp.sm;rw [hD,hD'];have e1:D * s.wg one y (wB s one (bj s one lv)) D'=D' * s.wg one y (wB s one lv) D:=by
   unfold Shp.wg;rw [<- qa,<- qa];refine qc λf hf=>?_;have n1:=ji s y f;have n2:=jh h y2 hf;have:=hw _ n1 n2
   grind
  have e2:D * (D' * one.sum * s.piece * y+s.wg one y (wB s one (bj s one lv)) D')=D * (D' * one.sum * s.piece * y)+D * s.wg one y (wB s one (bj s one lv)) D':=by rw [Int.mul_add]
  have e3:D' * (D * one.sum * s.piece * y+s.wg one y (wB s one lv) D)=D' * (D * one.sum * s.piece * y)+D' * s.wg one y (wB s one lv) D:=by rw [Int.mul_add]
  rw [e2,e3,e1]
  grind
 have hk:D * kB s one (bj s one lv)=D' * kB s one lv:=by
  unfold kB;rw [hD,hD']
  grind
 have m1:=ZcI (g:=gB s one (bj s one lv)) (top:=s.top) (K:=kB s one (bj s one lv)) (m:=D) (x:=(i:Int) - s.depth) p1 (by omega)
 have m2:=ZcI (g:=gB s one lv) (top:=s.top) (K:=kB s one lv) (m:=D') (x:=(i:Int) - s.depth) p2 (by omega)
 have m3:pck (λy=>D * gB s one (bj s one lv) y) s.top (D * kB s one (bj s one lv)) ((i:Int) - s.depth)=pck (λy=>D' * gB s one lv y) s.top (D' * kB s one lv) ((i:Int) - s.depth):=by
  rw [hk];exact ZiZ (λy y1 y2=>hg y (by omega) y2) (by omega)
 rw [m1,m2] at m3;have:=congrArg Prod.snd m3;rw [kb hi,kb hi];exact this
noncomputable def offs:Nat->List (List Nat)
 | 0=>[[]]
 | m+1=>(List.range (m+1)).flatMap λc=>(offs m).map (c::·)
theorem Zjm {m:Nat} {f:Nat->Nat}:∀ {k:Nat},(∀ j,j < m->f (k+j) < m - j)->(List.range m).map (λj=>f (k+j))∈offs m:=by
 induction m with
 | zero=>intro k _; simp [offs]
 | succ m ih =>
  intro k h;have h1:=ih (k:=k+1) λj hj=>by
   have:=h (j+1) (by omega)
   have e:k+(j+1)=k+1+j:=by omega
   rw [e] at this;omega
  have e:(List.range (m+1)).map (λj=>f (k+j))=f k::(List.range m).map λj=>f (k+1+j):=by
   rw [List.range_succ_eq_map,uX,vg];refine congrArg _ (vP λj _=>?_);show f (k+(j+1))=f (k+1+j);congr 1;omega
  rw [e,offs];exact List.mem_flatMap.mpr ⟨f k,vQ.mpr (by have:=h 0 (by omega); simpa using this),wt.mpr ⟨_,h1,rfl⟩⟩
theorem iq:∀ m:Nat,(offs (m+1)).length=(m+1) * (offs m).length:=λm=>by
 rw [offs,List.length_flatMap];have e:(List.range (m+1)).map (λa=>((offs m).map (a::·)).length)=List.replicate (m+1) (offs m).length:=by
  rw [List.eq_replicate_iff];refine ⟨by rw [uO,vq],λb hb=>?_⟩
  obtain ⟨c,_,rfl⟩:=wt.mp hb;exact uO ..
 rw [e];simp
theorem Zjn {m:Nat} (h:m<=8):(offs m).length<=40320:=by
 have e0:(offs 0).length=1:=rfl;have e1:(offs 1).length=1 * (offs 0).length:=iq 0;have e2:(offs 2).length=2 * (offs 1).length:=iq 1;have e3:(offs 3).length=3 * (offs 2).length:=iq 2;have e4:(offs 4).length=4 * (offs 3).length:=iq 3;have e5:(offs 5).length=5 * (offs 4).length:=iq 4;have e6:(offs 6).length=6 * (offs 5).length:=iq 5;have e7:(offs 7).length=7 * (offs 6).length:=iq 6;have e8:(offs 8).length=8 * (offs 7).length:=iq 7;have:m=0\/m=1\/m=2\/m=3\/m=4\/m=5\/m=6\/m=7\/m=8:=by omega
 rcases this with rfl | rfl | rfl | rfl | rfl | rfl | rfl | rfl | rfl <;> omega
noncomputable def bH (s:Shp) (one:yy) (lv:Nat->Int):Nat->Nat->Int
 | 0=>lv
 | t+1=>bj s one (bH s one lv t)
theorem fe {s:Shp} {one:yy} {lv:Nat->Int} (r:RuOk s one lv):∀ t,RuOk s one (bH s one lv t)
 | 0=>r
 | t+1=>jf (fe r t)
def hU (n:Nat) (lv:Nat->Int):Prop:=∀ i,n<=i->lv i=0
theorem ky {s:Shp} {one:yy} {lv:Nat->Int} (h:hU s.n lv):∀ t,hU s.n (bH s one lv t)
 | 0=>h
 | t+1=>λi hi=>by
  show bj s one (bH s one lv t) i=0;unfold bj;rw [if_neg (by omega)]
noncomputable def ir (s:Shp) (lv:Nat->Int):List Nat:=(List.range s.n).map λj=>(lv (0+j) - (((0+j:Nat):Int) - s.depth)).toNat
theorem Zjp {s:Shp} {one:yy} {lv:Nat->Int} (r:RuOk s one lv):ir s lv∈offs s.n:=by
 have hn:=r.h.n_eq;have t0:=r.h.t0;have d0:=r.h.d0;refine Zjm (f:=λq=>(lv q - ((q:Int) - s.depth)).toNat) (k:=0) λj hj=>?_;have a:=r.hi (0+j) (by omega)
 have b:=r.lo (0+j) (by omega)
 show (lv (0+j) - (((0+j:Nat):Int) - s.depth)).toNat < s.n - j;omega
theorem Zjq {s:Shp} {one:yy} {lv lv':Nat->Int} (r:RuOk s one lv) (r':RuOk s one lv') (n1:hU s.n lv) (n2:hU s.n lv') (h:ir s lv=ir s lv'):lv=lv':=by
 funext i;by_cases hi:i < s.n
 ·have e:=congrArg (λl=>l[i]?) h;unfold ir at e;simp only [uT,u7 hi,xV,Option.some.injEq,Nat.zero_add] at e;have a:=r.lo i hi;have b:=r'.lo i hi;omega
 ·rw [n1 i (by omega),n2 i (by omega)]
theorem ends {s:Shp} {one:yy} {lv:Nat->Int} (r:RuOk s one lv) (n0:hU s.n lv) (n8:s.n<=8):∃ t,t<=40321/\bH s one lv (t+1)=bH s one lv t:=by
 apply xj;intro hno;have hne:∀ t,t<=40321->bH s one lv (t+1)≠bH s one lv t:=λt ht e=>hno ⟨t,ht,e⟩;have strict:∀ t,t < 40321->Bet s.n (zB s one (bH s one lv t)) (aW s one (bH s one lv t)) (zB s one (bH s one lv (t+1))) (aW s one (bH s one lv (t+1))):=λt ht=>by
  apply ZpR (fe r t);apply xj;intro hn;have all0:∀ i,i < s.n->gC s one (bH s one lv t) i=0:=λi hi=>by
   have a:=ZaV (fe r t) hi;have:¬ 0 < gC s one (bH s one lv t) i:=λq=>hn ⟨i,hi,q⟩;omega
  have tn:=Zgq (fe r t) all0;apply hne (t+1) (by omega)
  funext i;by_cases hi:i < s.n
  ·exact tn i hi
  ·rw [ky n0 (t+1+1) i (by omega),ky n0 (t+1) i (by omega)]
 have far:∀ (k t:Nat),t+k+1<=40321->Bet s.n (zB s one (bH s one lv t)) (aW s one (bH s one lv t)) (zB s one (bH s one lv (t+k+1))) (aW s one (bH s one lv (t+k+1))):=by
  intro k
  induction k with
  | zero=>intro t ht; exact strict t (by omega)
  | succ k ih =>
   intro t ht;have a:=ih t (by omega)
   have b:=strict (t+k+1) (by omega)
   exact Bet.trans (fv (fe r _)) (fv (fe r _)) (fv (fe r _)) a b
 have inj:∀ i j,i < j->j<=40321->ir s (bH s one lv i)≠ir s (bH s one lv j):=λi j hij hj e=>by
  have e2:=Zjq (fe r i) (fe r j) (ky n0 i) (ky n0 j) e;have b:=far (j - i - 1) i (by omega)
  have ej:i+(j - i - 1)+1=j:=by omega
  rw [ej,<- e2] at b;exact Bet.irrefl b
 have hnd:((List.range 40322).map λt=>ir s (bH s one lv t)).Nodup:=by
  rw [List.nodup_iff_pairwise_ne,List.pairwise_map];refine List.Pairwise.imp_of_mem (R:=λa b=>a < b) ?_ List.pairwise_lt_range;intro a b ha hb hab;have:=vQ.mp hb;exact inj a b hab (by omega)
 have hsub:∀ x∈(List.range 40322).map λt=>ir s (bH s one lv t),x∈offs s.n:=λx hx=>by
  obtain ⟨t,_,rfl⟩:=wt.mp hx;exact Zjp (fe r t)
 have h1:=List.Nodup.length_le_of_subset hnd hsub;rw [uO,vq] at h1;have h2:=Zjn n8;omega
theorem Zec:∀ a b:yy,PyData.eqvAll (a.map PyData.int) (b.map PyData.int)=decide (a=b)
 | [],[]=>rfl
 | [],_::_=>rfl
 | _::_,[]=>rfl
 | x::a,y::b=>by
  have ih:=Zec a b;rw [uX,uX,PyData.eqvAll,ih];by_cases e:x=y
  ·subst e;by_cases e2:a=b
   ·subst e2; simp [PyData.eqv]
   ·simp [PyData.eqv,e2]
  ·simp [PyData.eqv,e]
theorem ZnT (a b:yy):aT dg (lI a) (lI b)=.ret (.bool (decide (a=b))):=by
 unfold lI;rw [Zm6 (Za6 a) (Za6 b),Zec]
noncomputable def bX (s:Shp) (lv:Nat->Int):yy:=(List.range s.n).map lv
theorem ZfU {s:Shp} {one:yy} {lv:Nat->Int} (r:RuOk s one lv) {i:Nat} (hi:i < s.n):nb 1702 (zB s one lv i):=by
 refine bn (ZfN (b:=160) r.n9 (λi j hi _=>kG r hi) (uQ _) hi λq hq=>kG r hq) (by decide)
theorem m7 {s:Shp} {one:yy} {lv:Nat->Int} (r:RuOk s one lv):Bd s 1702 (wB s one lv):=λx x1 x2=>by
 have hn:=r.h.n_eq;unfold wB
 split
 ·exact ke _
 ·exact ZfU r (by omega)
theorem fR {s:Shp} {one:yy} {lv:Nat->Int} (r:RuOk s one lv):nb 1531 (aW s one lv):=bn (tL (b:=160) r.n9 (λi j hi _=>kG r hi) (uQ _)) (by decide)
noncomputable def kW (s:Shp) (one:yy) (lv:Nat->Int):PyData:=.tuple [.int (zB s one lv 0),lI (s.row (wB s one lv)),.int (aW s one lv),lI (bX s lv)]
theorem Zdj {g:Int->Int} {top K P:Int}:∀ l:yy,bG (cm (bv (az (aj 0) (az (aj 1) br))) rD [.un,.un]) (l.map (c9 g top K P))=.ret ((l.map (lvl g top K)).map PyData.int)
 | []=>rfl
 | x::l=>by
  have e0:cm (bv (az (aj 0) (az (aj 1) br))) rD [.un,.un] (c9 g top K P x)=.ret (.int (lvl g top K x)):=rfl;rw [uX,bG,e0,Tr.ret_bind,Zdj l]
  rfl
theorem ZpQ {s:Shp} {one:yy} {lv:Nat->Int} (r:RuOk s one lv) (J3 J4 J5 J6 J7:Sl):∃ K3 K4 K5 K6 K7:Sl,l8 [.d s.d,.d (tI one),.d (lI (bX s lv)),J3,J4,J5,J6,J7]=if bX s (bj s one lv)=bX s lv then .ret (.ret (.d (kW s one lv))) else .ret (.next [.d s.d,.d (tI one),.d (lI (bX s (bj s one lv))),K3,K4,K5,K6,K7]):=by
 have h:=r.h;have hn:=h.n_eq;have td:=h.td;have em:iA [.d s.d,.d (tI one),.d (lI (bX s lv))]=_:=Zn3 r;have el:=Zek h r.hd (m7 r) (sc:=aW s one lv) (bn (fR r) (by decide)) (by decide)
 have g1:=bc (fR r) (by decide)
 have g2:=bc (dC r.hd) (by decide)
 have hsc:nb 1853 (aW s one lv * one.sum):=bn (cx (fR r) (dC r.hd)) (by decide)
 have hg:Bd s 1853 (gB s one lv):=λx x1 x2=>bn (ZaX h r.hd (m7 r) (bn (fR r) (by decide)) x x1 x2) (by decide)
 have ec:kl [.d s.d,.d (.list ((s.row (s.sm one (wB s one lv) (aW s one lv))).map PyData.int)),.d (.int (aW s one lv * one.sum))]=_:=Zel h hg hsc (vL (wZ (fv r) r.hd.pos)) (by decide)
 have hs:small ((aL (-s.depth) s.n).map (c9 (gB s one lv) s.top (aW s one lv * one.sum * s.start) (aW s one lv * one.sum * s.piece))).length=true:=cu (by rw [uO,gG]; omega)
 have lm:=Zdj (g:=gB s one lv) (top:=s.top) (K:=aW s one lv * one.sum * s.start) (P:=aW s one lv * one.sum * s.piece) (aL (-s.depth) s.n);have e7:((aL (-s.depth) s.n).map (lvl (gB s one lv) s.top (aW s one lv * one.sum * s.start)))=bX s (bj s one lv):=by
  unfold bX aL;rw [vg];refine vP λi hi=>?_;have hi':=vQ.mp hi;rw [kb hi'];have:-s.depth+(i:Int)=(i:Int) - s.depth:=by omega
  simp only [xK,this]
  rfl
 rw [e7] at lm;have eq:aT dg (.list ((bX s (bj s one lv)).map PyData.int)) (lI (bX s lv))=.ret (.bool (decide (bX s (bj s one lv)=bX s lv))):=ZnT _ _;by_cases e:bX s (bj s one lv)=bX s lv
 ·rw [decide_eq_true e] at eq;refine ⟨.un,.un,.un,.un,.un,?_⟩;rw [if_pos e];simp_arith only [l8,em,el,gz,g1,g2,ec,hs,lm,eq]
  rfl
 ·rw [decide_eq_false e] at eq;refine ⟨.d (.int (zB s one lv 0)),.d (lI (s.row (wB s one lv))),.d (.int (aW s one lv)),.d (.list ((aL (-s.depth) s.n).map (c9 (gB s one lv) s.top (aW s one lv * one.sum * s.start) (aW s one lv * one.sum * s.piece)))),.d (.list ((bX s (bj s one lv)).map PyData.int)),?_⟩;rw [if_neg e];simp_arith only [l8,em,el,gz,g1,g2,ec,hs,lm,eq]
  rfl
theorem ZjZ {s:Shp} {lv lv':Nat->Int} (n1:hU s.n lv) (n2:hU s.n lv'):bX s lv=bX s lv' ↔ lv=lv':=by
 constructor
 ·intro h;funext i;by_cases hi:i < s.n
  ·have e:=congrArg (λl=>l[i]?) h;unfold bX at e;simpa only [uT,u7 hi,xV,Option.some.injEq] using e
  ·rw [n1 i (by omega),n2 i (by omega)]
 ·intro h;rw [h]
theorem Ze8 {s:Shp} {one:yy} {lv:Nat->Int} (r:RuOk s one lv) (n0:hU s.n lv):∀ (m t fuel:Nat),bH s one lv (t+m+1)=bH s one lv (t+m)->m < fuel->∀ J3 J4 J5 J6 J7:Sl,∃ T,bH s one lv (T+1)=bH s one lv T/\cN qf l8 fuel [.d s.d,.d (tI one),.d (lI (bX s (bH s one lv t))),J3,J4,J5,J6,J7]=.ret (.ret (.d (kW s one (bH s one lv T))))
 | m,t,0,_,hf,_,_,_,_,_=>by omega
 | m,t,fuel+1,he,hf,J3,J4,J5,J6,J7=>by
  obtain ⟨K3,K4,K5,K6,K7,e⟩:=ZpQ (fe r t) J3 J4 J5 J6 J7;have hp:qf [.d s.d,.d (tI one),.d (lI (bX s (bH s one lv t))),J3,J4,J5,J6,J7]=.ret true:=rfl;by_cases hc:bX s (bj s one (bH s one lv t))=bX s (bH s one lv t)
  ·rw [if_pos hc] at e;refine ⟨t,(ZjZ (ky n0 (t+1)) (ky n0 t)).mp hc,?_⟩;rw [cN,hp,Tr.ret_bind,if_pos rfl,e,Tr.ret_bind]
  ·rw [if_neg hc] at e;cases m with
   | zero =>
    exfalso;apply hc;have:bj s one (bH s one lv t)=bH s one lv t:=he;rw [this]
   | succ m =>
    have he':bH s one lv (t+1+m+1)=bH s one lv (t+1+m):=by
     have e1:t+(m+1)=t+1+m:=by omega
     rw [e1] at he;exact he
    obtain ⟨T,h1,h2⟩:=Ze8 r n0 m (t+1) fuel he' (by omega) K3 K4 K5 K6 K7
    refine ⟨T,h1,?_⟩;rw [cN,hp,Tr.ret_bind,if_pos rfl,e,Tr.ret_bind];exact h2
noncomputable def f8 (s:Shp) (i:Nat):Int:=if i < s.n then (i:Int) - s.depth else 0
theorem Zem {s:Shp} {one:yy} (h:s.Ok) (n8:s.n<=8) (hd:DayB one) (gr:s.top+s.depth<=great one) (ps:∃ w∈one,w > 0) :
  ∃ lv:Nat->Int,RuOk s one lv/\bj s one lv=lv/\lY [.d s.d,.d (tI one)]=.ret (.d (kW s one lv)):=by
 have hn:=h.n_eq;have t0:=h.t0;have d0:=h.d0;have r:RuOk s one (f8 s):=⟨h,by omega,hd,gr,ps,λi hi=>by unfold f8; rw [if_pos hi]; exact vz _,λi hi=>by unfold f8; rw [if_pos hi]; omega⟩
 have n0:hU s.n (f8 s):=λi hi=>by unfold f8; rw [if_neg (by omega)]
 obtain ⟨t,ht,he⟩:=ends r n0 n8;obtain ⟨T,h1,h2⟩:=Ze8 r n0 t 0 100000 (by rw [Nat.zero_add]; exact he) (by omega) .un .un .un .un .un
 refine ⟨bH s one (f8 s) T,fe r T,h1,?_⟩;have e1:=gS h;have el:aH (-s.depth) (s.top+1)=(bX s (f8 s)).map PyData.int:=by
  unfold aH bX aL;have e:(s.top+1 - -s.depth).toNat=s.n:=rfl;rw [e,vg,vg];refine vP λi hi=>?_;have hi':=vQ.mp hi;simp only [xK];unfold f8;rw [if_pos hi'];have:-s.depth+(i:Int)=(i:Int) - s.depth:=by omega
  rw [this]
 have elst:tQ lZ [.tuple (aH (-s.depth) (s.top+1))]=.ret (aH (-s.depth) (s.top+1)):=rfl;have e2:bH s one (f8 s) 0=f8 s:=rfl;rw [e2] at h2;unfold lI at h2;simp_arith only [lY,e1,elst,el,h2]
end My
namespace My
open L2 Tw
theorem Zn9 {a b:Int} (hb:nb 8000 b):kj [.d (.int a),.d (.int b)]=.ret (.d (.int (Nat.gcd a.natAbs b.natAbs:Nat))):=by
 have key:=euclid (p:=qe) (s:=sI) (E:=λa b=>[.d (.int a),.d (.int b)]) (λa b=>by
  simp_arith only [qe];by_cases h:b=0
  ·subst h; rfl
  ·rw [decide_eq_true h];congr 1;simp [h]) (λa b h=>by
  have h':(b:Int)≠0:=by omega
  simp_arith only [sI,Zmn h',Zla]) 8000 83999 a.natAbs b.natAbs hb
 have e:2 * 8000+1+83999=100000:=rfl;rw [e] at key;simp_arith only [kj,Zqm,key]
theorem oW {t b:Int} (h0:b≠0) (hb:nb 7000 b):gN [.d (.int t),.d (.int b)]=.ret (.d (iU t b)):=by
 have e:=Zn9 (a:=t) (b:=b) (bn hb (by decide))
 have e0:(b == 0)=false:=beq_eq_false_iff_ne.mpr h0;have hd:=Gc.Zok (t:=t) h0;have hf:=bc (Zol (t:=t) hb h0) (by decide)
 unfold iU Gc.l0 Gc.l4;by_cases hn:b < 0
 ·have ed:Gc.den t b=-((Nat.gcd t.natAbs b.natAbs:Nat):Int):=by unfold Gc.den Gc.kD; rw [if_pos hn]
  rw [ed] at hd hf ⊢;simp_arith only [gN,e0,e,decide_eq_true hn,tw hd hf]
 ·have ed:Gc.den t b=((Nat.gcd t.natAbs b.natAbs:Nat):Int):=by unfold Gc.den Gc.kD; rw [if_neg hn]
  rw [ed] at hd hf ⊢;simp_arith only [gN,e0,e,decide_eq_false hn,tw hd hf]
end My
namespace My
open L2 Tw Bar
theorem ZjU {ls:yy} (h:∃ n∈ls,n > 0):ce lR [.list ((cF 0 ls).map PyData.int)]=.ret (.int (great ls)):=ZjV _ (qA (k:=0) h)
theorem Za9:∀ (ns:yy) (k:Nat),fB (l6 (bv (az (aj 0) (az (aj 1) br))) lH ly [.un,.un]) (enu k ns)=.ret ((cF k ns).map PyData.int)
 | [],k=>rfl
 | n::ns,k=>by
  have ih:=Za9 ns (k+1);have e0:l6 (bv (az (aj 0) (az (aj 1) br))) lH ly [.un,.un] (.tuple [.int k,.int n])=.ret (if n > 0 then some (.int k) else none):=by
   by_cases h:n > 0
   ·simp_arith only [lH,ly,decide_eq_true h,if_pos h]
   ·simp_arith only [lH,ly,decide_eq_false h,if_neg h]
  rw [enu,fB,e0,Tr.ret_bind,ih,Tr.ret_bind,cF];unfold lS;by_cases h:n > 0
  ·rw [if_pos h,if_pos h]; rfl
  ·rw [if_neg h,if_neg h]
theorem tF {ls:yy} (h:∃ n∈ls,n > 0) (hl:ls.length<=100):jr [.d (tI ls)]=.ret (.d (.int (great ls))):=by
 have hs:small (enu 0 ls).length=true:=cu (by rw [Zee]; omega)
 simp_arith only [jr,oN,Zeg,hs,Za9,ZjU h]
noncomputable def drB (ρ:yD) (_:PyData):Tr Ou:=.ret (.next ρ)
theorem jz {i:yn} {ρ:yD}:kO i ρ=(i ρ).bind (drB ρ):=rfl
theorem jA {ρ:yD} {x:PyData}:drB ρ x=.ret (.next ρ):=rfl
noncomputable def sf (s:Shp) (one:yy) (lv:Nat->Int):PyData:=.tuple [iU (zB s one lv 0) (aW s one lv),.tuple ((aL (-s.depth) s.n).map λx=>iU (wB s one lv x) (aW s one lv)),tI (bX s lv)]
theorem Zn7 {s:Shp} {one:yy} (h:s.Ok) (n8:s.n<=8) (hd:DayB one) (gr:s.top+s.depth<=great one) (ps:∃ w∈one,w > 0) :
  ∃ lv:Nat->Int,RuOk s one lv/\bj s one lv=lv/\jp [.d s.d,.d (tI one)]=.ret (.d (sf s one lv)):=by
 obtain ⟨lv,r,hf,e⟩:=Zem h n8 hd gr ps;refine ⟨lv,r,hf,?_⟩;have eg:=tF ps (by have:=hd.len; omega)
 have ca:decide (great one < s.top+s.depth)=false:=decide_eq_false (by omega)
 have ea:gO [.d s.d,.d (tI one)]=.ret (.d .none):=by
  simp_arith only [gO,eg,ca]
 have sp:=fv r;have sn:nb 7000 (aW s one lv):=bn (fR r) (by decide)
 have e1:=oW (t:=zB s one lv 0) (b:=aW s one lv) (by omega) sn
 have hs:small ((s.row (wB s one lv)).map PyData.int).length=true:=cu (by rw [uO,fS]; omega)
 have em:∀ l:yy,bG (cm (aj 0) nD [.un,.d (.int (aW s one lv))]) (l.map PyData.int)=.ret (l.map λx=>iU x (aW s one lv)):=by
  intro l
  induction l with
  | nil=>rfl
  | cons x l ih =>
   have e0:cm (aj 0) nD [.un,.d (.int (aW s one lv))] (.int x)=.ret (iU x (aW s one lv)):=by
    have e2:=oW (t:=x) (b:=aW s one lv) (by omega) sn
    simp_arith only [nD,e2]
   rw [uX,bG,e0,Tr.ret_bind,ih]
   rfl
 unfold kW at e;simp_arith only [jp,jz,jA,ea,e,e1,ZdB,hs,em];unfold sf Shp.row tI;rw [vg]
 rfl
end My
namespace My
open L2 Tw
noncomputable def shr (p:Int×Int):PyData:=.tuple [.int p.1,.int p.2]
theorem Zgr:((((3:Nat):Int)) == 3)=true:=rfl
noncomputable def rH (m:Int×Int) (ws:List (Int×Int)) (ls:yy):PyData:=.tuple [shr m,.tuple (ws.map shr),tI ls]
def hW (s:Shp) (ls:yy):Prop:=∀ i (h:i < ls.length),(i:Int) - s.depth<=ls[i]/\ls[i]<=s.top
end My
namespace My
open L2 Tw Bar
noncomputable def jE (s:Shp) (l:yy) (x:Int):Int:=(l[(x+s.depth).toNat]?).getD 0
theorem ZbO {s:Shp} (h:s.Ok) {l:yy} (hl:l.length=s.n):s.row (jE s l)=l:=by
 have hn:=h.n_eq;apply v7;intro i;by_cases hi:i < s.n
 ·have e:=fw (s:=s) (f:=jE s l) (x:=(i:Int) - s.depth) (by omega) (by omega)
  have ei:((i:Int) - s.depth+s.depth).toNat=i:=by omega
  rw [ei] at e;rw [e];unfold jE;rw [ei,vd (by omega)]
  rfl
 ·rw [vh (by rw [fS]; omega),vh (by omega)]
end My
namespace My
open L2 Tw
theorem bJ (n:Int):cC [.pen,.d (.int n)]=.draw n λr=>.ret (.d (.int r)):=rfl
theorem ZhE:Al (ou [.pen]) 3 λr=>∃ p:Int,r=.d (.int p)/\0<=p/\p<=1000000:=by
 simp_arith only [ou,bJ];refine dP (n:=2) (by decide) (by decide) (by decide) λw w0 w1=>?_
 by_cases c:w < 4
 ·simp_arith only [bJ,decide_eq_true c];refine dP (n:=1) (by decide) (by decide) (by decide) λf f0 f1=>?_
  have g1:fit f=true:=bc (show nb 20 f from cR (by show -1048576 < _; omega) (by show _ < 1048576; omega)) (by decide)
  have g2:fit (1:Int)=true:=bc (show nb 20 (1:Int) from cR (by decide) (by decide)) (by decide)
  have g3:fit (0:Int)=true:=bc (show nb 20 (0:Int) from cR (by decide) (by decide)) (by decide)
  by_cases c2:w > 0
  ·simp_arith only [bJ,decide_eq_true c2,if_true,g1,g2,xZ];refine c7 ?_;exact ⟨f,rfl,by omega,by omega⟩
  ·simp_arith only [bJ,decide_eq_false c2,we,if_false,g1,g3,xf];refine c7 ?_;exact ⟨0,rfl,by decide,by decide⟩
 ·simp_arith only [bJ,decide_eq_false c];refine dP (n:=1) (by decide) (by decide) (by decide) λa a0 a1=>?_
  try simp_arith only [bJ]
  refine dP (n:=0) (by decide) (by decide) (by decide) λb b0 b1=>?_
  obtain ⟨y,hy,y0,y1⟩:=rL (xs:=[PyData.int a,.int (1000000 - b)]) (lo:=0) (hi:=1000000) (r:=w - 4) (by simp [kz]; omega) (by omega) (by simp; omega)
  have e6:(10:Int) ^ Int.toNat 6=1000000:=rfl;simp_arith only [bJ,e6,hy];exact c7 ⟨y,rfl,y0,y1⟩
theorem ZhB {ns:yy} (hl:ns.length<=100) (A B C:Sl):Al (sF [.pen,A,B,.own (ns.map PyData.int),C]) 3 λo=>∃ y:Int,o=.next [.pen,A,B,.own ((ns++[y]).map PyData.int),C]/\0<=y/\y<=1000:=by
 have hs:small ((ns.map PyData.int).length+1)=true:=cu (by rw [uO]; omega)
 simp_arith only [sF,bJ];refine dP (n:=2) (by decide) (by decide) (by decide) λa a0 a1=>?_
 try simp_arith only [bJ]
 refine dP (n:=1) (by decide) (by decide) (by decide) λb b0 b1=>?_
 try simp_arith only [bJ]
 refine dP (n:=0) (by decide) (by decide) (by decide) λw w0 w1=>?_
 obtain ⟨y,hy,y0,y1⟩:=rL (xs:=[PyData.int 0,.int 1,.int a,.int b]) (lo:=0) (hi:=1000) (by simp [kz]; omega) w0 w1
 simp_arith only [bJ,hy,hs];have em:ns.map PyData.int++[PyData.int y]=(ns++[y]).map PyData.int:=by rw [vW]; rfl
 rw [em];exact c7 ⟨y,rfl,y0,y1⟩
structure WtAt (many k:Nat) (ls:yy):Prop where
 len:ls.length=many
 le:∀ n∈ls,0<=n/\n<=1000
 at':∃ v,ls[k]?=some v/\1<=v
theorem ZhA {many k:Nat} (m1:many<=20) (hk:k < many):Al (lU [.pen,.d (.int many),.d (.int k)]) (3 * many) λr=>∃ ls:yy,r=.d (tI ls)/\WtAt many k ls:=by
 have r1:gE [.int (many:Int)]=.ret (aH 0 many):=kF (ff (by omega) (by omega))
 simp_arith only [lU,bJ,r1];refine eO (n:=3 * many) (n':=0) (P:=λo=>∃ (ns:yy) (C:Sl),o=.next [.pen,.d (.int many),.d (.int k),.own (ns.map PyData.int),C]/\ns.length=many/\∀ n∈ns,0<=n/\n<=1000) ?_ (by omega) ?_
 ·refine pA (n:=3) (λpre ρ=>∃ (ns:yy) (C:Sl),ρ=[.pen,.d (.int many),.d (.int k),.own (ns.map PyData.int),C]/\ns.length=pre.length/\∀ n∈ns,0<=n/\n<=1000) ⟨[],_,rfl,rfl,λ_ q=>by cases q⟩ (by rw [cw]; omega) ?_ ?_
  ·rintro pre x post ρ e ⟨ns,C,rfl,hl,hn⟩;obtain ⟨rfl,hpre⟩:=ra e;refine ⟨_,rfl,mw (ZhB (by omega) _ _ _) (uQ _) ?_⟩
   rintro _ ⟨y,rfl,y0,y1⟩;refine ⟨_,rfl,ns++[y],_,rfl,by simp [hl],λn hn'=>?_⟩
   rcases vV.mp hn' with hq | hq
   ·exact hn n hq
   ·simp at hq;subst hq;exact ⟨y0,y1⟩
  ·rintro ρ ⟨ns,C,rfl,hl,hn⟩;rw [cw] at hl;exact ⟨ns,C,rfl,by omega,hn⟩
 ·rintro _ ⟨ns,C,rfl,hl,hn⟩;have hkl:k < ns.length:=by omega
  have hi:cT (ns.map PyData.int).length (k:Int)=some k:=by
   rw [uO];unfold cT;rw [if_pos (by omega),if_pos (by omega)]
   congr 1
  have hat:bp (ns.map PyData.int) (k:Int)=some (.int ns[k]):=fJ (by omega) (by rw [uT,show ((k:Int)).toNat=k by omega,vd hkl]; rfl)
  have hv:=hn ns[k] (wU hkl);have es:(ns.map PyData.int).set k (.int (cS 1 ns[k]))=(ns.set k (cS 1 ns[k])).map PyData.int:=List.map_set.symm;have hm:1<=cS 1 ns[k]/\cS 1 ns[k]<=1000:=by unfold cS; split <;> omega
  simp_arith only [bJ,hat,tm hi,es];refine c7 ⟨ns.set k (cS 1 ns[k]),rfl,by rw [vK,hl],λn hn'=>?_,cS 1 ns[k],by rw [vf hkl],hm.1⟩
  rcases List.mem_or_eq_of_mem_set hn' with q | q
  ·exact hn n q
  ·subst q; omega
structure Cs (s:Shp) (one:yy):Prop where
 dr:s.Dr
 td:s.top+s.depth<=7
 len:one.length<=8
 le:∀ n∈one,0<=n/\n<=1000
 big:∃ (k:Nat) (v:Int),s.top+s.depth<=k/\one[k]?=some v/\1<=v
theorem qB:∀ {ns:yy} {k i:Nat} {v:Int},ns[i]?=some v->0 < v->((k+i:Nat):Int)∈cF k ns
 | [],k,i,v,h,_=>by simp at h
 | n::ns,k,0,v,h,hv=>by
  simp at h;subst h;rw [cF,if_pos hv];exact vM ..
 | n::ns,k,i+1,v,h,hv=>by
  have ih:=qB (ns:=ns) (k:=k+1) (i:=i) (by simpa using h) hv
  have e:k+1+i=k+(i+1):=by omega
  rw [e] at ih;rw [cF]
  split
  ·exact uP _ ih
  ·exact ih
theorem ZdR {one:yy} {k:Nat} {v:Int} (h:one[k]?=some v) (hv:1<=v):(k:Int)<=great one:=by
 have hm:=qB (k:=0) h (by omega)
 rw [Nat.zero_add] at hm;exact (lQ (List.ne_nil_of_mem hm)).2 _ hm
theorem Cs.gr {s:Shp} {one:yy} (h:Cs s one):s.top+s.depth<=great one:=by
 obtain ⟨k,v,h1,h2,h3⟩:=h.big;exact Int.le_trans h1 (ZdR h2 h3)
theorem Cs.ps {s:Shp} {one:yy} (h:Cs s one):∃ w∈one,w > 0:=by
 obtain ⟨k,v,h1,h2,h3⟩:=h.big;exact ⟨v,vY h2,by omega⟩
theorem Cs.ok {s:Shp} {one:yy} (h:Cs s one):DayOk 8 one:=⟨h.len,h.ps,λn hn=>by have:=h.le n hn; omega⟩
theorem Cs.B {s:Shp} {one:yy} (h:Cs s one):DayB one:=h.ok.B (by decide)
theorem Cs.n8 {s:Shp} {one:yy} (h:Cs s one):s.n<=8:=by have:=h.td; have:=h.dr.ok.n_eq; omega
end My
namespace My
open L2 Tw Bar
structure Lst (s:Shp) (one:yy) (lv:Nat->Int):Prop where
 r:RuOk s one lv
 st:bj s one lv=lv
 e:jp [.d s.d,.d (tI one)]=.ret (.d (sf s one lv))
theorem Cs.lst {s:Shp} {one:yy} (h:Cs s one):∃ lv,Lst s one lv:=by
 obtain ⟨lv,r,hf,e⟩:=Zn7 h.dr.ok h.n8 h.B h.gr h.ps;exact ⟨lv,r,hf,e⟩
end My
namespace My
open L2 Tw
theorem ZhW {s:Shp} {g:Int->Int} {x:Int} (h1:-s.depth<=x) (h2:x < s.top):∃ l:yy,l≠[]/\L2.fH ((s.row g).map PyData.int) (some (x+s.depth+1)) none=l.map PyData.int:=by
 unfold L2.fH;rw [<- List.map_drop,<- List.map_take];refine ⟨_,λz=>?_,rfl⟩;have z:=congrArg List.length z;rw [v9,wG,uO,fS] at z;unfold HT.aM Shp.n at z;simp only [wn] at z
 split at z <;> omega
theorem ZdW {g:yu} {s:yq} (I:List Sl->Prop):∀ (xs:yx) (ρ:yD),I ρ->(∀ x∈xs,∀ ρ,I ρ->∃ ρ1,g x ρ=some ρ1/\((∃ d,s ρ1=.ret (.ret (.d d)))\/∃ ρ2,s ρ1=.ret (.next ρ2)/\I ρ2))->(∃ d,cb g s xs ρ=.ret (.ret (.d d)))\/∃ ρ2,cb g s xs ρ=.ret (.next ρ2)/\I ρ2
 | [],ρ,h,_=>.inr ⟨ρ,rfl,h⟩
 | x::xs,ρ,h,ht=>by
  obtain ⟨ρ1,e1,hx⟩:=ht x (by simp) ρ h
  rw [iE,e1,Tr.of_some,Tr.ret_bind];unfold jx;rcases hx with ⟨d,e2⟩ | ⟨ρ2,e2,h2⟩
  ·exact .inl ⟨d,by rw [e2,Tr.ret_bind]; rfl⟩
  ·rw [e2,Tr.ret_bind,gR];exact ZdW I xs ρ2 h2 λy hy=>ht y (uP _ hy)
theorem Zn8 {s:Shp} (h:s.Ok) {g:Int->Int} {B:Int} (hB:nb 3000 B) {x G:Int} (x1:-s.depth<=x) (x2:x < s.top) (G1:-s.depth<=G) (G2:G<=s.top) :
  ∃ b,lW [.d s.d,.d (lI (s.row g)),.d (.int B),.d (.int x),.d (.int G)]=.ret (.d (.bool b)):=by
 have a1:=ny (s:=s) (f:=g) (x:=x) x1 (by omega)
 have a2:=ny (s:=s) (f:=g) (x:=G) (by omega) G2
 obtain ⟨l,hl,a3⟩:=ZhW (s:=s) (g:=g) (x:=x) x1 x2;have f1:=bc hB (by decide)
 have f2:=bc h.start (by decide)
 have m1:=ZjO _ hl;by_cases c1:B * s.start+g G<=g x
 ·simp_arith only [lW,lI,a1,a2,a3,f1,f2,m1,decide_eq_true c1];exact ⟨_,rfl⟩
 ·simp_arith only [lW,lI,a1,a2,a3,f1,f2,m1,decide_eq_false c1];exact ⟨_,rfl⟩
theorem Zdf {o:Int->Bool}:∀ n:Nat,lsr o n=0\/∃ k:Nat,k < n/\lsr o n=(k:Int)+1
 | 0=>.inl rfl
 | n+1=>by
  unfold lsr
  split
  ·rcases Zdf (o:=o) n with e | ⟨k,a,b⟩
   ·exact .inl e
   ·exact .inr ⟨k,by omega,b⟩
  ·exact .inr ⟨n,by omega,rfl⟩
noncomputable abbrev e9 (s:Shp) (R:PyData) (B least:Int) (P:PyData) (x:Int) (a b:Sl):yD:=[.d s.d,.d R,.d (.int B),.d (.int least),.d P,.d (.int x),a,b]
theorem ZjT {s:Shp} (h:s.Ok) {g:Int->Int} (hg:Bd s 3000 g) {B:Int} (hB:nb 3000 B) (hB0:0<=B) {least:Int} (l1:-s.depth<=least) (l2:least<=s.top) :
  ∃ d,oq [.d s.d,.d (lI (s.row g)),.d (.int B),.d (.int least)]=.ret (.d d):=by
 have:=h.t0;have:=h.d0;have:=h.td;have e1:=Zel h hg hB hB0 (by decide)
 have hpk:∀ x,-s.depth<=x->x<=s.top->bp ((aL (-s.depth) s.n).map (c9 g s.top (B * s.start) (B * s.piece))) (x+s.depth)=some (c9 g s.top (B * s.start) (B * s.piece) x):=λx x1 x2=>by
  refine fJ (by omega) ?_
  unfold aL;rw [vg,uT,u7 (by unfold Shp.n; omega)]
  show some (c9 g s.top (B * s.start) (B * s.piece) (-s.depth+((x+s.depth).toNat:Int)))=_;congr 2;omega
 obtain ⟨N,hN⟩:∃ N:Nat,s.top=least+N:=⟨(s.top - least).toNat,by omega⟩
 have hlv:∀ x,x<=s.top->x<=lvl g s.top (B * s.start) x/\lvl g s.top (B * s.start) x<=s.top:=λx hx=>⟨(lG (g:=g) (K:=B * s.start) hx).1,(lG (g:=g) (K:=B * s.start) hx).2.1⟩;generalize hP:PyData.list ((aL (-s.depth) s.n).map (c9 g s.top (B * s.start) (B * s.piece)))=P at *;have key:=Zag (p:=mY) (s:=sE) (E:=λj=>e9 s (lI (s.row g)) B least P (least+j) .un .un) (o:=rQ g s.top (B * s.start) least) (N:=N) (by
   simp_arith only [mY,e9];have:decide (least+0 > least)=false:=decide_eq_false (by omega)
   simp_arith only [this]) (λj hj=>by
   have c1:decide (least+((j:Int)+1) > least)=true:=decide_eq_true (by omega)
   have c2:=hpk (least+j) (by omega) (by omega)
   have c3:least+((j:Int)+1) - 1+s.depth=least+j+s.depth:=by omega
   have c4:least+((j:Int)+1) - 1=least+j:=by omega
   subst hP;simp_arith only [mY,e9,c9,c1,c3,c2,c4];unfold rQ;congr 1) (λj hj=>by
   have c4:least+((j:Int)+1) - 1=least+j:=by omega
   simp_arith only [sE,e9,c4]) N (100000 - (N+1)) (uQ _)
 have eN:N+1+(100000 - (N+1))=100000:=by omega
 rw [eN] at key;simp only [e9,<- hN] at key;simp_arith only [oq,e1,hP,key];rcases Zdf (o:=rQ g s.top (B * s.start) least) N with z1 | ⟨l,z3,z1⟩
 ·rw [z1];have e0:least+0=least:=by omega
  simp_arith only [e0,beq_self_eq_true];exact ⟨_,rfl⟩
 ·rw [z1];have e0:((least+((l:Int)+1)) == least)=false:=by
   rw [beq_eq_false_iff_ne]; omega
  have e2:least+((l:Int)+1) - 1=least+l:=by omega
  have c2:=hpk (least+l) (by omega) (by omega)
  have r1:iY [.int least,.int (least+l)]=.ret (aH least (least+l)):=tq (ff (by omega) (by omega)) (ff (by omega) (by omega))
  obtain ⟨v1,v2⟩:=hlv (least+l) (by omega)
  have kf:=ZdW (g:=aj 7) (s:=ku)
   (λρ=>∃ a,ρ=e9 s (lI (s.row g)) B least P (least+(l+1)) (.d (.int (lvl g s.top (B * s.start) (least+l)))) a) (aH least (least+l)).reverse (e9 s (lI (s.row g)) B least P (least+(l+1)) (.d (.int (lvl g s.top (B * s.start) (least+l)))) .un) ⟨_,rfl⟩ (λy hy ρ hρ=>by
    obtain ⟨w,rfl,w1,w2⟩:=Zh1 (List.mem_reverse.mp hy);obtain ⟨a,rfl⟩:=hρ;refine ⟨_,rfl,?_⟩;show (∃ d,ku (e9 s (lI (s.row g)) B least P (least+(l+1)) (.d (.int (lvl g s.top (B * s.start) (least+l)))) (.d (.int w)))=_)\/∃ ρ2,ku (e9 s (lI (s.row g)) B least P (least+(l+1)) (.d (.int (lvl g s.top (B * s.start) (least+l)))) (.d (.int w)))=_/\_;obtain ⟨b,ec⟩:=Zn8 h (g:=g) hB (x:=w) (G:=lvl g s.top (B * s.start) (least+l)) (by omega) (by omega) (by omega) v2
    cases b with
    | true =>
     simp_arith only [ku,e9,ec,wc];exact .inr ⟨_,rfl,_,rfl⟩
    | false =>
     simp_arith only [ku,e9,ec,xI,e2];exact .inl ⟨_,rfl⟩)
  simp only [e9] at kf;subst hP;simp only [c9] at c2;rcases kf with ⟨d,q⟩ | ⟨ρ2,q,a,rfl⟩
  ·try simp only [c9] at q
   simp_arith only [c9,e0,e2,c2,r1,q];exact ⟨_,rfl⟩
  ·try simp only [c9] at q
   simp_arith only [c9,e0,e2,c2,r1,q];exact ⟨_,rfl⟩
structure Sz (d:PyData) (k n:Nat):Prop where
 sh:d.showable=true
 dp:d.depth<=k
 ln:d.shown.length<=n
theorem ZaK {d:PyData} {k n k' n':Nat} (h:Sz d k n) (hk:k<=k') (hn:n<=n'):Sz d k' n':=⟨h.sh,u8 h.dp hk,u8 h.ln hn⟩
theorem qr {k n:Nat}:∀ {xs:yx},(∀ x∈xs,Sz x k n)->PyData.showableAll xs=true/\PyData.depthAll xs<=k/\((PyData.shownAll xs).map (·.length)).sum<=xs.length * n/\(PyData.shownAll xs).length=xs.length
 | [],_=>⟨rfl,wf _,by simp [PyData.shownAll],rfl⟩
 | x::xs,h=>by
  obtain ⟨h2,h3,h4,h5⟩:=qr (xs:=xs) λy hy=>h y (uP _ hy);have hx:=h x (by simp)
  refine ⟨?_,?_,?_,?_⟩
  ·rw [PyData.showableAll,hx.sh,h2]; rfl
  ·rw [PyData.depthAll]; have:=hx.dp; omega
  ·rw [PyData.shownAll,uX,wx,uZ,wq]; have:=hx.ln; omega
  ·rw [PyData.shownAll,uZ,uZ,h5]
theorem ZaI {xs:yx} {k n:Nat} (h:∀ x∈xs,Sz x k n):Sz (.tuple xs) (k+1) (xs.length * n+2 * xs.length+10):=by
 obtain ⟨h2,h3,h4,h5⟩:=qr h;have c3:=tupleText_len_le (PyData.shownAll xs);refine ⟨?_,?_,?_⟩
 ·rw [PyData.showable,h2]
 ·rw [PyData.depth]; omega
 ·rw [PyData.shown]; omega
theorem ZgW {xs:yx} {k n:Nat} (h:∀ x∈xs,Sz x k n):Sz (.list xs) (k+1) (xs.length * n+2 * xs.length+10):=by
 obtain ⟨h2,h3,h4,h5⟩:=qr h;have c3:=listText_len_le (PyData.shownAll xs);refine ⟨?_,?_,?_⟩
 ·rw [PyData.showable,h2]
 ·rw [PyData.depth]; omega
 ·rw [PyData.shown]; omega
theorem ZaJ {d:PyData} {k n:Nat} (h:Rp d k n):Sz d k n:=⟨h.sh,h.dp,h.ln⟩
theorem ZgX {i:Int} (h:nb 1900 i):Sz (.int i) 0 1901:=ZaJ (ZbL h)
theorem nZ {i:Int} (h1:-100000<=i) (h2:i<=100000):nb 1900 i:=bn (ZjB (k:=20) (b:=100000) ⟨h1,h2⟩ (by decide)) (by decide)
theorem nX:∀ {xs:yx},(∀ x∈xs,x.hasDict=false)->PyData.hasDictAll xs=false
 | [],_=>rfl
 | x::xs,h=>by rw [PyData.hasDictAll,h x (by simp),nX λy hy=>h y (uP _ hy)]; rfl
theorem nV:∀ {xs:yx},(∀ x∈xs,cr x=false)->gh xs=false
 | [],_=>by rw [gh]
 | x::xs,h=>by rw [gh,h x (by simp),nV λy hy=>h y (uP _ hy)]; rfl
def Rq (d:PyData) (k n:Nat):Prop:=(d.hasDict=false\/cr d=false)/\Sz d k n
theorem ZhQ {d:PyData} {k n:Nat} (h:Rq d k n) (hk:k<=32) (hn:n<=10000000):iZ d=true:=by
 unfold iZ;rw [h.2.sh,decide_eq_true (u8 h.2.dp hk),decide_eq_true (u8 h.2.ln (u8 hn (by rw [sizeLine_eq]; decide)))]
 rcases h.1 with q | q
 ·rw [q]; rfl
 ·rw [q]; cases d.hasDict <;> rfl
structure Pn (d:PyData) (k n:Nat):Prop where
 nd:d.hasDict=false
 nl:cr d=false
 z:Sz d k n
theorem Pn.rq {d:PyData} {k n:Nat} (h:Pn d k n):Rq d k n:=⟨.inl h.nd,h.z⟩
theorem ii {d:PyData} {k n k' n':Nat} (h:Pn d k n) (hk:k<=k') (hn:n<=n'):Pn d k' n':=⟨h.nd,h.nl,ZaK h.z hk hn⟩
theorem ZbK {d:PyData} {k n k' n':Nat} (h:Rq d k n) (hk:k<=k') (hn:n<=n'):Rq d k' n':=⟨h.1,ZaK h.2 hk hn⟩
theorem nG {i:Int} (h:nb 1900 i):Pn (.int i) 0 1901:=⟨rfl,by rw [cr],ZgX h⟩
theorem lC {xs:yx} {k n:Nat} (h:∀ x∈xs,Pn x k n):Pn (.tuple xs) (k+1) (xs.length * n+2 * xs.length+10) :=
 ⟨by rw [PyData.hasDict]; exact nX λx hx=>(h x hx).nd,by rw [cr]; exact nV λx hx=>(h x hx).nl,ZaI λx hx=>(h x hx).z⟩
theorem ZhR {xs:yx} {k n:Nat} (h:∀ x∈xs,Pn x k n):Rq (.list xs) (k+1) (xs.length * n+2 * xs.length+10) :=
 ⟨.inl (by rw [PyData.hasDict]; exact nX λx hx=>(h x hx).nd),ZgW λx hx=>(h x hx).z⟩
theorem ZhP {A B:yx} {x:PyData} {k n:Nat} (hA:∀ y∈A,Pn y k n) (hB:∀ y∈B,Pn y k n) (hx:Rq x k n):Rq (.tuple (A++[x]++B)) (k+1) ((A++[x]++B).length * n+2 * (A++[x]++B).length+10):=by
 have mem:∀ {P:PyData->Prop},(∀ y∈A,P y)->P x->(∀ y∈B,P y)->∀ y∈A++[x]++B,P y:=λ{P} a b c y hy=>by
  rcases vV.mp hy with h | h
  ·rcases vV.mp h with h | h
   ·exact a y h
   ·rw [List.mem_singleton] at h; subst h; exact b
  ·exact c y h
 refine ⟨?_,ZaI (mem (λy h=>(hA y h).z) hx.2 λy h=>(hB y h).z)⟩;rcases hx.1 with q | q
 ·exact .inl (by rw [PyData.hasDict]; exact nX (mem (λy h=>(hA y h).nd) q λy h=>(hB y h).nd))
 ·exact .inr (by rw [cr]; exact nV (mem (λy h=>(hA y h).nl) q λy h=>(hB y h).nl))
end My
namespace My
open L2 Tw Bar
theorem oX {s:Shp} {one:yy} (hd:DayB one) (gr:s.top+s.depth<=great one) (ps:∃ w∈one,w > 0):gO [.d s.d,.d (tI one)]=.ret (.d .none):=by
 have eg:=tF ps (by have:=hd.len; omega)
 have ca:decide (great one < s.top+s.depth)=false:=decide_eq_false (by omega)
 simp_arith only [gO,eg,ca]
theorem ZnZ (l:Int):lV [.d (.int l)]=.ret (.d (.bool true)):=rfl
theorem ZfA (n:Nat):(List.replicate n true).all id=true:=by simp
theorem Zn6 {s:Shp} {x l:Int} (h1:x<=l) (h2:l<=s.top):oB [.d s.d,.d (.int x),.d (.int l)]=.ret (.d (.bool true)):=by
 have e:oy [.d (.int l),.d (.int x),.d (.int s.top)]=.ret (.d (.bool true)):=by
  simp_arith only [oy,ZnZ,decide_eq_true h1,decide_eq_true h2]
 simp_arith only [oB,e]
theorem Zc9 {h:PyData->Tr PyData}:∀ {xs:yx},(∀ x∈xs,h x=.ret (.bool true))->bG h xs=.ret ((List.replicate xs.length true).map PyData.bool)
 | [],_=>rfl
 | x::xs,hx=>by
  rw [bG,hx x (by simp),Tr.ret_bind,Zc9 λy hy=>hx y (uP _ hy),uZ,u6]
  rfl
theorem Zn5 {s:Shp} (h:s.Ok) {g:Int->Int} (hg:s.RlOk g):oA [.d s.d,.d (tI (s.row g))]=.ret (.d (.bool true)):=by
 have:=h.t0;have:=h.d0;have:=h.td;have hn:=h.n_eq;have e1:=gS h;have l1:(((s.row g).length:Int) != (((aH (-s.depth) (s.top+1)).length:Nat):Int))=false:=by
  rw [fS,cw];simp;unfold Shp.n;omega
 have l1':(((s.row g).length:Int) == (((aH (-s.depth) (s.top+1)).length:Nat):Int))=true:=by
  rw [fS,cw];simp;unfold Shp.n;omega
 have hz:(bw (aH (-s.depth) (s.top+1)) ((s.row g).map PyData.int)).length<=900:=by
  unfold bw;rw [uO,wO,cw];omega
 have hm:bG (cm (bv (az (aj 0) (az (aj 1) br))) rC [.un,.un,.d s.d]) (bw (aH (-s.depth) (s.top+1)) ((s.row g).map PyData.int))=.ret ((List.replicate (bw (aH (-s.depth) (s.top+1)) ((s.row g).map PyData.int)).length true).map PyData.bool):=Zc9 λx hx=>by
  obtain ⟨k,hk⟩:=List.getElem?_of_mem hx;have hk':bw (aH (-s.depth) (s.top+1)) ((s.row g).map PyData.int)=(bw (aH (-s.depth) (s.top+1)) ((s.row g).map PyData.int)).take k++x::(bw (aH (-s.depth) (s.top+1)) ((s.row g).map PyData.int)).drop (k+1):=by
   obtain ⟨h1,h2⟩:=uR.mp hk;have h3:=xD k (bw (aH (-s.depth) (s.top+1)) ((s.row g).map PyData.int));rw [vR h1,h2] at h3;exact h3.symm
  have hlt:=(uR.mp hk).1;obtain ⟨a,c,ha,hc,rfl⟩:=p6 hk';have hkl:((bw (aH (-s.depth) (s.top+1)) ((s.row g).map PyData.int)).take k).length=k:=by rw [v9]; omega
  rw [hkl] at ha hc;obtain ⟨rfl,hpre⟩:=rb ha;have x1:-s.depth<=-s.depth+(k:Int):=by omega
  have x2:-s.depth+(k:Int)<=s.top:=by omega
  have ek:(-s.depth+(k:Int)+s.depth).toNat=k:=by omega
  have hr:=fw (f:=g) x1 x2;rw [ek] at hr;rw [uT,hr] at hc;cases hc;obtain ⟨q1,q2⟩:=hg _ x1 x2;have el:=Zn6 (s:=s) q1 q2;simp_arith only [rC,el]
 have hs:small (bw (aH (-s.depth) (s.top+1)) ((s.row g).map PyData.int)).length=true:=cu (u8 hz (by decide))
 have iT:ge "tuple" (eR (tI (s.row g)))=true:=rfl;simp_arith only [oA,e1,iT,wc,Zkb,l1,l1',oN,hs,hm,ZfA]
theorem Za7 {α:Type} (a b:α->Int) (l:List α):SeqAt.shaped (.list (l.map λx=>.tuple [.int (a x),.int (b x)]))=true:=by
 have h1:PyData.canLayAll0 (l.map λx=>.tuple [.int (a x),.int (b x)])=true:=by
  induction l with
  | nil=>rfl
  | cons x l ih=>rw [uX,PyData.canLayAll0,ih]; rfl
 have h2:PyData.depthAll (l.map λx=>.tuple [.int (a x),.int (b x)])<=1:=by
  clear h1
  induction l with
  | nil=>exact wf 1
  | cons x l ih =>
   rw [uX,PyData.depthAll];have:PyData.depth (.tuple [.int (a x),.int (b x)])=1:=rfl;rw [this];omega
 unfold SeqAt.shaped;rw [PyData.canLay0,PyData.depth,h1];simp;omega
theorem Zdb {α:Type} {h:PyData->Tr PyData} {D F:α->PyData}:∀ {l:List α},(∀ x∈l,h (D x)=.ret (F x))->bG h (l.map D)=.ret (l.map F)
 | [],_=>rfl
 | x::l,hx=>by
  rw [uX,bG,hx x (by simp),Tr.ret_bind,Zdb λy hy=>hx y (uP _ hy)]
  rfl
theorem ZkH:oz [.d (.tuple [.int 0,.int 1])]=.ret (.d (.bool true)):=by rfl
theorem om {h:PyData->Tr PyData} {y:PyData} (e:h (shr (0,1))=.ret y):∀ n:Nat,bG h ((List.replicate n ((0:Int),(1:Int))).map shr)=.ret (List.replicate n y)
 | 0=>rfl
 | n+1=>by
  rw [u6,uX,bG,e,Tr.ret_bind,om e n]
  rfl
theorem Zbe (W:Sl):∀ (n:Nat) (J2 J3:Sl),∃ K2 K3:Sl,cb (bv (az (aj 2) (az (aj 3) br))) sD ((List.replicate n ((0:Int),(1:Int))).map shr) [W,.d (.int 1),J2,J3]=.ret (.next [W,.d (.int 1),K2,K3])
 | 0,J2,J3=>⟨J2,J3,rfl⟩
 | n+1,J2,J3=>by
  obtain ⟨K2,K3,e⟩:=Zbe W n (.d (.int 0)) (.d (.int 1));refine ⟨K2,K3,?_⟩;have eg:(bv (az (aj 2) (az (aj 3) br))) (shr ((0:Int),(1:Int))) [W,.d (.int 1),J2,J3]=some [W,.d (.int 1),.d (.int 0),.d (.int 1)]:=rfl;have et:sD [W,.d (.int 1),.d (.int 0),.d (.int 1)]=.ret (.next [W,.d (.int 1),.d (.int 0),.d (.int 1)]):=by rfl
  rw [u6,uX,iE,eg,Tr.of_some,Tr.ret_bind,mi,et,Tr.ret_bind,gR,e]
theorem ZhX (s:Shp):List.replicate s.n (PyData.int 0)=(s.row λ_=>0).map PyData.int:=by
 unfold Shp.row;rw [vg];refine v7 λi=>?_;by_cases hi:i < s.n
 ·rw [vn,if_pos hi,uT,vd (by rw [gG]; exact hi)]
  rfl
 ·rw [vh (by rw [vE]; omega),vh (by rw [uO,gG]; omega)]
theorem Zjh {s:Shp} (hn:s.n<=9):oo [.d (.tuple ((List.replicate s.n ((0:Int),(1:Int))).map shr))]=.ret (.d (.tuple [lI (s.row λ_=>0),.int 1])):=by
 obtain ⟨K2,K3,e⟩:=Zbe (.d (.tuple ((List.replicate s.n ((0:Int),(1:Int))).map shr))) s.n .un .un;have em:=om (h:=cm (bv (az (aj 0) (az (aj 1) br))) Zcl [.un,.un,.d (.int 1)]) (y:=.int 0) (by rfl) s.n
 rw [ZhX] at em;have it:∀ xs,cH (.tuple xs)=.ret xs:=λ_=>rfl;have hs:small ((List.replicate s.n ((0:Int),(1:Int))).map shr).length=true:=cu (by rw [uO,vE]; omega)
 generalize (List.replicate s.n ((0:Int),(1:Int))).map shr=Z at *;have eL:PyData.list ((s.row λ_=>0).map PyData.int)=lI (s.row λ_=>0):=rfl;generalize (s.row λ_=>0).map PyData.int=Y at *;simp_arith only [oo,it,e,em,hs,eL]
theorem ZfZ {s:Shp} (h:s.Ok) (hn:s.n<=9):ox [.d s.d,.d (.tuple ((List.replicate s.n ((0:Int),(1:Int))).map shr))]=.ret (.d (.bool true)):=by
 have es:=gS h;have hq:=h.n_eq;have t0:=h.t0;have d0:=h.d0;have en:ce dt [.tuple (aH (-s.depth) (s.top+1))]=.ret (.int s.n):=by
  show Tr.ret (PyData.int ((aH (-s.depth) (s.top+1)).length:Nat))=_;rw [cw];have:(s.top+1 - -s.depth).toNat=s.n:=by omega
  rw [this]
 have em:=om (h:=cm (aj 0) Zcn [.un]) (y:=.bool true) (by rfl) s.n
 have er:List.replicate s.n (PyData.bool true)=(List.replicate s.n true).map PyData.bool:=by rw [List.map_replicate]
 rw [er] at em;have hl:((List.replicate s.n ((0:Int),(1:Int))).map shr).length=s.n:=by rw [uO,vE]
 have hs:small s.n=true:=cu (by omega)
 have iT:∀ xs,ge "tuple" (eR (.tuple xs))=true:=λ_=>rfl;have it:∀ xs,cH (.tuple xs)=.ret xs:=λ_=>rfl;have b1:(((s.n:Nat):Int) == ((s.n:Nat):Int))=true:=beq_self_eq_true _;generalize (List.replicate s.n ((0:Int),(1:Int))).map shr=Z at *;simp_arith only [ox,es,en,iT,it,hl,b1,em,hs,ZfA,wc]
theorem ZdP {s:Shp} (h:s.Ok) {ls:yy} (hl:ls.length=s.n) (hv:hW s ls):s.RlOk (jE s ls):=λx x1 x2=>by
 have hn:=h.n_eq;have t0:=h.t0;have d0:=h.d0;have hk:(x+s.depth).toNat < ls.length:=by omega
 have:=hv _ hk;unfold jE;rw [vd hk];show x<=ls[(x+s.depth).toNat]/\ls[(x+s.depth).toNat]<=s.top;omega
noncomputable def i7 (s:Shp) (ls:yy):PyData:=rH (0,1) (List.replicate s.n (0,1)) ls
theorem Zi4 {s:Shp} (h:s.Ok) (hn:s.n<=9) {ls:yy} (hl:ls.length=s.n) (hv:hW s ls):jq [.d s.d,.d (i7 s ls)]=.ret (.d (.bool true)):=by
 have e1:=ZkH;have e2:=ZfZ h hn;have e3:=Zn5 h (ZdP h hl hv);rw [ZbO h hl] at e3;have e4:shr ((0:Int),(1:Int))=.tuple [.int 0,.int 1]:=rfl;have iT:∀ xs,ge "tuple" (eR (.tuple xs))=true:=λ_=>rfl;have l3:((3:Int) == 3)=true:=rfl;unfold i7 rH;rw [e4];generalize (List.replicate s.n ((0:Int),(1:Int))).map shr=Z at *;simp_arith only [jq,iT,Zgr,e1,e2,e3,wc]
theorem Zj9 {s:Shp} {one:yy} (c:Cs s one) {ls:yy} (hl:ls.length=s.n) (hv:hW s ls):∃ b:Bool,fb [.d s.d,.d (tI one),.d (i7 s ls)]=.ret (.d (.bool b)):=by
 have h:=c.dr.ok;have n8:=c.n8;have hd:=c.B;have e0:=oX (s:=s) c.B c.gr c.ps;have ef:=Zi4 h (by omega) hl hv
 have e1:=Zjh (s:=s) (by omega)
 have n0:nb 10 (0:Int):=cR (by decide) (by decide)
 have n1:nb 10 (1:Int):=cR (by decide) (by decide)
 have hA:Bd s 10 (λ_=>0):=λx _ _=>n0;have e2:=Zoc h hd hA n1 (by decide) (ZdP h hl hv) (LV:=tI ls) (by rw [ZbO h hl]; rfl)
 have e3:=Zn0 h hd (C:=cby s one (λ_=>0) 1 (jE s ls)) hA n1 (by decide)
 generalize cby s one (λ_=>0) 1 (jE s ls)=C at *;have S0:=hd.pos;have sn:=dC hd;have nB:nb 7000 (1 * one.sum):=by rw [xY]; exact bn sn (by decide)
 have g1:=bc n1 (by decide)
 have g2:=bc sn (by decide)
 have m1:=Zdb (h:=cm (aj 0) rA [.un,.d (.int 1),.d (tI one)]) (D:=λx=>PyData.int (C x)) (F:=λx=>PyData.tuple [.int (Gc.l0 (C x) (1 * one.sum)),.int (Gc.l4 (C x) (1 * one.sum))]) (l:=aL (-s.depth) s.n) λx hx=>by
  have es:=oW (t:=C x) (b:=1 * one.sum) (by omega) nB
  have e3:∀ (q:yn) (a:PyData),cm (aj 0) q [.un,.d (.int 1),.d (tI one)] a=q [.d a,.d (.int 1),.d (tI one)]:=λq a=>rfl;rw [e3];simp_arith only [rA,gz,g1,g2,es]
  rfl
 have em1:(aL (-s.depth) s.n).map (λx=>PyData.int (C x))=(s.row C).map PyData.int:=by unfold Shp.row; rw [vg]; rfl
 rw [em1] at m1;have m2:=om (h:=cm (aj 0) Zcm [.un,.d (shr ((0:Int),(1:Int)))]) (y:=.tuple [.int 0,.int 1]) (by rfl) s.n
 have er:List.replicate s.n (PyData.tuple [.int 0,.int 1])=(List.range s.n).map λx:Nat=>PyData.tuple [.int ((λ_:Nat=>(0:Int)) x),.int ((λ_:Nat=>(1:Int)) x)]:=by
  rw [List.map_const',vq]
 have hne:=Zd3 (Za7 (λx=>Gc.l0 (C x) (1 * one.sum)) (λx=>Gc.l4 (C x) (1 * one.sum)) (aL (-s.depth) s.n)) (Za7 (λ_:Nat=>(0:Int)) (λ_=>(1:Int)) (List.range s.n));rw [<- er] at hne;have itw:∀ xs,cH (.tuple xs)=.ret xs:=λ_=>rfl;have itc:cH (.list ((s.row C).map PyData.int))=.ret ((s.row C).map PyData.int):=rfl;have hs1:small ((s.row C).map PyData.int).length=true:=cu (by rw [uO,fS]; omega)
 have hs2:small ((List.replicate s.n ((0:Int),(1:Int))).map shr).length=true:=cu (by rw [uO,vE]; omega)
 have eLC:PyData.list ((s.row C).map PyData.int)=lI (s.row C):=rfl;unfold i7 rH at *;generalize (List.replicate s.n ((0:Int),(1:Int))).map shr=Z at *;generalize List.replicate s.n (PyData.tuple [PyData.int 0,PyData.int 1])=Y at *;generalize ((aL (-s.depth) s.n).map λx=>PyData.tuple [.int (Gc.l0 (C x) (1 * one.sum)),.int (Gc.l4 (C x) (1 * one.sum))])=V at *;cases hq:(!PyData.eqvAll V Y)
 ·rw [hq] at hne;rcases e3 with ⟨q,e3⟩ | ⟨q,e3⟩
  ·refine ⟨true,?_⟩;simp_arith only [fb,jz,jA,e0,ef,wc,e1,e2,itw,itc,hs1,hs2,m1,m2,hne];simp_arith only [eLC,e3]
  ·refine ⟨false,?_⟩;simp_arith only [fb,jz,jA,e0,ef,wc,e1,e2,itw,itc,hs1,hs2,m1,m2,hne];simp_arith only [eLC,e3]
 ·rw [hq] at hne;refine ⟨false,?_⟩;simp_arith only [fb,jz,jA,e0,ef,wc,e1,e2,itw,itc,hs1,hs2,m1,m2,hne,xI]
theorem Zj7 {s:Shp} {one:yy} (c:Cs s one) {x:PyData} (hx:∀ a b d,x≠.tuple [a,b,d]):fb [.d s.d,.d (tI one),.d x]=.ret (.d (.bool false)):=by
 have e0:=oX (s:=s) c.B c.gr c.ps;have ef:jq [.d s.d,.d x]=.ret (.d (.bool false)):=by
  by_cases ht:∃ ys,x=.tuple ys
  ·obtain ⟨xs,rfl⟩:=ht;have hl:xs.length≠3:=λz=>by
    obtain ⟨a,b,d,rfl⟩:=Zj4 z;exact hx a b d rfl
   have e:(!((xs.length:Nat):Int) == 3)=true:=by rw [beq_eq_false_iff_ne.mpr (by omega)]; rfl
   have iT:ge "tuple" (eR (.tuple xs))=true:=rfl;simp_arith only [jq,iT,wc,e]
  ·have hn:ge "tuple" (eR x)=false:=by
    cases x with
    | tuple xs=>exact absurd ⟨xs,rfl⟩ ht
    | _=>rfl
   simp_arith only [jq,hn,xI]
 simp_arith only [fb,jz,jA,e0,ef,xI]
theorem Zn2 {s:Shp} {one:yy} {lv:Nat->Int} (r:RuOk s one lv):iA [.d s.d,.d (tI one),.d (tI ((List.range s.n).map lv))]=.ret (.d (.tuple [.int (zB s one lv 0),lI (s.row (wB s one lv)),.int (aW s one lv)])):=by
 have h:=r.h;have hn:=h.n_eq;have t0:=h.t0;have d0:=h.d0;have n9:=r.n9;have e1:=gS h;have em:=Zc6 r;have es:=Zej (ZaL r);have it:∀ xs,cH (.tuple xs)=.ret xs:=λ_=>rfl;have hs:small (bw (aH (-s.depth) (s.top+1)) (((List.range s.n).map lv).map PyData.int)).length=true:=cu (by
  unfold bw;rw [uO,wO,cw];omega)
 have ew:=Zah h one lv;have ez:((List.range s.n).map λi=>M (bP s one lv s.n) s.n i (col (bP s one lv s.n) s.n)).map PyData.int=((List.range s.n).map (zB s one lv)).map PyData.int:=rfl;rw [ez] at es;have a0:aT aE (.list (((List.range s.n).map (zB s one lv)).map PyData.int)) (.int 0)=.ret (.int (zB s one lv 0)):=by
  rw [mh,fJ (v:=.int (zB s one lv 0)) (by decide) (by rw [uT,uT]; show Option.map _ (Option.map _ ((List.range s.n)[0]?))=_; rw [u7 (by omega)]; rfl)]
  rfl
 have a1:k8 (.list (((List.range s.n).map (zB s one lv)).map PyData.int)) (some 1) none=.ret (.list ((((List.range s.n).map (zB s one lv)).map PyData.int).drop 1)):=by
  rw [tj,ZeK]
 have a2:aT aS (.list [.int 0]) (.list ((((List.range s.n).map (zB s one lv)).map PyData.int).drop 1))=.ret (lI (s.row (wB s one lv))):=by
  rw [oU (cu (by rw [wG,uO,uO,vq]; show 1+_<=_; omega))]
  show Tr.ret (PyData.list (PyData.int 0::(((List.range s.n).map (zB s one lv)).map PyData.int).drop 1))=_;rw [ew]
  rfl
 have ed:d (bP s one lv s.n) s.n=aW s one lv:=rfl;rw [ed] at es;generalize ((List.range s.n).map (zB s one lv)).map PyData.int=zs at *;simp_arith only [iA,Zd5,Zd6,e1,it,oN,hs,em,es,a0,a1,a2]
theorem Zn1 {s:Shp} {one:yy} {lv:Nat->Int} (r:RuOk s one lv):kh [.d s.d,.d (tI one),.d (tI (bX s lv))]=.ret (.d (iU (zB s one lv 0) (aW s one lv))):=by
 have e0:=oX r.hd r.gr r.ps;have e1:=Zn2 r;have sp:=fv r;have e2:=oW (t:=zB s one lv 0) (b:=aW s one lv) (by omega) (bn (fR r) (by decide))
 unfold bX;simp_arith only [kh,jz,jA,e0,e1,e2]
theorem Zn4 {s:Shp} {one:yy} (c:Cs s one):∃ d,ki [.d s.d,.d (tI one)]=.ret (.d d):=by
 obtain ⟨lv,r,hf,e⟩:=Zem c.dr.ok c.n8 c.B c.gr c.ps;have h:=c.dr.ok;have t0:=h.t0;have d0:=h.d0;have sp:=fv r;have sn:=dC c.B;have e0:=oX c.B c.gr c.ps;have e1:=Zek h c.B (m7 r) (bn (fR r) (show 1531<=1702 by decide)) (by decide)
 have hg:Bd s 3000 (s.sm one (wB s one lv) (aW s one lv)):=λx x1 x2=>bn (ZaX h c.B (m7 r) (bn (fR r) (show 1531<=1702 by decide)) x x1 x2) (by decide)
 have hB:nb 3000 (aW s one lv * one.sum):=bn (cx (fR r) sn) (by decide)
 obtain ⟨d,e2⟩:=ZjT h hg hB (v6 (vL sp) (vL c.B.pos)) (least:=-s.depth) (vz _) (by omega)
 have f1:=bc (fR r) (by decide)
 have f2:=bc sn (by decide)
 have eL:PyData.list ((s.row (s.sm one (wB s one lv) (aW s one lv))).map PyData.int)=lI (s.row (s.sm one (wB s one lv) (aW s one lv))):=rfl;unfold kW at e;simp_arith only [ki,jz,jA,e0,e,e1];simp_arith only [eL,gz,f1,f2,e2];exact ⟨_,rfl⟩
theorem Zp6 {α β:Type} {h:PyData->Tr PyData} {D:α->PyData} {F:β->PyData} {Q:α->β->Prop} {n:Nat}:∀ (l:List α),(∀ x∈l,Al (h (D x)) n λy=>∃ v,y=F v/\Q x v)->Al (bG h (l.map D)) (n * l.length) λys=>∃ vs:List β,ys=vs.map F/\vs.length=l.length/\∀ (k:Nat) (x:α) (v:β),l[k]?=some x->vs[k]?=some v->Q x v:=by
 intro l
 induction l with
 | nil=>intro _; exact c7 ⟨[],rfl,rfl,λk x v a b=>by simp at a⟩
 | cons x l ih =>
  intro hx;rw [uX,bG];refine eO (hx x (by simp)) (n':=n * l.length) (by rw [uZ,Nat.mul_succ]; omega) ?_
  rintro _ ⟨v,rfl,hq⟩;refine eO (n':=0) (ih λy hy=>hx y (uP _ hy)) (by omega) ?_
  rintro _ ⟨vs,rfl,hl,hqs⟩;refine c7 ⟨v::vs,rfl,by rw [uZ,uZ,hl],λk y w a b=>?_⟩
  cases k with
  | zero=>cases a; cases b; exact hq
  | succ k=>exact hqs k y w a b
theorem ZhY (n:Nat):aH 0 (n:Int)=(List.range n).map λk:Nat=>PyData.int k:=by
 unfold aH aL;rw [vg,show ((n:Int) - 0).toNat=n by omega]
 refine vP λk _=>?_;show PyData.int (0+(k:Int))=_;rw [Int.zero_add]
theorem qD:∀ (a:yy) (k m:Nat),cF k (a++List.replicate m 0)=cF k a
 | [],k,m=>by
  have key:∀ (m k:Nat),cF k (List.replicate m (0:Int))=[]:=by
   intro m
   induction m with
   | zero=>intro k; rfl
   | succ m ih=>intro k; rw [u6,cF,if_neg (by decide),ih]
  exact key m k
 | w::a,k,m=>by
  rw [wH,cF,cF,qD a (k+1) m]
theorem qC:∀ {l:yy} {k:Nat} {x:Int},x∈cF k l->x < k+l.length
 | [],_,_,h=>by cases h
 | w::l,k,x,h=>by
  rw [uZ];rw [cF] at h
  split at h
  ·rcases uV.mp h with e | e
   ·omega
   ·have:=qC e; omega
  ·have:=qC h; omega
theorem fa {p:PyData->Prop} {a:PyData} {l:yx} (h:p a) (t:∀ x∈l,p x):∀ x∈a::l,p x:=λx hx=>by
 rcases uV.mp hx with rfl | q
 ·exact h
 ·exact t x q
theorem fn {p:PyData->Prop}:∀ x∈([]:yx),p x:=λ_ h=>nomatch h
structure Sp38 (s:Shp) (one:yy) (far:Nat):Prop where
 dr:s.Dr
 f7:far<=7
 len:one.length<=8
 le:∀ n∈one,0<=n/\n<=1000
 at':∃ v,one[far]?=some v/\1<=v
 zr:∃ (a:yy) (m:Nat),one=a++List.replicate m 0/\a.length=far+1
theorem Sp38.gr {s:Shp} {one:yy} {far:Nat} (h:Sp38 s one far):great one=far:=by
 obtain ⟨v,h1,h2⟩:=h.at';have a:=ZdR h1 h2;obtain ⟨l,m,e,hl⟩:=h.zr;have hm:=qB (k:=0) h1 (by omega)
 have b:=(lQ (List.ne_nil_of_mem hm)).1;rw [e,qD] at b;have b':=qC b;have c:great one=eK (cF 0 l):=by unfold great; rw [e,qD]
 rw [c] at a ⊢;omega
theorem Sp38.ps {s:Shp} {one:yy} {far:Nat} (h:Sp38 s one far):∃ w∈one,w > 0:=by
 obtain ⟨v,h1,h2⟩:=h.at';exact ⟨v,vY h1,by omega⟩
theorem Sp38.B {s:Shp} {one:yy} {far:Nat} (h:Sp38 s one far):DayB one:=DayOk.B (m:=8) ⟨h.len,h.ps,λn hn=>by have:=h.le n hn; omega⟩ (by decide)
theorem Sp38.cs {s:Shp} {one:yy} {far:Nat} (h:Sp38 s one far) (hf:s.top+s.depth<=far):Cs s one:=by
 obtain ⟨v,h1,h2⟩:=h.at';exact ⟨h.dr,by have:=h.f7; omega,h.len,h.le,far,v,hf,h1,h2⟩
noncomputable def nz:yq :=
 (ao (aX 3 (ay (av cC (cg 0 (ad (ae aS (aa 2) (aC (.int 1))) ak)))))
 (ao (aX 4 (bh lO (ah (aC (.int 7)) (ah (bh jj (ah (aC (.int 0)) (ah (ae aS (aa 2) (ae aE (bU (di (ah (aC (.int 0)) (ah (ae bZ (aC (.int 0)) (aC (.int 1))) (ah (aC (.int 1)) (ah (ae aS (ae bZ (aC (.int 0)) (aa 2)) (ay (av cC (cg 0 (ad (aC (.int 8)) ak))))) (ah (aC (.int 0)) (ah (aC (.int 0)) aq)))))))) (aa 1))) aq))) aq))))
 (ao (aX 5 (ae aS (ay (av lU (cg 0 (ad (ae aS (aa 4) (aC (.int 1))) (ad (aa 4) ak))))) (ae gF (cj (ah (aC (.int 0)) aq)) (ay (av cC (cg 0 (ad (ae bZ (aC (.int 8)) (aa 4)) ak)))))))
 (bu (cj (ah (ae aS (cj (ah (ae bZ (aa 2) (aa 3)) (ah (aa 3) aq))) (bh gy (ah (bU (db (g0 (ah (aC (.int 7)) aq)) 1 [0] (aj 0) rB)) aq))) (ah (aa 5) (ah (aa 4) aq))))))))
theorem ZjL (z:Int):∃ far:Nat,iw 7 (cS 0 z)=(far:Int)/\far<=7:=by
 refine ⟨(iw 7 (cS 0 z)).toNat,?_,?_⟩
 ·unfold iw cS
  split <;> split <;> omega
 ·unfold iw cS
  split <;> split <;> omega
theorem ZhD {w pc:Int} (w0:0<=w) (w1:w < 6) (p0:0<=pc) (p1:pc<=39):Al (nz [.pen,.d (.int w),.d (.int pc),.un,.un,.un]) 57 λo=>∃ (s:Shp) (one:yy) (far:Nat),o=.ret (.d (.tuple [s.d,tI one,.int far]))/\Sp38 s one far:=by
 have r1:gE [.int 7]=.ret (aH 0 7):=kF rfl;have hs:small (aH 0 7).length=true:=cu (by rw [cw]; decide)
 simp_arith only [nz,bJ];refine dP (n:=56) (by omega) (by omega) (by decide) λd d0 d1=>?_
 try simp_arith only [bJ]
 refine dP (n:=55) (by omega) (by omega) (by decide) λt t0 t1=>?_
 obtain ⟨y,hy,y0,y1⟩:=rL (xs:=[PyData.int 0,.int (0 - 1),.int 1,.int (0 - pc+t),.int 0,.int 0]) (lo:=-39) (hi:=7) (r:=w) (by simp [kz]; omega) w0 (by simpa using w1)
 obtain ⟨far,ef,f7⟩:=ZjL (pc+y);simp_arith only [bJ,hy,ef];have em:((far:Int)+1)=((far+1:Nat):Int):=by omega
 simp only [em];refine eO (n:=24) (n':=31) (mw (ZhA (many:=far+1) (k:=far) (by omega) (by omega)) (show 3 * (far+1)<=24 by omega) λ_ h=>h) (by decide) ?_
 rintro _ ⟨ls,rfl,hls⟩
 try simp_arith only [bJ]
 refine dP (n:=30) (by omega) (by omega) (by decide) λr r0 r1'=>?_
 obtain ⟨k,ek⟩:∃ k:Nat,r=(k:Int):=⟨r.toNat,by omega⟩
 have er:aT gF (.tuple [.int 0]) (.int (k:Int))=.ret (.tuple ((List.replicate k (0:Int)).map PyData.int)):=by
  rw [Zd2 (by
   rw [decide_eq_true (show (-1000:Int)<=(k:Int) by omega),decide_eq_true (show (k:Int)<=1000 by omega)]
   rfl)]
  have e1:((k:Int)).toNat=k:=by omega
  rw [e1];have e2:∀ n:Nat,(List.replicate n [PyData.int 0]).flatten=(List.replicate n (0:Int)).map PyData.int:=by
   intro n
   induction n with
   | zero=>rfl
   | succ n ih=>rw [u6,vG,ih,u6,uX]; rfl
  rw [e2]
 have hl:=hls.len;have a1:aT aS (tI ls) (.tuple ((List.replicate k (0:Int)).map PyData.int))=.ret (tI (ls++List.replicate k 0)):=by
  unfold tI;rw [Zeb (by cases ls with | nil=>cases hl | cons a l=>rfl) (cu (by rw [uO,uO,vE]; omega)),vW]
 simp_arith only [bJ,ek,er,a1,r1,hs];refine eO (n:=21) (n':=9) (Zp7 (n:=3) (P:=kz 0 1000000) (Q:=λys=>∃ ps:yy,ys=ps.map PyData.int/\ps.length=7/\∀ p∈ps,0<=p/\p<=1000000) (by rw [cw]; decide) (λx hx=>?_) λys hl hys=>?_) (by decide) ?_
 ·simp_arith only [rB,bJ];refine eO (n:=3) (n':=0) ZhE (by decide) ?_
  rintro _ ⟨p,rfl,p0,p1⟩;simp_arith only [bJ];exact c7 ⟨p,rfl,p0,p1⟩
 ·obtain ⟨ps,rfl,hp⟩:=ZdG hys;rw [uO,cw] at hl;exact ⟨ps,rfl,hl,hp⟩
 ·rintro _ ⟨ps,rfl,hpl,hp⟩;obtain ⟨a1,a2,a3,a4,a5,a6,a7,rfl⟩:=Zj3 hpl;simp_arith only [bJ];have hd:(Shp.mk (pc - d) d a1 a2 a3 a4 a5 a6 a7).Dr:=⟨by show 0<=pc - d; omega,d0,by show pc - d+d<=39; omega,hp⟩
  obtain ⟨v,v1,v2⟩:=hls.at';refine c7 ⟨⟨pc - d,d,a1,a2,a3,a4,a5,a6,a7⟩,ls++List.replicate k 0,far,by rw [<- Zhg],hd,f7,?_,λn hn=>?_,⟨v,?_,v2⟩,ls,k,rfl,hl⟩
  ·rw [vF,vE,hl];omega
  ·rcases vV.mp hn with q | q
   ·exact hls.le n q
   ·rw [yg q];omega
  ·rw [vp (by omega)]
   exact v1
theorem ZhC:Al (ot [.pen]) 60 λr=>∃ (s:Shp) (one:yy) (far:Nat),r=.d (.tuple [s.d,tI one,.int far])/\Sp38 s one far:=by
 have e:ot=bg 1 5 (ao (aX 1 (ay (av cC (cg 0 (ad (aC (.int 6)) ak))))) (ao (aX 2 (ay (av cC (cg 0 (ad (aC (.int 8)) ak))))) (ao (cz (bE (ae dg (aa 1) (aC (.int 5)))) (aX 2 (ae aS (aC (.int 8)) (ay (av cC (cg 0 (ad (aC (.int 32)) ak)))))) cy) nz))):=rfl;rw [e];simp_arith only [bJ];refine dP (n:=59) (by decide) (by decide) (by decide) λw w0 w1=>?_
 try simp_arith only [bJ]
 refine dP (n:=58) (by decide) (by decide) (by decide) λp p0 p1=>?_
 have fin:∀ (pc:Int),0<=pc->pc<=39->Al ((nz [.pen,.d (.int w),.d (.int pc),.un,.un,.un]).bind mf) 57 λr=>∃ (s:Shp) (one:yy) (far:Nat),r=.d (.tuple [s.d,tI one,.int far])/\Sp38 s one far:=λpc h0 h1=>by
  refine eO (n:=57) (n':=0) (ZhD w0 w1 h0 h1) (by decide) ?_
  rintro _ ⟨s,one,far,rfl,hs⟩;exact c7 ⟨s,one,far,rfl,hs⟩
 by_cases c:w=5
 ·have c2:(w == 5)=true:=by rw [c]; rfl
  simp_arith only [bJ,c2];refine dP (n:=57) (by decide) (by decide) (by decide) λq q0 q1=>?_
  try simp_arith only [bJ]
  exact fin (8+q) (by omega) (by omega)
 ·have c2:(w == 5)=false:=beq_eq_false_iff_ne.mpr c;simp_arith only [bJ,c2];exact mw (fin p p0 (by omega)) (by decide) λ_ h=>h
theorem mW {ix:List Nat} {i:List Sl->Tr yD} {q:yp} {t:yn} {ρ:yD} {xs:yx} (hc:jB ix ρ=some xs) (h:(i (xs.map Sl.d)).bind q=.ret true):dQ ix i q t ρ=.ret (.str "no mean"):=by
 unfold dQ;rw [hc];dsimp only;rw [h]
theorem mV {ix:List Nat} {i:List Sl->Tr yD} {q:yp} {t:yn} {ρ:yD} {xs:yx} {z:PyData} (hc:jB ix ρ=some xs) (h:(i (xs.map Sl.d)).bind q=.ret false) (ht:t (xs.map Sl.d)=.ret z):dQ ix i q t ρ=.ret (.str "told"):=by
 unfold dQ;rw [hc];dsimp only;rw [h];dsimp only;rw [ht]
theorem nL {s:Shp} {one:yy} (hd:DayB one) (ps:∃ w∈one,w > 0):fU [.d s.d,.d (tI one)]=.ret (decide (great one < s.top+s.depth)):=by
 have eg:=tF ps (by have:=hd.len; omega)
 show bE (ae (c6 λi j=>decide (i < j)) (ay (av jr (ad (aa 1) ak))) (ae aS (ae aE (aa 0) (aC (.int 0))) (ae aE (aa 0) (aC (.int 1))))) [.d s.d,.d (tI one)]=_;simp_arith only [eg]
theorem ZcO {s:Shp} {one:yy} (hd:DayB one) (ps:∃ w∈one,w > 0):je [.d s.d,.d (tI one)]=.ret (decide (great one < s.top+s.depth)):=by
 show Tr.bind (.ret [.d s.d,.d (tI one)]) fU=_;rw [Tr.ret_bind,nL hd ps]
theorem ZcL {s:Shp} {one:yy} (hd:DayB one) (ps:∃ w∈one,w > 0) (x:PyData):jb [.d s.d,.d (tI one),.d x]=.ret (decide (great one < s.top+s.depth)):=by
 show Tr.bind (.ret [.d s.d,.d (tI one)]) fU=_;rw [Tr.ret_bind,nL hd ps]
theorem ZcM {s:Shp} {one:yy} (hd:DayB one) (ps:∃ w∈one,w > 0):jd [.d s.d,.d (tI one)]=.ret (decide (great one < s.top+s.depth)):=by
 show Tr.bind (.ret [.d s.d,.d (tI one)]) fU=_;rw [Tr.ret_bind,nL hd ps]
theorem ZcN {s:Shp} {one:yy} (hd:DayB one) (ps:∃ w∈one,w > 0) (x:PyData):jc [.d s.d,.d (tI one),.d x]=.ret (decide (great one < s.top+s.depth)):=by
 show Tr.bind (.ret [.d s.d,.d (tI one)]) fU=_;rw [Tr.ret_bind,nL hd ps]
noncomputable abbrev w1:yn:=dQ [3,4] (ad (aa 0) (ad (aa 1) ak)) je (ay (av jp (ad (aa 0) (ad (aa 1) ak))))
noncomputable abbrev w2:yn:=dQ [3,4,7] (ad (aa 0) (ad (aa 1) (ad (aa 2) ak))) jb (ay (av kh (ad (aa 0) (ad (aa 1) (ad (aa 2) ak)))))
noncomputable abbrev w3:yn:=dQ [3,4] (ad (aa 0) (ad (aa 1) ak)) jd (ay (av ki (ad (aa 0) (ad (aa 1) ak))))
noncomputable abbrev w4:yn:=dQ [3,4,8] (ad (aa 0) (ad (aa 1) (ad (aa 2) ak))) jc (ay (av fb (ad (aa 0) (ad (aa 1) (ad (aa 2) ak)))))
theorem nU {s:Shp} {one:yy} (hd:DayB one) (ps:∃ w∈one,w > 0) (hg:great one < s.top+s.depth) (y x:PyData) (J0 J1 J2 J5 J6 J9 J10 J11:Sl) :
  w1 [J0,J1,J2,.d s.d,.d (tI one),J5,J6,.d y,.d x,J9,J10,J11]=.ret (.str "no mean") /\
  w2 [J0,J1,J2,.d s.d,.d (tI one),J5,J6,.d y,.d x,J9,J10,J11]=.ret (.str "no mean") /\
  w3 [J0,J1,J2,.d s.d,.d (tI one),J5,J6,.d y,.d x,J9,J10,J11]=.ret (.str "no mean") /\
  w4 [J0,J1,J2,.d s.d,.d (tI one),J5,J6,.d y,.d x,J9,J10,J11]=.ret (.str "no mean"):=by
 have e:decide (great one < s.top+s.depth)=true:=decide_eq_true hg;refine ⟨mW (xs:=[s.d,tI one]) rfl ?_,mW (xs:=[s.d,tI one,y]) rfl ?_,mW (xs:=[s.d,tI one]) rfl ?_,mW (xs:=[s.d,tI one,x]) rfl ?_⟩
 ·show Tr.bind (.ret [.d s.d,.d (tI one)]) je=_;rw [Tr.ret_bind,ZcO hd ps,e]
 ·show Tr.bind (.ret [.d s.d,.d (tI one),.d y]) jb=_;rw [Tr.ret_bind,ZcL hd ps,e]
 ·show Tr.bind (.ret [.d s.d,.d (tI one)]) jd=_;rw [Tr.ret_bind,ZcM hd ps,e]
 ·show Tr.bind (.ret [.d s.d,.d (tI one),.d x]) jc=_;rw [Tr.ret_bind,ZcN hd ps,e]
theorem m9 {s:Shp} {one:yy} (hd:DayB one) (ps:∃ w∈one,w > 0) (hg:¬ great one < s.top+s.depth) {y x a b c d:PyData} (e1:jp [.d s.d,.d (tI one)]=.ret (.d a)) (e2:kh [.d s.d,.d (tI one),.d y]=.ret (.d b)) (e3:ki [.d s.d,.d (tI one)]=.ret (.d c)) (e4:fb [.d s.d,.d (tI one),.d x]=.ret (.d d)) (J0 J1 J2 J5 J6 J9 J10 J11:Sl) :
  w1 [J0,J1,J2,.d s.d,.d (tI one),J5,J6,.d y,.d x,J9,J10,J11]=.ret (.str "told") /\
  w2 [J0,J1,J2,.d s.d,.d (tI one),J5,J6,.d y,.d x,J9,J10,J11]=.ret (.str "told") /\
  w3 [J0,J1,J2,.d s.d,.d (tI one),J5,J6,.d y,.d x,J9,J10,J11]=.ret (.str "told") /\
  w4 [J0,J1,J2,.d s.d,.d (tI one),J5,J6,.d y,.d x,J9,J10,J11]=.ret (.str "told"):=by
 have e:decide (great one < s.top+s.depth)=false:=decide_eq_false hg;refine ⟨mV (xs:=[s.d,tI one]) (z:=a) rfl ?_ ?_,mV (xs:=[s.d,tI one,y]) (z:=b) rfl ?_ ?_,mV (xs:=[s.d,tI one]) (z:=c) rfl ?_ ?_,mV (xs:=[s.d,tI one,x]) (z:=d) rfl ?_ ?_⟩
 ·show Tr.bind (.ret [.d s.d,.d (tI one)]) je=_;rw [Tr.ret_bind,ZcO hd ps,e]
 ·simp_arith only [e1]
 ·show Tr.bind (.ret [.d s.d,.d (tI one),.d y]) jb=_;rw [Tr.ret_bind,ZcL hd ps,e]
 ·simp_arith only [e2]
 ·show Tr.bind (.ret [.d s.d,.d (tI one)]) jd=_;rw [Tr.ret_bind,ZcM hd ps,e]
 ·simp_arith only [e3]
 ·show Tr.bind (.ret [.d s.d,.d (tI one),.d x]) jc=_;rw [Tr.ret_bind,ZcN hd ps,e]
 ·simp_arith only [e4]
noncomputable def thgs (s:Shp) (ls:yy):yx:=[.none,.tuple [],i7 s ls,.int 7,.str "paper",.dict [],.list [tI ls]]
theorem Zh4 (n:Nat) (h:n<=1000):aT gF (.tuple [.tuple [.int 0,.int 1]]) (.int (n:Int))=.ret (.tuple ((List.replicate n ((0:Int),(1:Int))).map shr)):=by
 rw [Zd2 (by
  rw [decide_eq_true (show (-1000:Int)<=(n:Int) by omega),decide_eq_true (show (n:Int)<=1000 by omega)]
  rfl)]
 have e1:((n:Int)).toNat=n:=by omega
 rw [e1];have e2:∀ n:Nat,(List.replicate n [PyData.tuple [PyData.int 0,PyData.int 1]]).flatten=(List.replicate n ((0:Int),(1:Int))).map shr:=by
  intro n
  induction n with
  | zero=>rfl
  | succ n ih=>rw [u6,vG,ih,u6,uX]; rfl
 rw [e2]
theorem Zj8 {s:Shp} {one:yy} (c:Cs s one) {ls:yy} (hl:ls.length=s.n) (hv:hW s ls) {x:PyData} (hx:x∈thgs s ls):∃ b:Bool,fb [.d s.d,.d (tI one),.d x]=.ret (.d (.bool b)):=by
 by_cases hp:x=i7 s ls
 ·subst hp;exact Zj9 c hl hv
 ·refine ⟨_,Zj7 c λa b d e=>?_⟩;unfold thgs at hx;rw [e] at hx;simp only [uV,wF,or_false] at hx;rcases hx with q | q | q | q | q | q | q
  ·cases q
  ·cases q
  ·exact hp (e.trans q)
  ·cases q
  ·cases q
  ·cases q
  ·cases q
theorem Zcy {s:Shp} (h:s.Dr) {ls:yy} (hl:ls.length=s.n) (hv:hW s ls):Pn (tI ls) 1 100000:=by
 have t0:=h.t0;have d0:=h.d0;have td:=h.td;have hn:=h.ok.n_eq;refine ii (lC (xs:=ls.map PyData.int) (k:=0) (n:=1901) λy hy=>?_) (uQ _) ?_
 ·obtain ⟨q,hq,rfl⟩:=wt.mp hy;obtain ⟨i,hi,rfl⟩:=List.mem_iff_getElem.mp hq;have:=hv i hi;exact nG (nZ (by omega) (by omega))
 ·rw [uO];have:ls.length * 1901<=40 * 1901:=wj 1901 (by omega)
  omega
theorem lh {x:PyData} (h:x.hasDict=false\/cr x=false) (h2:x.showable=true) (h3:x.depth<=5) (h4:x.shown.length<=2000000):Rq x 5 2000000:=⟨h,h2,h3,h4⟩
theorem ZhO {s:Shp} (h:s.Dr) {ls:yy} (hl:ls.length=s.n) (hv:hW s ls) {x:PyData} (hx:x∈thgs s ls):Rq x 5 2000000:=by
 have t0:=h.t0;have d0:=h.d0;have td:=h.td;have hn:=h.ok.n_eq;have pl:=Zcy h hl hv;unfold thgs at hx;simp only [uV,wF,or_false] at hx;rcases hx with rfl | rfl | rfl | rfl | rfl | rfl | rfl
 ·exact lh (.inl rfl) rfl (by decide) (by trivial)
 ·exact lh (.inl rfl) rfl (by decide) (by trivial)
 ·have ps:Pn (shr ((0:Int),(1:Int))) 1 4000:=ii (lC (xs:=[.int 0,.int 1]) (k:=0) (n:=1901) (fa (nG (nZ (by decide) (by decide))) (fa (nG (nZ (by decide) (by decide))) fn))) (uQ _) (show 2 * 1901+2 * 2+10<=4000 by decide)
  have pw:Pn (.tuple ((List.replicate s.n ((0:Int),(1:Int))).map shr)) 2 200000:=ii (lC (k:=1) (n:=4000) λy hy=>by
   obtain ⟨p,hp,rfl⟩:=wt.mp hy;rw [yg hp];exact ps) (uQ _) (by
   rw [uO,vE];have:s.n * 4000<=40 * 4000:=wj 4000 (by omega)
   omega)
  have pp:Pn (i7 s ls) 3 610000:=ii (lC (xs:=[shr (0,1),.tuple ((List.replicate s.n ((0:Int),(1:Int))).map shr),tI ls]) (k:=2) (n:=200000) (fa (ii ps (by decide) (by decide)) (fa pw (fa (ii pl (by decide) (by decide)) fn)))) (uQ _) (show 3 * 200000+2 * 3+10<=610000 by decide)
  exact ZbK pp.rq (by decide) (by decide)
 ·exact lh (.inl rfl) rfl (by decide) (by trivial)
 ·exact lh (.inl rfl) rfl (by decide) (by trivial)
 ·exact lh (.inr (by rw [cr]; rfl)) rfl (by decide) (by trivial)
 ·exact ZbK (ZhR (xs:=[tI ls]) (k:=1) (n:=100000) (fa pl fn)) (by decide) (show 1 * 100000+2 * 1+10<=2000000 by decide)
theorem ZhV {s:Shp} {one:yy} {far:Nat} (h:Sp38 s one far) {ls:yy} (hl:ls.length=s.n) (hv:hW s ls) {x:PyData} (hx:x∈thgs s ls):iZ (.tuple [s.d,tI one,tI ls,x])=true:=by
 have ok:=h.dr.ok;have i1:Pn (tI one) 5 2000000:=by
  have p:∀ y∈one.map PyData.int,Pn y 0 1901:=λy hy=>by
   obtain ⟨q,hq,rfl⟩:=wt.mp hy;have:=h.le q hq;exact nG (nZ (by omega) (by omega))
  have hl:=h.len;exact ii (lC p) (by decide) (by rw [uO]; have:one.length * 1901<=8 * 1901:=wj 1901 hl; omega)
 have i2:Pn s.d 5 2000000:=by
  have r:=qY (ZhU ok) (show _<=5 by decide) (show _<=2000000 by decide)
  refine ⟨?_,?_,ZaJ r⟩
  ·unfold Shp.d; rfl
  ·unfold Shp.d;rw [cr];exact nV (fa (by rw [cr]) (fa (by rw [cr]) (fa (by rw [cr]) (fa (by rw [cr]) (fa (by rw [cr]) (fa (by rw [cr]) (fa (by rw [cr]) (fa (by rw [cr]) (fa (by rw [cr]) fn)))))))))
 exact ZhQ (ZhP (A:=[s.d,tI one,tI ls]) (x:=x) (B:=[]) (k:=5) (n:=2000000) (fa i2 (fa i1 (fa (ii (Zcy h.dr hl hv) (by decide) (by decide)) fn))) fn (ZhO h.dr hl hv hx)) (by decide) (show 4 * 2000000+2 * 4+10<=10000000 by decide)
theorem ZhF {s:Shp} (h:s.Dr):Al (bG (cm (aj 0) nA [.un,.pen,.d s.d,.d (.int (s.top+s.depth))]) (aH 0 s.n)) s.n λys=>∃ ls:yy,ys=ls.map PyData.int/\ls.length=s.n/\hW s ls:=by
 have t0:=h.t0;have d0:=h.d0;have hn:=h.ok.n_eq;rw [ZhY];have key:=Zp6 (h:=cm (aj 0) nA [.un,.pen,.d s.d,.d (.int (s.top+s.depth))]) (D:=λk:Nat=>PyData.int k) (F:=PyData.int) (Q:=λ(k:Nat) (v:Int)=>(k:Int) - s.depth<=v/\v<=s.top) (n:=1) (List.range s.n) λk hk=>by
  have hk':=vQ.mp hk;have td:=h.td;simp_arith only [nA,bJ];refine dP (n:=0) (by omega) (by omega) (by decide) λx x0 x1=>?_
  try simp_arith only [bJ]
  exact c7 ⟨_,rfl,by omega,by omega⟩
 rw [vq,Nat.one_mul] at key;refine mw key (uQ _) ?_;rintro _ ⟨ls,rfl,hl,hv⟩;exact ⟨ls,rfl,hl,λi hi=>hv i i ls[i] (u7 (by omega)) (vd hi)⟩
theorem Zau {x:Str} (hx:PyData.strOk x=true):aT dq (.list [.str x,.str x,.str x]) (.list [.str x,.str x,.str x])=.ret (.bool false):=by
 have h:SeqAt.shaped (.list [.str x,.str x,.str x])=true:=by
  unfold SeqAt.shaped;simp [PyData.canLay0,PyData.canLayAll0,PyData.depth,PyData.depthAll,hx]
 rw [Zd3 h h];simp [PyData.eqvAll,PyData.eqv]
theorem Zav (x:Str):aT bD (.list [.str x]) (.int 3)=.ret (.list [.str x,.str x,.str x]):=rfl
theorem ZjX {s:Shp} {one:yy} (c:Cs s one) {ls:yy} (hl:ls.length=s.n) (hv:hW s ls):∃ lv,RuOk s one lv/\bX s lv=ls:=by
 have n8:=c.n8;have el:bX s (λi=>(ls[i]?).getD 0)=ls:=by
  unfold bX;refine v7 λi=>?_;by_cases hi:i < s.n
  ·rw [uT,u7 hi];show some ((ls[i]?).getD 0)=ls[i]?;rw [vd (by omega)]
   rfl
  ·rw [vh (by rw [uO,vq]; omega),vh (by omega)]
 refine ⟨λi=>(ls[i]?).getD 0,⟨c.dr.ok,by omega,c.B,c.gr,c.ps,λi hi=>?_,λi hi=>?_⟩,el⟩
 ·rw [vd (by omega)]
  exact (hv i (by omega)).1
 ·rw [vd (by omega)]
  exact (hv i (by omega)).2
theorem turn (J2 J3 J4 J5 J6 J7 J8 J9 J10 J11:Sl):Al (sG [.un,.pen,J2,J3,J4,J5,J6,J7,J8,J9,J10,J11]) 110 λo=>∃ K3 K4 K5 K6 K7 K8 K9 K10 K11:Sl,o=.next [.un,.pen,J2,K3,K4,K5,K6,K7,K8,K9,K10,K11]:=by
 simp_arith only [sG,bJ];refine eO (n:=60) (n':=50) ZhC (by decide) ?_
 rintro _ ⟨s,one,far,rfl,h⟩;have hn:=h.dr.ok.n_eq;have t0:=h.dr.t0;have d0:=h.dr.d0;have td:=h.dr.td;have en:s.top+s.depth+1=(s.n:Int):=by omega
 have r1:gE [.int (s.n:Int)]=.ret (aH 0 s.n):=kF (ff (by omega) (by omega))
 have hs:small (aH 0 (s.n:Int)).length=true:=cu (by rw [cw]; omega)
 simp_arith only [bJ,en,r1,hs];refine eO (n:=s.n) (n':=10) (ZhF h.dr) (by omega) ?_
 rintro _ ⟨ls,rfl,hl,hv⟩;have eT:PyData.tuple (ls.map PyData.int)=tI ls:=rfl;have el:ce dt [tI ls]=.ret (.int (s.n:Int)):=by
  unfold tI;rw [Zd4,uO,hl]
 have er:=Zh4 s.n (by omega)
 have em:(ls.map PyData.int).length=s.n:=by rw [uO,hl]
 simp_arith only [bJ,eT,el,em,er];refine dP (n:=9) (by decide) (by decide) (by decide) λr r0 r1=>?_
 obtain ⟨x,ex,hx⟩:=pick (xs:=thgs s ls) r0 r1;have ex':bp [.none,.tuple [],.tuple [.tuple [.int 0,.int 1],.tuple ((List.replicate s.n ((0:Int),(1:Int))).map shr),tI ls],.int 7,.str "paper",.dict [],.list [tI ls]] r=some x:=ex;have rp:=ZlZ (ZhV h hl hv hx);have gr:=h.gr;by_cases hg:(far:Int) < s.top+s.depth
 ·have W1:=λJ0 J1 J2 J5 J6 J9 J10 J11=>(nU h.B h.ps (by rw [gr]; exact hg) (tI ls) x J0 J1 J2 J5 J6 J9 J10 J11).1
  have W2:=λJ0 J1 J2 J5 J6 J9 J10 J11=>(nU h.B h.ps (by rw [gr]; exact hg) (tI ls) x J0 J1 J2 J5 J6 J9 J10 J11).2.1
  have W3:=λJ0 J1 J2 J5 J6 J9 J10 J11=>(nU h.B h.ps (by rw [gr]; exact hg) (tI ls) x J0 J1 J2 J5 J6 J9 J10 J11).2.2.1
  have W4:=λJ0 J1 J2 J5 J6 J9 J10 J11=>(nU h.B h.ps (by rw [gr]; exact hg) (tI ls) x J0 J1 J2 J5 J6 J9 J10 J11).2.2.2
  have tn:=Zau (x:="no mean") (by trivial)
  have es:((Str.ofString "no mean" == Str.ofString "told"):Bool)=false:=by trivial
  simp_arith only [bJ,ex',rp,decide_eq_true hg,W1,W2,W3,W4,Zav,tn,ZaT,es,wc,if_true];exact c7 ⟨_,_,_,_,_,_,_,_,_,rfl⟩
 ·have c:=h.cs (by omega)
  have ng:¬ great one < s.top+s.depth:=by rw [gr]; exact hg
  obtain ⟨lv,L⟩:=c.lst;obtain ⟨lw,rw',ew⟩:=ZjX c hl hv;have e2:=Zn1 rw';rw [ew] at e2;obtain ⟨lm,e3⟩:=Zn4 c;obtain ⟨b,e4⟩:=Zj8 c hl hv hx;have W1:=λJ0 J1 J2 J5 J6 J9 J10 J11=>(m9 h.B h.ps ng L.e e2 e3 e4 J0 J1 J2 J5 J6 J9 J10 J11).1;have W2:=λJ0 J1 J2 J5 J6 J9 J10 J11=>(m9 h.B h.ps ng L.e e2 e3 e4 J0 J1 J2 J5 J6 J9 J10 J11).2.1;have W3:=λJ0 J1 J2 J5 J6 J9 J10 J11=>(m9 h.B h.ps ng L.e e2 e3 e4 J0 J1 J2 J5 J6 J9 J10 J11).2.2.1;have W4:=λJ0 J1 J2 J5 J6 J9 J10 J11=>(m9 h.B h.ps ng L.e e2 e3 e4 J0 J1 J2 J5 J6 J9 J10 J11).2.2.2;have tn:=Zau (x:="told") (by trivial)
  have ib:ge "bool" (eR (.bool b))=true:=rfl;simp_arith only [bJ,ex',rp,decide_eq_false hg,W1,W2,W3,W4,Zav,tn,ZaT,e4,ib,wc,we,if_false];exact c7 ⟨_,_,_,_,_,_,_,_,_,rfl⟩
theorem law_true:Al (ow sy) 2000 λo=>o=.ret (.d (.bool true)):=by
 have r3:gE [.int 10]=.ret (aH 0 10):=kF rfl;simp_arith only [ow,sy,bJ,r3];refine eO (n:=1100) (n':=0) (P:=λo=>∃ ρ,o=.next ρ) ?_ (by decide) ?_
 ·refine Zp8 (n:=110) (λρ=>∃ J2 J3 J4 J5 J6 J7 J8 J9 J10 J11:Sl,ρ=[.un,.pen,J2,J3,J4,J5,J6,J7,J8,J9,J10,J11]) ⟨_,_,_,_,_,_,_,_,_,_,rfl⟩ (by rw [cw]; decide) ?_ (λρ _=>⟨ρ,rfl⟩)
  rintro x ρ hx ⟨J2,J3,J4,J5,J6,J7,J8,J9,J10,J11,rfl⟩;refine ⟨_,rfl,mw (turn (.d x) J3 J4 J5 J6 J7 J8 J9 J10 J11) (uQ _) ?_⟩;rintro _ ⟨K3,K4,K5,K6,K7,K8,K9,K10,K11,rfl⟩;exact ⟨_,rfl,_,_,_,_,_,_,_,_,_,_,rfl⟩
 ·rintro _ ⟨ρ,rfl⟩;simp_arith only [bJ];exact c7 rfl
end My
open PySem.W L2
theorem My.g_mk {K:ym} {mg:yC} {h:Heap} (X:K.In h) (G:h.Ns mainGlobals mg) {n:Str} {v:Int} {t:Tok} (z:PySem.W.nsIn K mainGlobals n=some (some (.int v t))):∃ t,mg n=some (.int v t):=⟨_,vU X G z⟩
set_option maxRecDepth 100000 in
set_option maxHeartbeats 0 in
theorem PySem.Challenge.cw_twomarks_k38_no_mean_holds : PySem.Challenge.rw_twomarks_k38_no_mean.Holds := by
 refine My.hd ?_
 k_fill
 refine L2.Zf1 (l:=PySem.Challenge.rw_twomarks_k38_no_mean) (k:=10) (x:="_law_script") rfl rfl ⟨rfl,by decide,by decide,rfl⟩ ?F
 case F =>
  intro w mg fa h KX G hmg;refine' L2.Zkj (st:=My.eG) (Tx:=λK=>My.Txt K mg) KX G hmg ?a ?l ?c ?e ?v ?m ?p ?hb ?T ?U
  (case a=>k_is); (case l=>k_is); (case c=>k_is); (case e=>k_is); (case v=>exact ⟨_,_,_,_,_,_,_,rfl,rfl,rfl,rfl,rfl⟩); (case m=>rfl); (case p=>kernel_rfl!)
  (case hb=>exact λ_ _ _ _ _ _ s u=>.of_eq rfl)
  (case U=>exact λbase fd LK BK T=>My.Zjk T LK BK (L2.Tr.ok_mono (L2.Tr.all_ok My.law_true.out (by decide)) λ_ _ h=>h.2))
  case T =>
   show My.Txt _ mg;constructor
   all_goals first
    | (refine PySem.W.mg_none_of KX G ?_; k_is)
    | (refine' My.g_mk KX G ?z; (case z=>k_is))
    | (refine' L2.Zon KX G ?a ?l ?c ?k ?b; (case a=>k_is); (case l=>k_is); (case c=>k_is); (case k=>k_is); (case b=>intro _ _ _ _ _ _ us hl; first | (obtain ⟨_,rfl⟩:=L2.Zdo hl; rfl) | (obtain ⟨_,_,rfl⟩:=L2.Zdn hl; rfl) | (obtain ⟨_,_,_,rfl⟩:=L2.Zdm hl; rfl) | (obtain ⟨_,_,_,_,rfl⟩:=L2.Zdl hl; rfl) | (obtain ⟨_,_,_,_,_,rfl⟩:=L2.Zke hl; rfl)))
    | (refine' My.ZnS KX G ?c ?d ?z0 ?z1 ?z2 ?z3 ?z4 ?z5 ?z6 ?q ?q2 ?u ?v ?y; (case c=>k_is); (case d=>k_is); (case z0=>k_is); (case z1=>k_is); (case z2=>k_is); (case z3=>k_is); (case z4=>k_is); (case z5=>k_is); (case z6=>k_is); (case q=>kernel_rfl!); (case q2=>kernel_rfl!); (case u=>kernel_rfl!); (case v=>kit_is); (case y=>kit_is))
