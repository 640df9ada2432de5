import PyProof.Rows.All
import Wide.All
import OpenK.AllK
import Wide.FinOn
import Lean
import PyProof.EqAt
import PyProof.EqKinds
import PyProof.TupleCall
import PySem.Challenge.RW_twomarks_k41_marks_for_ever
set_option Elab.async false
set_option linter.all false
set_option maxRecDepth 100000
set_option maxHeartbeats 0
noncomputable abbrev My.vw : PySem.Program := PySem.W.view
 PySem.Challenge.rw_twomarks_k41_marks_for_ever.row.prog [1, 2, 3, 5, 6, 8, 9, 10, 11, 12, 13, 14, 15, 16, 17, 18, 19, 20, 22, 23, 24, 25, 27, 28, 29, 31, 32, 33, 35, 36, 38, 39, 40, 41, 42, 43, 44, 45, 47, 49, 50, 51, 52, 54, 55, 56, 57, 58, 59, 60, 61, 62, 63, 64, 65, 66, 67, 68]
local macro_rules
 | `(tactic| o_head $H:term) => `(tactic| (
  refine PySem.W.holds_open (q := My.vw) (loose := [])
   (Xt := λs => PySem.W.xlAt My.vw [] s && PySem.W.recOk
    (PySem.W.RowW.records PySem.Challenge.rw_twomarks_k41_marks_for_ever.row.toRowW) s)
   (XP := PySem.W.XL My.vw []) (Yf := ($H).obs)
   (Ya := ($H).val) (YP := ($H).says) (N := 20000) ?hl
   ($H).of ($H).keeps (λs e => PySem.W.xl_of s
    (Bool.and_eq_true_iff.mp e).1) PySem.W.XL.keeps
   (by rfl) (by rfl) (by rfl)
   (λs e => PySem.W.recFacts_of
    (Bool.and_eq_true_iff.mp e).2)
   (by rfl) (by assumption) (by decide +kernel)
   ⟨rfl, rfl, rfl, rfl, rfl, by decide +kernel⟩ ?hw ?hc
  (case hl => intro w; kernel_rfl)))
open_top My.hd for PySem.Challenge.rw_twomarks_k41_marks_for_ever
set_option maxHeartbeats 4000000
open PySem PySem.Spec PyProof.Rows
def v6:=@PySem.Heap.get?_push_of_some
def v7:=@List.length_map
def v8:=@List.mem_cons_of_mem
def v9:=@List.getElem?_map
def wa:=@Nat.le_refl
def wc:=@PySem.Heap.get?_push_size
def we:=@List.getElem?_eq_some_iff
def wf:=@List.map_cons
def wj:=@List.size_toArray
def wk:=@Nat.lt_of_lt_of_le
def wl:=@List.length_cons
def wm:=@List.getElem?_range
def wn:=@Bool.false_ne_true
def wo:=@List.mem_append_right
def wp:=@List.getElem?_eq_getElem
def wq:=@PySem.Heap.lt_size
def wt:=@List.mem_cons
def wu:=@List.map_map
def wv:=@List.getElem?_set_ne
def ww:=@Nat.le_trans
def wx:=@List.length_append
def wy:=@Int.le_of_lt
def wz:=@Nat.ne_of_lt
def wA:=@List.getElem?_eq_none
def wC:=@List.getElem?_set_self
def wD:=@Bool.and_eq_true
def wE:=@PySem.PassesOwn.never
def wF:=@List.replicate_succ
def wG:=@Int.le_refl
def wH:=@Nat.lt_irrefl
def wI:=@List.length_range
def wJ:=@Option.some.inj
def wK:=@Bool.not_true
def wL:=@List.mem_map
def wM:=@List.getElem?_append_right
def wN:=@List.getElem?_replicate
def wO:=@List.lookup_cons
def wP:=@Int.mul_le_mul_of_nonneg_left
def wQ:=@List.mem_range
def wR:=@List.map_congr_left
def wS:=@List.getElem?_append_left
def wT:=@List.map_append
def wU:=@Int.toNat_natCast
def wV:=@Int.mul_pos
def wW:=@Int.mul_nonneg
def wX:=@PySem.Heap.size_push
def wY:=@List.length_set
def wZ:=@List.append_nil
def w6:=@List.flatten_cons
def w8:=@List.mem_cons_self
def xa:=@PySem.Heap.get?_update_other
def xb:=@Nat.ne_of_gt
def xc:=@Int.mul_add
def xf:=@Int.eq_of_mul_eq_mul_right
def xg:=@PySem.W.kia_one
def xh:=@Bool.not_false
def xi:=@Int.ne_of_gt
def xj:=@PySem.F.plainAttrs_list
def xk:=@PyProof.Rows.callWith_type1
def xl:=@PySem.PyData.tuple.injEq
def xm:=@PySem.mem_of_lookup
def xn:=@List.drop_eq_getElem_cons
def xo:=@List.length_nil
def xp:=@PySem.F.type_list_append
def xq:=@PySem.F.slot_list_append
def xr:=@Nat.pos_of_ne_zero
def xt:=@Bool.false_eq_true
def xu:=@List.sum_cons
def xv:=@List.map_nil
def xw:=@List.ext_getElem?
def xx:=@List.append_assoc
def xz:=@Nat.zero_le
def xA:=@PySem.Around.under_plainId
def xB:=@Int.fdiv_eq_ediv_of_nonneg
def xC:=@List.not_mem_nil
def xD:=@PySem.F.slot_int_rmul
def xE:=@Nat.lt_of_le_of_lt
def xF:=@Int.emod_lt_of_pos
def xG:=@Int.natAbs_mul
def xH:=@Int.eq_of_mul_eq_mul_left
def xI:=@List.mem_of_getElem?
def xJ:=@PyProof.Rows.slot_tuple_getitem
def xK:=@List.nil_append
def xL:=@List.find?_cons
def xM:=@PySem.Heap.get?_update_self
def xN:=@Int.mul_zero
def xO:=@Int.mul_comm
def xP:=@List.length_take
def xQ:=@List.getElem_mem
def xR:=@Bool.false_and
def xS:=@List.range_succ
def xT:=@List.mem_append
def xU:=@List.length_replicate
def xV:=@List.cons.injEq
def xW:=@Int.le_of_eq
def xX:=@Int.emod_nonneg
def xY:=@PySem.F.plain_min_loop
def xZ:=@Nat.lt_succ_of_lt
def x0:=@PySem.Obj.data_mapFields
def x6:=@Int.mul_lt_mul_of_pos_left
def x8:=@List.mem_append_left
def x9:=@List.length_drop
def ya:=@List.length_reverse
def yb:=@Nat.succ_mul
def yc:=@PySem.F.slot_tuple_iterator_next
def ye:=@List.length_zip
def yf:=@Bool.true_and
def yg:=@PySem.Heap.SameBut.update
def yh:=@PySem.PyData.hasDict_of_canLay
def yi:=@List.isEmpty_cons
def yj:=@Bool.not_eq_true'
def yk:=@Int.mul_le_mul
def yl:=@Nat.le_of_lt
def yn:=@Int.mul_le_mul_of_nonneg_right
def yo:=@Int.add_zero
def yp:=@Nat.lt_succ_self
def yq:=@Nat.le_of_not_lt
def yr:=@List.all_eq_true
def yt:=@PySem.SeqAt.canLay_of_shaped
def yu:=@List.length_pos_iff
def yv:=@Bool.eq_iff_iff
def yw:=@Nat.lt_or_eq_of_le
def yx:=@Nat.add_comm
def yy:=@Int.lt_of_mul_lt_mul_left
def yz:=@Int.le_of_mul_le_mul_left
def yA:=@Classical.byContradiction
def yB:=@PySem.F.args_tuple_mul_2
def yC:=@PySem.F.args_tuple_add_2
def yD:=@Nat.le_of_succ_le
def yE:=@List.reverse_cons
def yF:=@Int.mul_ediv_cancel_left
def yG:=@PySem.F.entry_tuple_mul
def yH:=@PySem.F.entry_tuple_add
def yI:=@PySem.F.args_int_rmul_2
def yJ:=@List.getElem?_cons_succ
def yK:=@Int.mul_one
def yL:=@Int.eq_ofNat_of_zero_le
def yM:=@Option.getD_some
def yN:=@List.drop_length
def yO:=@List.cons_append
def yP:=@PySem.F.slot_tuple_mul
def yQ:=@PySem.F.slot_tuple_add
def yR:=@PySem.F.entry_int_rmul
def yS:=@Option.map_eq_some_iff
def yT:=@PySem.F.fills_int_mul
def yU:=@Nat.min_eq_left
def yV:=@Nat.gcd_comm
def yW:=@List.nodup_cons
def yX:=@List.mem_filter
def yY:=@List.length_singleton
def yZ:=@List.getElem?_reverse
def y4:=@List.forIn_cons
def y6:=@Nat.pow_le_pow_right
def y8:=@Nat.mul_le_mul_right
def y9:=@List.getElem_of_mem
def za:=@List.filterMap_cons
def zb:=@Function.comp_apply
def zc:=@Array.length_toList
def zd:=@PySem.Obj.isFreed_of_fields
def ze:=@List.zip_cons_cons
def zf:=@List.all_cons
def zg:=@Int.dvd_trans
def zh:=@PySem.F.slot_zip_next
def zi:=@Bool.and_true
def zj:=@PySem.W.kitx_dict
def zl:=@Nat.Coprime.dvd_of_dvd_mul_left
def zm:=@PySem.F.args_object_init_2
def zn:=@Nat.mul_succ
def zo:=@Int.le_trans
def zp:=@Nat.min_le_right
def zq:=@List.take_length
def zr:=@List.mem_reverse
def zt:=@PySem.Paired.length
def zu:=@List.of_mem_zip
def zw:=@List.foldl_cons
def zx:=@Int.one_mul
def zy:=@Int.mul_eq_zero
def zE:=@Int.le_antisymm
def zF:=@Int.ediv_nonneg
def zG:=@Int.fmod_eq_emod_of_nonneg
def zI:=@Array.getElem?_eq_some_iff
def zJ:=@Nat.mul_le_mul
def zK:=@List.mem_of_find?_eq_some
def zL:=@List.getElem?_zip_eq_some
def zM:=@List.getElem?_eq_none_iff
def zN:=@List.forIn_nil
def zO:=@Bool.and_false
def zP:=@Nat.gcd_pos_of_pos_right
def zQ:=@List.getElem?_take_of_lt
def zR:=@Lean.Omega.Int.ofNat_min
def zS:=@Int.not_le
def zT:=@Int.mul_fdiv_cancel_left
def zU:=@PySem.PyData.int.injEq
def zV:=@List.filter_cons_of_pos
def zW:=@List.any_cons
def zX:=@Int.mul_assoc
def zY:=@PySem.F.entry_min_loop
abbrev zZ:=PySem.W.Frag
abbrev Ag:=PyData->PyData->Option PyData
abbrev Ah:=Value->Shared->Prop
abbrev Ai:=List PyData
abbrev Aj:=List Int
abbrev Ak:=List Value
abbrev Am:=List Str
abbrev Ao:=Str->Option Value
local macro_rules | `(tactic| trivial) => `(tactic| first | decide +kernel | exact ⟨rfl,rfl,rfl,by decide +kernel,rfl,by decide +kernel,by decide +kernel⟩ | exact ⟨rfl,by decide +kernel,by decide +kernel,by decide +kernel,by decide +kernel⟩ | fail "x")
namespace L2
noncomputable abbrev aO:=Sum Int Str
noncomputable def kW:aO->Value->Bool
 | .inl k,v=>Value.isInt k v
 | .inr x,v=>Value.isStrOf x v
noncomputable def Znn (w:World):aO->Int
 | .inl k=>hashInt k
 | .inr x=>hashStr w x
theorem hZ:∀ {k:aO} {v:Value},kW k v=true->(∃ i t,k=Sum.inl i/\v=Value.int i t)\/(∃ x t,k=Sum.inr x/\v=Value.str x t)
 | .inl i,v,h=>by
  obtain ⟨t,e⟩:=Value.isInt_shape (k:=i) (v:=v) h
  exact .inl ⟨i,t,rfl,e⟩
 | .inr x,v,h=>by
  obtain ⟨t,e⟩:=Value.isStrOf_shape (x:=x) (v:=v) h
  exact .inr ⟨x,t,rfl,e⟩
theorem Znm (i:Int) (t:Tok):kW (.inl i) (.int i t)=true:=by simp [kW,Value.isInt]
theorem Znl (x:Str) (t:Tok):kW (.inr x) (.str x t)=true:=by simp [kW,Value.isStrOf]
theorem Znk (a b:Int):decide ((Sum.inl a:aO)=Sum.inl b)=(a == b):=by
 by_cases e:a=b
 ·subst e; simp
 ·have h:¬ (Sum.inl a:aO)=Sum.inl b:=λq=>e (Sum.inl.inj q)
  rw [decide_eq_false h]
  exact (beq_eq_false_iff_ne.mpr e).symm
theorem Znh (a b:Str):decide ((Sum.inr a:aO)=Sum.inr b)=decide (a=b):=by
 by_cases e:a=b
 ·subst e; simp
 ·have h:¬ (Sum.inr a:aO)=Sum.inr b:=λq=>e (Sum.inr.inj q)
  rw [decide_eq_false h,decide_eq_false e]
theorem Znj (a:Int) (b:Str):decide ((Sum.inl a:aO)=Sum.inr b)=false:=decide_eq_false (λq=>nomatch q)
theorem Zni (a:Str) (b:Int):decide ((Sum.inr a:aO)=Sum.inl b)=false:=decide_eq_false (λq=>nomatch q)
noncomputable def dQ (prog:Program) (w:World):PySem.KeyKind prog w aO where
 is:=kW
 hash:=Znn w
 inj:=λv a b ha hb=>by
  rcases hZ ha with ⟨i,t,rfl,rfl⟩ | ⟨x,t,rfl,rfl⟩
  ·rcases hZ hb with ⟨j,u,rfl,e⟩ | ⟨y,u,rfl,e⟩
   ·injection e with e1 _; rw [e1]
   ·exact nomatch e
  ·rcases hZ hb with ⟨j,u,rfl,e⟩ | ⟨y,u,rfl,e⟩
   ·exact nomatch e
   ·injection e with e1 _; rw [e1]
 byValue:=λk v h=>by
  rcases hZ h with ⟨i,t,rfl,rfl⟩ | ⟨x,t,rfl,rfl⟩ <;> rfl
 pyHash:=λhv h=>by
  rcases hZ hv with ⟨i,t,rfl,rfl⟩ | ⟨x,t,rfl,rfl⟩
  ·exact wpAny_pyHash_int h
  ·exact wpAny_pyHash_str h
 eqBool:=λhu hv h=>by
  rcases hZ hu with ⟨i,t,rfl,rfl⟩ | ⟨x,t,rfl,rfl⟩
  ·rcases hZ hv with ⟨j,u,rfl,rfl⟩ | ⟨y,u,rfl,rfl⟩
   ·rw [Znk] at h; exact wpAny_eqBool_int h
   ·rw [Znj] at h; exact SeqAt.EqAt.int_str i t y u _ _ _ _ h
  ·rcases hZ hv with ⟨j,u,rfl,rfl⟩ | ⟨y,u,rfl,rfl⟩
   ·rw [Zni] at h; exact SeqAt.EqAt.str_int x t j u _ _ _ _ h
   ·rw [Znh] at h; exact wpAny_eqBool_str h
 «strs»:=λk x t v h=>by
  rcases hZ h with ⟨i,u,rfl,e⟩ | ⟨y,u,rfl,e⟩
  ·exact nomatch e
  ·injection e with e1 _
   subst e1
   cases v <;> rfl
theorem ZmH (prog:Program) (w:World) (i:Int) (t:Tok):(dQ prog w).is (.inl i) (.int i t)=true:=Znm i t
theorem ZmG (prog:Program) (w:World) (x:Str) (t:Tok):(dQ prog w).is (.inr x) (.str x t)=true:=Znl x t
inductive V where
 | non | bl (b:Bool) | int (i:Int) | str (x:Str) | byt (b:Array UInt8) | flt (b:UInt64) | ref (a:Addr) | ty (n:String)
 deriving DecidableEq
abbrev An:=List V
noncomputable def RelV:V->Value->Prop
 | .non,u=>u=Value.none
 | .bl b,u=>u=Value.bool b
 | .int i,u=>∃ t,u=Value.int i t
 | .str x,u=>∃ t,u=Value.str x t
 | .byt b,u=>∃ t,u=Value.bytes b t
 | .flt b,u=>∃ t,u=Value.float b t
 | .ref a,u=>u=Value.ref a
 | .ty n,u=>u=Value.type n
noncomputable abbrev Vals:List V->List Value->Prop:=Paired RelV
theorem Vals.length {xs:An} {us:Ak} (r:Vals xs us):xs.length=us.length:=zt r
theorem Vals.get {xs:An} {us:Ak} {i:Nat} {x:V} (h:Vals xs us) (e:xs[i]?=some x):∃ u,us[i]?=some u/\RelV x u:=by
 induction h generalizing i with
 | nil=>cases e
 | cons r t ih=>cases i with | zero=>cases e; exact ⟨_,rfl,r⟩ | succ i=>exact ih (i:=i) e
theorem Vals.set {x:V} {u:Value} (r:RelV x u) {xs:An} {us:Ak} (i:Nat) (h:Vals xs us):Vals (xs.set i x) (us.set i u):=by
 induction h generalizing i with
 | nil=>exact .nil
 | cons q t ih=>cases i with | zero=>exact .cons r t | succ i=>exact .cons q (ih i)
theorem Vals.append {xs ys:An} {us ws:Ak} (h:Vals xs us) (s:Vals ys ws):Vals (xs++ys) (us++ws):=by
 induction h with
 | nil=>exact s
 | cons r t ih=>exact .cons r ih
theorem Vals.take {xs:An} {us:Ak} (n:Nat) (h:Vals xs us):Vals (xs.take n) (us.take n):=by
 induction h generalizing n with
 | nil=>rw [List.take_nil,List.take_nil]; exact .nil
 | cons r t ih=>cases n with | zero=>exact .nil | succ n=>exact .cons r (ih n)
theorem Vals.drop {xs:An} {us:Ak} (n:Nat) (h:Vals xs us):Vals (xs.drop n) (us.drop n):=by
 induction h generalizing n with
 | nil=>rw [List.drop_nil,List.drop_nil]; exact .nil
 | cons r t ih=>cases n with | zero=>exact .cons r t | succ n=>exact ih n
theorem Vals.none_of:∀ {xs:An} {us:Ak} {i:Nat},Vals xs us->xs[i]?=none->us[i]?=none:=λ{xs us i} r e=>by
 have h1:=r.length
 have h2:xs.length<=i:=zM.mp e
 exact zM.mpr (by omega)
noncomputable def RelO:Option V->Option Value->Prop
 | some v,some u=>RelV v u
 | none,none=>True
 | _,_=>False
noncomputable def KV {κ:Type}:List (κ×V)->List (κ×Value)->Prop:=Paired λ(p:κ×V) (q:κ×Value)=>p.1=q.1/\RelV p.2 q.2
noncomputable def kV:aO->V
 | .inl i=>.int i
 | .inr x=>.str x
inductive HO where
 /-- a list -/
 | lst (xs:An)
 /-- a tuple (never changes) -/
 | tup (xs:An)
 /-- a dict whose keys are ints and texts; one whose keys are tuples of ints and texts (the empty one is both) -/
 | dK (kvs:List (aO×V)) | dT (kvs:List (List aO×V))
 /-- a set of ints: its members,its size -/
 | set (S:Int->Bool) (n:Nat)
 /-- an instance of the class at C,its dict at dx,its attributes -/
 | ins (C dx:Addr) (fs:List (Str×V))
 /-- the dict of the instance at x -/
 | own (x:Addr)
 /-- the dict of an exception -/
 | xd (fs:List (Str×V))
 /-- a bound method,f of x -/
 | met (f x:Addr)
 /-- a range object lo,lo+1,.. below hi -/
 | rng (lo hi:Int)
 /-- a thing that is known to the object (the script; a dict while a loop walks it): read,never written while it is so -/
 | frz (o:Obj) (u:HO)
 /-- a code object's table -/
 | tbl (ps:Array Value)
 /-- any other thing,by what is true of its one object (a def of one's own: SetO a S n:=HO.ext λh=>..) -/
 | ext (φ:Heap->Prop)
noncomputable abbrev Hp:=Addr->Option HO
noncomputable def upd (H:Hp) (a:Addr) (o:HO):Hp:=λb=>if b=a then some o else H b
theorem cA {H:Hp} {a:Addr} {o:HO}:upd H a o a=some o:=by unfold upd; rw [if_pos rfl]
theorem bc {H:Hp} {a b:Addr} {o:HO} (h:b≠a):upd H a o b=H b:=by unfold upd; rw [if_neg h]
theorem mr {H:Hp} {a b:Addr} {o u:HO} (h:H a=some o) (h':H b=some u) (d:o≠u):a≠b:=by
 intro e; subst e; rw [h] at h'; exact d (wJ h')
theorem de {H:Hp} {a b:Addr} {o:HO} (h:H a=some o) (h':H b=none):a≠b:=by
 intro e; subst e; rw [h] at h'; cases h'
section
variable (P:Program) (w:World)
noncomputable def ObjOk (H:Hp) (h:Heap) (a:Addr):HO->Prop
 | .lst xs=>xs.length<=sizeLine/\∃ (its:Ak) (n:Nat),Vals xs its/\h.get? a=some { cls:=.type "list",data:=.seq its.toArray n }
 | .tup xs=>xs.length<=sizeLine/\∃ its:Ak,Vals xs its/\IsTup h a its.toArray
 | .dK kvs=>kvs.length<=sizeLine/\(a == sysModules)=false/\∃ vs,KV kvs vs/\h.DictOf (dQ P w) a vs
 | .dT kvs=>kvs.length<=sizeLine/\(a == sysModules)=false/\∃ xs:List (List aO×Addr×Value),
   Paired (λ(p:List aO×V) (q:List aO×Addr×Value)=>p.1=q.1/\H q.2.1=some (.tup (p.1.map kV))/\RelV p.2 q.2.2) kvs xs /\
   ∃ o es ep,h.get? a=some o/\o.ExactDict/\o.data=.dict es ep/\es.toList=xs.map (entryOfKey (tupleKind (dQ P w)))/\(xs.map (·.1)).Nodup
 | .set S n=>h.SetOf (intKind P w) a S n
 | .ins C dx fs=>H dx=some (.own a)/\fs.length<=1000/\dx≠a/\h.get? a=some (PySem.W.instObj C dx) /\
   ∃ mA,h.Ns1 dx mA/\(∀ f,RelO (fs.lookup f) (mA f))/\PySem.Within mA (fs.map (·.1))
 | .own _=>∃ o,h.get? a=some o
 | .xd fs=>∃ mA,h.Ns1 a mA/\∀ f,RelO (fs.lookup f) (mA f)
 | .rng lo hi=>∃ t u v,h.get? a=some { cls:=.type "range",data:=.fields #[.int lo t,.int hi u,.int 1 v] }
 | .frz o u=>h.get? a=some o/\ObjOk H h a u
 | .tbl ps=>h.get? a=some { cls:=.none,data:=.fields ps }
 | .met f x=>h.get? a=some (PySem.W.methodObj (.ref f) (.ref x))
 | .ext φ=>φ h/\(∃ o,h.get? a=some o)/\∀ h1 h2:Heap,φ h1->(∀ o,h1.get? a=some o->h2.get? a=some o)->φ h2
def HOk (H:Hp) (h:Heap):Prop:=∀ a o,H a=some o->ObjOk P w H h a o
end
section
variable {P:Program} {w:World} {H H':Hp} {h h':Heap} {a:Addr} {o:HO}
theorem ObjOk.lt (x:ObjOk P w H h a o):a < h.objs.size:=by
 cases o with
 | lst xs=>obtain ⟨_,_,_,_,e⟩:=x; exact wq e
 | tup xs=>obtain ⟨_,_,_,p⟩:=x; exact p.lt
 | dK kvs=>obtain ⟨_,_,_,_,o,_,_,e,_⟩:=x; exact wq e
 | dT kvs=>obtain ⟨_,_,_,_,o,_,_,e,_⟩:=x; exact wq e
 | set S n=>obtain ⟨o,_,_,_,e,_⟩:=x; exact wq e
 | ins C dx fs=>obtain ⟨_,_,_,e,_⟩:=x; exact wq e
 | own y=>obtain ⟨_,e⟩:=x; exact wq e
 | xd fs=>obtain ⟨_,⟨_,_,_,e,_⟩,_⟩:=x; exact wq e
 | rng lo hi=>obtain ⟨_,_,_,e⟩:=x; exact wq e
 | frz ob u=>obtain ⟨e,_⟩:=x; exact wq e
 | tbl ps=>exact wq (show h.get? a=some _ from x)
 | met f y=>exact wq (show h.get? a=some _ from x)
 | ext φ=>obtain ⟨_,⟨_,e⟩,_⟩:=x; exact wq e
theorem Paired.mapP {α β:Type} {F G:α->β->Prop} {l₁:List α} {l₂:List β} (h:Paired F l₁ l₂) (f:∀ a b,F a b->G a b):Paired G l₁ l₂:=by
 induction h with
 | nil=>exact .nil
 | cons r t ih=>exact .cons (f _ _ r) ih
theorem ObjOk.stay (x:ObjOk P w H h a o) (k:∀ b u,(b=a\/H b=some (.own a))->h.get? b=some u->h'.get? b=some u)
  (ho:∀ b,H b=some (.own a)->H' b=some (.own a)) (ht:∀ b xs,H b=some (.tup xs)->H' b=some (.tup xs)):ObjOk P w H' h' a o:=by
 induction o with
 | lst xs=>obtain ⟨z,its,n,r,e⟩:=x; exact ⟨z,its,n,r,k _ _ (.inl rfl) e⟩
 | tup xs=>obtain ⟨z,its,r,ob,e,c⟩:=x; exact ⟨z,its,r,ob,k _ _ (.inl rfl) e,c⟩
 | dK kvs=>obtain ⟨z,y,vs,r,ob,es,ep,e,c⟩:=x; exact ⟨z,y,vs,r,ob,es,ep,k _ _ (.inl rfl) e,c⟩
 | dT kvs =>
  obtain ⟨z,y,xs,r,ob,es,ep,e,c⟩:=x
  exact ⟨z,y,xs,Paired.mapP r λp q z=>⟨z.1,ht _ _ z.2.1,z.2.2⟩,ob,es,ep,k _ _ (.inl rfl) e,c⟩
 | set S n=>obtain ⟨ob,es,ep,t,e,c⟩:=x; exact ⟨ob,es,ep,t,k _ _ (.inl rfl) e,c⟩
 | ins C dx fs =>
  obtain ⟨d,z,ne,e,mA,⟨od,es,ep,e2,c⟩,r⟩:=x
  exact ⟨ho _ d,z,ne,k _ _ (.inl rfl) e,mA,⟨od,es,ep,k _ _ (.inr d) e2,c⟩,r⟩
 | own y=>obtain ⟨ob,e⟩:=x; exact ⟨ob,k _ _ (.inl rfl) e⟩
 | xd fs=>obtain ⟨mA,⟨od,es,ep,e,c⟩,r⟩:=x; exact ⟨mA,⟨od,es,ep,k _ _ (.inl rfl) e,c⟩,r⟩
 | rng lo hi=>obtain ⟨t,u,v,e⟩:=x; exact ⟨t,u,v,k _ _ (.inl rfl) e⟩
 | frz ob u ih=>obtain ⟨e,q⟩:=x; exact ⟨k _ _ (.inl rfl) e,ih q⟩
 | tbl ps =>
  have e:h.get? a=some { cls:=.none,data:=.fields ps }:=x
  show h'.get? a=some { cls:=.none,data:=.fields ps }
  exact k a _ (.inl rfl) e
 | met f y =>
  have e:h.get? a=some (PySem.W.methodObj (.ref f) (.ref y)):=x
  show h'.get? a=some (PySem.W.methodObj (.ref f) (.ref y))
  exact k a _ (.inl rfl) e
 | ext φ=>obtain ⟨p,⟨o,e⟩,st⟩:=x; exact ⟨st _ _ p λo q=>k _ _ (.inl rfl) q,⟨o,k _ _ (.inl rfl) e⟩,st⟩
theorem HOk.lt (x:HOk P w H h) (e:H a=some o):a < h.objs.size:=(x a o e).lt
theorem HOk.fresh (x:HOk P w H h) (e:h.objs.size<=a):H a=none:=by
 cases q:H a with
 | none=>rfl
 | some u=>exact absurd (wk (x.lt q) e) (wH _)
theorem HOk.kept (x:HOk P w H h) (k:∀ b u,h.get? b=some u->h'.get? b=some u):HOk P w H h':=λa o e =>
 (x a o e).stay (λb u _ q=>k b u q) (λ_ q=>q) λ_ _ q=>q
theorem HOk.laid (x:HOk P w H h) (k:∀ b u,h.get? b=some u->h'.get? b=some u) (hp:h.objs.size<=a) (new:ObjOk P w (upd H a o) h' a o):HOk P w (upd H a o) h':=λb u e=>by
 have hn:=x.fresh hp
 by_cases hb:b=a
 ·subst hb; rw [cA] at e; cases e; exact new
 ·rw [bc hb] at e
  exact (x b u e).stay (λc v _ q=>k c v q) (λc q=>by rw [bc (de q hn)]; exact q) λc xs q=>by rw [bc (de q hn)]; exact q
end
def Rd (H:Hp) (a:Addr) (u:HO):Prop:=H a=some u\/∃ o,H a=some (.frz o u)
theorem Rd.ok {P:Program} {w:World} {H:Hp} {h:Heap} {a:Addr} {u:HO} (r:Rd H a u) (x:HOk P w H h):ObjOk P w H h a u:=by
 rcases r with r | ⟨o,r⟩
 ·exact x a u r
 ·obtain ⟨_,q⟩:=x a _ r
  exact q
noncomputable def nH:Option HO->Prop
 | some (.lst _)=>True
 | some (.dK _)=>True
 | some (.dT _)=>True
 | some (.set _ _)=>True
 | some (.ins _ _ _)=>True
 | some (.ext _)=>True
 | _=>False
section
variable {P:Program} {w:World} {H:Hp} {h h':Heap} {x e:Addr} {o':HO}
theorem HOk.write (ok:HOk P w H h) (mu:nH (H x)) (he:e=x\/H e=some (.own x)) (k:∀ b u,b≠e->h.get? b=some u->h'.get? b=some u) (heo:∃ u,h'.get? e=some u)
  (new:ObjOk P w (upd H x o') h' x o'):HOk P w (upd H x o') h':=λb u q=>by
 have nown:∀ c y,H c=some (.own y)->c≠x:=λc y r z=>by subst z; rw [r] at mu; exact mu
 have ntup:∀ c xs,H c=some (.tup xs)->c≠x:=λc xs r z=>by subst z; rw [r] at mu; exact mu
 by_cases hb:b=x
 ·subst hb; rw [cA] at q; cases q; exact new
 ·rw [bc hb] at q
  by_cases hbe:b=e
  ·have q':H b=some (.own x):=by
    rcases he with z | z
    ·exact absurd (hbe.trans z) hb
    ·rw [hbe]; exact z
   rw [q] at q'; cases q'
   obtain ⟨v,hv⟩:=heo
   exact ⟨v,by rw [hbe]; exact hv⟩
  ·refine (ok b u q).stay (λc v hc r=>k c v ?_ r) (λc r=>by rw [bc (nown c b r)]; exact r) λc xs r=>by rw [bc (ntup c xs r)]; exact r
   rcases hc with rfl | hc
   ·exact hbe
   ·rintro rfl
    rcases he with z | z
    ·exact nown c b hc z
    ·rw [hc] at z; cases z; exact hb rfl
end
structure Un (fs ex:List Addr) (H H':Hp) (h h':Heap):Prop where
 keep:∀ b o,h.get? b=some o->H b=none->b ∉ fs->b ∉ ex->h'.get? b=some o
 slot:∀ b o,h.get? b=some o->H b=none->b∈fs->b ∉ ex->∃ sl,h'.get? b=some { o with slots:=sl }
 free:∀ b o,h.get? b=some o->H b=none->b ∉ ex->H' b=none
 there:∀ b o,h.get? b=some o->b ∉ ex->∃ o',h'.get? b=some o'
 tups:∀ b xs,H b=some (.tup xs)->H' b=some (.tup xs)
 frzs:∀ b o u,H b=some (.frz o u)->H' b=some (.frz o u)
 tbls:∀ b ps,H b=some (.tbl ps)->∃ more,H' b=some (.tbl (ps++more))
section
variable {fs fs' ex ex':List Addr} {H H1 H2:Hp} {h h1 h2 h':Heap} {a x e:Addr} {o:HO}
theorem Un.any (u:Un fs ex H H1 h h1) {b:Addr} {ob:Obj} (q:h.get? b=some ob) (n:H b=none) (hx:b ∉ ex):∃ sl,h1.get? b=some { ob with slots:=sl }:=by
 by_cases hb:b∈fs
 ·exact u.slot b ob q n hb hx
 ·exact ⟨ob.slots,u.keep b ob q n hb hx⟩
theorem Un.kept (k:∀ b u,h.get? b=some u->h'.get? b=some u):Un fs ex H H h h' :=
 ⟨λb ob q _ _ _=>k b ob q,λb ob q _ _ _=>⟨ob.slots,k b ob q⟩,λ_ _ _ n _=>n,λb ob q _=>⟨ob,k b ob q⟩,λ_ _ q=>q,λ_ _ _ q=>q,λ_ ps q=>⟨#[],by rw [q]; simp⟩⟩
theorem Un.refl:Un fs ex H H h h:=Un.kept λ_ _ q=>q
theorem Un.laid (k:∀ b u,h.get? b=some u->h'.get? b=some u) (hp:h.objs.size<=a) (hn:H a=none):Un fs ex H (upd H a o) h h' where
 keep:=λb u q _ _ _=>k b u q
 slot:=λb u q _ _ _=>⟨u.slots,k b u q⟩
 free:=λb u q n _=>by rw [bc (wz (wk (wq q) hp))]; exact n
 there:=λb u q _=>⟨u,k b u q⟩
 tups:=λb xs q=>by rw [bc (de q hn)]; exact q
 frzs:=λb u xs q=>by rw [bc (de q hn)]; exact q
 tbls:=λb ps q=>⟨#[],by rw [bc (de q hn),q]; simp⟩
theorem Un.write (mu:nH (H x)) (he:e=x\/H e=some (.own x)) (k:∀ b u,b≠e->h.get? b=some u->h'.get? b=some u) (heo:∃ u,h'.get? e=some u):Un fs ex H (upd H x o) h h':=by
 have hx:∀ b,H b=none->b≠x:=λb n z=>by subst z; rw [n] at mu; exact mu
 have hb:∀ b,H b=none->b≠e:=λb n z=>by
  subst z
  rcases he with r | r
  ·exact hx b n r
  ·rw [n] at r; cases r
 have hm:∀ b u,H b=some u->¬ nH (some u)->b≠x:=λb u q nm z=>by subst z; rw [q] at mu; exact nm mu
 refine ⟨λb u q n _ _=>k b u (hb b n) q,λb u q n _ _=>⟨u.slots,k b u (hb b n) q⟩,λb u q n _=>by rw [bc (hx b n)]; exact n,λb u q _=>?_,
  λb xs q=>by rw [bc (hm b _ q λz=>z)]; exact q,λb u xs q=>by rw [bc (hm b _ q λz=>z)]; exact q,λb ps q=>⟨#[],by rw [bc (hm b _ q λz=>z),q]; simp⟩⟩
 by_cases hbe:b=e
 ·subst hbe; exact heo
 ·exact ⟨u,k b u hbe q⟩
end
noncomputable def trk (h:Heap) (H:Hp):List Addr:=(List.range h.objs.size).filter λa=>(H a).isSome
noncomputable def h8 (h:Heap) (H:Hp):Heap:=PySem.W.hideAll h (trk h H)
theorem ZnD (h:Heap) (H:Hp):(h8 h H).objs.size=h.objs.size:=PySem.W.hideAll_size _ _
theorem ZnE {h:Heap} {H:Hp} {b:Addr} {o:Obj} (e:h.get? b=some o) (n:H b=none):(h8 h H).get? b=some o :=
 PySem.W.hideAll_get _ e λhm=>by
  have q:(H b).isSome=true:=(yX.mp hm).2
  rw [n] at q; simp at q
theorem Zmm {h:Heap} {H:Hp} {b:Addr} {o:Obj} (e:(h8 h H).get? b=some o):h.get? b=some o/\H b=none:=by
 have e':h.get? b=some o:=PySem.W.of_hideAll (trk h H) e
 refine ⟨e',?_⟩
 cases q:H b with
 | none=>rfl
 | some x =>
  have hm:b∈trk h H:=yX.mpr ⟨wQ.mpr (wq e'),by simp [q]⟩
  have z:(h8 h H).get? b=none:=PySem.W.hideAll_none (trk h H) hm
  rw [z] at e; cases e
noncomputable def Zqp (g h:Heap) (L:Addr):List (Addr×Obj):=(List.range h.objs.size).filterMap λa=>if a=L\/(g.get? a).isSome=true then none else (h.get? a).map λo=>(a,o)
noncomputable def rest (g h:Heap) (L d:Addr):List (Addr×Obj):=(Zqp g h L).filter λp=>decide (p.1≠d)
structure Mod (K:zZ) (mg:Ao) (base:Heap):Prop where
 kin:K.In base
 glob:base.Ns mainGlobals mg
 blt:∃ mb,base.Ns builtinsNs mb/\∀ x:Str,x≠"__name__"->mb x=bootBuiltins x
 nolimit:base.NoLimit
 nodig:base.NoDigits
structure Cx where
 prog:Program
 w:World
 K:zZ
 mg:Ao
 base:Heap
 A:Around
 N:Am
 s₀:Shared
 H₀:Hp
 env:Env
 outer:List Env
 stack:List Env
 ex:List Addr
 fn:Str->Bool
 calm:Bool
 pn:List (Addr×Obj)
 xe:Ah
noncomputable def frs (l:List Env):List Addr:=l.filterMap (·.frame)
noncomputable abbrev Cx.fs (X:Cx):List Addr:=frs X.outer
def qM (sc:Scope) (x:Str):Prop:=sc.names.lookup x=some .local\/sc.names.lookup x=some .cell\/sc.names.lookup x=some .free
def jQ (sc:Scope) (x:Str):Prop:=sc.names.lookup x=some .local\/sc.names.lookup x=some .cell
noncomputable def Zrm (env:Env) (h:Heap) (m:Ao) (x:Str) (u:Value):Prop :=
 (env.kindOf x=some .local/\m x=some u)\/((env.kindOf x=some .cell\/env.kindOf x=some .free)/\∃ c,env.cells.lookup x=some c/\h.IsCell c (some u))
structure Cx.Ok (X:Cx):Prop where
 mod:Mod X.K X.mg X.base
 kind:X.env.scope.kind=.function
 glob:X.env.globals=mainGlobals
 blt:X.env.builtins=builtinsNs
 above:X.s₀.heap.objs.size<=X.env.locals
 inj:∀ x y c,X.env.cells.lookup x=some c->X.env.cells.lookup y=some c->x=y
 has:∀ x,(X.env.kindOf x=some .cell\/X.env.kindOf x=some .free)->∃ c,X.env.cells.lookup x=some c
 cab:∀ x c,X.fn x=true->X.env.cells.lookup x=some c->X.s₀.heap.objs.size<=c
 hd:X.calm=true->X.A.handled=none
 frames:X.A.frames=some X.stack
 stk:X.stack=X.outer\/(X.stack=X.env::X.outer/\X.env.frame=some X.env.locals)
 exf:∀ b∈X.ex,b≠X.env.locals/\∀ x c,X.env.cells.lookup x=some c->c≠b
 bs:∀ b o,X.base.get? b=some o->X.s₀.heap.get? b=some o/\X.H₀ b=none
 bsz:X.base.objs.size<=X.s₀.heap.objs.size
 noex:∀ b o,X.base.get? b=some o->b ∉ X.ex
 exfs:∀ b∈X.ex,b ∉ X.fs
 funs:X.s₀.heap.FunFrames X.base X.outer
 frf:∀ b∈X.fs,X.H₀ b=none
structure Inv (X:Cx) (pins:List (Addr×Obj)) (σ:List (Option V)) (H:Hp) (s:Shared):Prop where
 ok:X.Ok
 os:s.os=X.s₀.os
 bare:AllBare s.gens
 base:Un X.fs X.ex X.H₀ H X.s₀.heap s.heap
 loc:∃ m,s.heap.Ns X.env.locals m/\∀ (i:Nat) (x:Str) (v:V),X.N[i]?=some x->σ[i]?=some (some v)->qM X.env.scope x->∃ u,RelV v u/\Zrm X.env s.heap m x u
 cell:∀ x c,X.env.cells.lookup x=some c->∃ v,s.heap.IsCell c v
 free:H X.env.locals=none
 freeC:∀ x c,X.env.cells.lookup x=some c->H c=none
 pin:∀ p∈X.pn++pins,s.heap.get? p.1=some p.2/\H p.1=none/\p.1≠X.env.locals/\p.1 ∉ X.fs/\∀ v,p.2.data≠.cell v
 hok:HOk X.prog X.w H s.heap
 len:σ.length=X.N.length
section
variable {X:Cx} {pins:List (Addr×Obj)} {σ:List (Option V)} {H H':Hp} {s:Shared} {h':Heap}
theorem Cx.Ok.nofr (ok:X.Ok) {b:Addr} {o:Obj} (e:X.base.get? b=some o):b ∉ X.fs:=λhb=>by
 have:=(ok.funs.mem hb).1
 rw [e] at this; cases this
theorem Inv.bs (I:Inv X pins σ H s):∀ b o,X.base.get? b=some o->s.heap.get? b=some o/\H b=none:=λb o e =>
 ⟨I.base.keep b o (I.ok.bs b o e).1 (I.ok.bs b o e).2 (I.ok.nofr e) (I.ok.noex b o e),I.base.free b o (I.ok.bs b o e).1 (I.ok.bs b o e).2 (I.ok.noex b o e)⟩
theorem Inv.bk (I:Inv X pins σ H s):∀ b o,X.base.get? b=some o->s.heap.get? b=some o:=λb o e=>(I.bs b o e).1
theorem Inv.mod (I:Inv X pins σ H s):Mod X.K X.mg X.base:=I.ok.mod
theorem Inv.kIn (I:Inv X pins σ H s):X.K.In s.heap:=I.ok.mod.kin.keeps I.bk
theorem Inv.lt (I:Inv X pins σ H s):X.env.locals < s.heap.objs.size:=let ⟨_,hn,_⟩:=I.loc; hn.lt
theorem Inv.sz (I:Inv X pins σ H s):X.s₀.heap.objs.size<=s.heap.objs.size:=ww I.ok.above (yl I.lt)
theorem Inv.nofs (I:Inv X pins σ H s) {a:Addr} (h:s.heap.objs.size<=a):a ∉ X.fs:=λhb=>by
 obtain ⟨_,o,ho,_⟩:=I.ok.funs.mem hb
 exact absurd (wk (wq ho) (ww I.sz h)) (wH _)
theorem Inv.cne (I:Inv X pins σ H s):∀ x c,X.env.cells.lookup x=some c->c≠X.env.locals:=λx c e z=>by
 obtain ⟨v,o,ho,hd⟩:=I.cell x c e
 obtain ⟨m,⟨o',es,ep,ho',hd',_⟩,_⟩:=I.loc
 rw [z,ho'] at ho; cases ho; rw [hd'] at hd; cases hd
theorem Inv.funs (I:Inv X pins σ H s):s.heap.FunFrames X.base X.outer:=by
 have all:∀ (l:List Env),(∀ b∈frs l,b∈X.fs)->X.s₀.heap.FunFrames X.base l->s.heap.FunFrames X.base l:=by
  intro l
  induction l with
  | nil=>intro _ _; trivial
  | cons env r ih =>
   intro hs hl
   obtain ⟨hk,⟨L,o,hf,hn,ho,hd⟩,hr⟩:=hl
   have hL:L∈X.fs:=hs L (by unfold frs; rw [za,hf]; exact w8)
   obtain ⟨sl,e⟩:=I.base.slot L o ho (I.ok.frf L hL) hL λz=>I.ok.exfs L z hL
   exact ⟨hk,⟨L,_,hf,hn,e,hd⟩,ih (λb hb=>hs b (by unfold frs; rw [za,hf]; exact v8 _ hb)) hr⟩
 exact all X.outer (λ_ hb=>hb) I.ok.funs
theorem Inv.stack (I:Inv X pins σ H s):s.heap.FunFrames X.base X.stack:=by
 rcases I.ok.stk with e | ⟨e,hf⟩
 ·rw [e]; exact I.funs
 ·rw [e]
  obtain ⟨m,hn,_⟩:=I.loc
  refine .cons (by rw [I.ok.kind]; decide) hf hn ?_ I.funs
  exact Heap.get?_none_of_le (ww I.ok.bsz I.ok.above)
theorem Inv.stkSub (I:Inv X pins σ H s):∀ b∈frs X.stack,b∈X.env.locals::X.fs:=λb hb=>by
 rcases I.ok.stk with e | ⟨e,hf⟩
 ·rw [e] at hb; exact v8 _ hb
 ·rw [e] at hb
  unfold frs at hb
  rw [za,hf] at hb
  exact hb
theorem Inv.stkFree (I:Inv X pins σ H s):∀ b∈frs X.stack,H b=none:=λb hb=>by
 rcases wt.mp (I.stkSub b hb) with e | hb
 ·rw [e]; exact I.free
 ·obtain ⟨_,o,ho,_⟩:=I.ok.funs.mem hb
  exact I.base.free b o ho (I.ok.frf b hb) λz=>I.ok.exfs b z hb
theorem Inv.step {g':Array GenState} {t':Nat} {d':Drawn} {ch:List Addr} (I:Inv X pins σ H s)
  (hch:∀ b∈ch,(b∈X.ex\/X.s₀.heap.objs.size<=b)/\b≠X.env.locals/\(∀ x c,X.env.cells.lookup x=some c->c≠b)/\∀ p∈X.pn++pins,p.1≠b)
  (keep:∀ b o,b≠X.env.locals->b ∉ X.fs->b ∉ ch->s.heap.get? b=some o->H b=none->h'.get? b=some o)
  (slot:∀ b o,b≠X.env.locals->b∈X.fs->b ∉ ch->s.heap.get? b=some o->H b=none->∃ sl,h'.get? b=some { o with slots:=sl }) (free:∀ b o,b ∉ ch->s.heap.get? b=some o->H b=none->H' b=none)
  (there:∀ b o,b ∉ ch->s.heap.get? b=some o->∃ o',h'.get? b=some o')
  (tups:∀ b xs,H b=some (.tup xs)->H' b=some (.tup xs)) (frzs:∀ b o u,H b=some (.frz o u)->H' b=some (.frz o u)) (tbls:∀ b ps,H b=some (.tbl ps)->∃ more,H' b=some (.tbl (ps++more)))
  (ns:∀ m,s.heap.Ns X.env.locals m->h'.Ns X.env.locals m) (hok:HOk X.prog X.w H' h') (hg:AllBare g') :
  Inv X pins σ H' { s with heap:=h',gens:=g',drawn:=d',toks:=t' }:=by
 have neL:∀ b o,X.s₀.heap.get? b=some o->b≠X.env.locals:=λb o e=>wz (wk (wq e) I.ok.above)
 have neC:∀ b o,X.s₀.heap.get? b=some o->b ∉ X.ex->b ∉ ch:=λb o e hx hb=>by
  rcases (hch b hb).1 with z | z
  ·exact hx z
  ·exact absurd (wk (wq e) z) (wH _)
 have cellK:∀ x c,X.env.cells.lookup x=some c->∀ v,s.heap.IsCell c v->h'.IsCell c v:=λx c e v hz0=>by
  obtain ⟨o,ho,hd⟩:=hz0
  have nch:c ∉ ch:=λz=>(hch c z).2.2.1 x c e rfl
  by_cases hc:c∈X.fs
  ·obtain ⟨sl,q⟩:=slot c o (I.cne x c e) hc nch ho (I.freeC x c e)
   exact ⟨_,q,hd⟩
  ·exact ⟨o,keep c o (I.cne x c e) hc nch ho (I.freeC x c e),hd⟩
 refine ⟨I.ok,I.os,hg,⟨λb o e n hb hx=>?_,λb o e n hb hx=>?_,λb o e n hx=>?_,λb o e hx=>?_,λb xs e=>tups b xs (I.base.tups b xs e),λb o xs e=>frzs b o xs (I.base.frzs b o xs e),λb ps e=>?_⟩,?_,λx c e=>?_,?_,λx c e=>?_,λp hp=>?_,hok,I.len⟩
 ·exact keep b o (neL b o e) hb (neC b o e hx) (I.base.keep b o e n hb hx) (I.base.free b o e n hx)
 ·obtain ⟨sl,e1⟩:=I.base.slot b o e n hb hx
  obtain ⟨sl',e2⟩:=slot b _ (neL b o e) hb (neC b o e hx) e1 (I.base.free b o e n hx)
  exact ⟨sl',e2⟩
 ·obtain ⟨o',e1⟩:=I.base.there b o e hx
  exact free b o' (neC b o e hx) e1 (I.base.free b o e n hx)
 ·obtain ⟨o',e1⟩:=I.base.there b o e hx
  exact there b o' (neC b o e hx) e1
 ·obtain ⟨m1,e1⟩:=I.base.tbls b ps e
  obtain ⟨m2,e2⟩:=tbls b _ e1
  exact ⟨m1++m2,by rw [e2,Array.append_assoc]⟩
 ·obtain ⟨m,hn,hl⟩:=I.loc
  refine ⟨m,ns m hn,λi x v e1 e2 e3=>?_⟩
  obtain ⟨u,r,l⟩:=hl i x v e1 e2 e3
  refine ⟨u,r,?_⟩
  rcases l with l | ⟨k,c,e,z⟩
  ·exact .inl l
  ·exact .inr ⟨k,c,e,cellK x c e _ z⟩
 ·obtain ⟨v,z⟩:=I.cell x c e
  exact ⟨v,cellK x c e v z⟩
 ·obtain ⟨m,⟨o,_,_,ho,_⟩,_⟩:=I.loc
  exact free _ o (λz=>(hch _ z).2.1 rfl) ho I.free
 ·obtain ⟨v,o,ho,hd⟩:=I.cell x c e
  exact free c o (λz=>(hch c z).2.2.1 x c e rfl) ho (I.freeC x c e)
 ·obtain ⟨e,n,ne,nf,d⟩:=I.pin p hp
  have nch:p.1 ∉ ch:=λz=>(hch p.1 z).2.2.2 p hp rfl
  exact ⟨keep p.1 p.2 ne nf nch e n,free p.1 p.2 nch e n,ne,nf,d⟩
theorem Inv.un {t':Nat} (I:Inv X pins σ H s) (u:Un X.fs [] H H' s.heap h') (hok:HOk X.prog X.w H' h'):Inv X pins σ H' { s with heap:=h',toks:=t' }:=by
 obtain ⟨m,⟨o,es,ep,ho,r⟩,_⟩:=id I.loc
 obtain ⟨sl,hL⟩:=u.any ho I.free (by simp)
 exact I.step (g':=s.gens) (d':=s.drawn) (ch:=[]) (λ_ z=>nomatch z) (λb o _ hb _ e n=>u.keep b o e n hb (by simp)) (λb o _ hb _ e n=>u.slot b o e n hb (by simp)) (λb o _ e n=>u.free b o e n (by simp)) (λb o _ e=>u.there b o e (by simp)) u.tups u.frzs u.tbls (λm' hm=>by
  obtain ⟨o',es',ep',ho',r'⟩:=hm
  rw [ho] at ho'; cases ho'
  exact ⟨_,es',ep',hL,r'⟩) hok I.bare
theorem Inv.call {g':Array GenState} {t':Nat} {d':Drawn} {ch:List Addr} (I:Inv X pins σ H s) (u:Un (frs X.stack) ch H H' s.heap h') (hok:HOk X.prog X.w H' h') (hg:AllBare g')
  (hch:∀ b∈ch,(b∈X.ex\/X.s₀.heap.objs.size<=b)/\b≠X.env.locals/\(∀ x c,X.env.cells.lookup x=some c->c≠b)/\∀ p∈X.pn++pins,p.1≠b) :
  Inv X pins σ H' { s with heap:=h',gens:=g',drawn:=d',toks:=t' }:=by
 obtain ⟨m,⟨o,es,ep,ho,r⟩,_⟩:=id I.loc
 obtain ⟨sl,hL⟩:=u.any ho I.free λz=>(hch _ z).2.1 rfl
 exact I.step (ch:=ch) hch (λb o hL hb hc e n=>u.keep b o e n (λz=>(wt.mp (I.stkSub b z)).elim hL hb) hc) (λb o _ _ hc e n=>u.any e n hc) (λb o hc e n=>u.free b o e n hc) (λb o hc e=>u.there b o e hc) u.tups u.frzs u.tbls (λm' hm=>by
  obtain ⟨o',es',ep',ho',r'⟩:=hm
  rw [ho] at ho'; cases ho'
  exact ⟨_,es',ep',hL,r'⟩) hok hg
theorem Inv.turned {t':Nat} {it:Addr} (I:Inv X pins σ H s) (k:∀ b o,b≠it->s.heap.get? b=some o->h'.get? b=some o) (hn:H it=none) (hL:it≠X.env.locals)
  (h1:it∈X.ex\/X.s₀.heap.objs.size<=it) (h2:∀ x c,X.env.cells.lookup x=some c->c≠it) (h3:∀ p∈X.pn++pins,p.1≠it):Inv X pins σ H { s with heap:=h',toks:=t' }:=by
 have nit:∀ b u,H b=some u->b≠it:=λb u e z=>by rw [z,hn] at e; cases e
 refine I.step (g':=s.gens) (d':=s.drawn) (ch:=[it]) (λb hb=>?_) (λb o _ _ hc e _=>k b o (λz=>hc (by simp [z])) e) (λb o _ _ hc e _=>⟨o.slots,k b o (λz=>hc (by simp [z])) e⟩) (λ_ _ _ _ n=>n)
  (λb o hc e=>⟨o,k b o (λz=>hc (by simp [z])) e⟩) (λ_ _ e=>e) (λ_ _ _ e=>e) (λb ps e=>⟨#[],by rw [e]; simp⟩) (λm hm=>?_) (λb u e=>?_) I.bare
 ·have e:b=it:=by simpa using hb
  subst e
  exact ⟨h1,hL,h2,h3⟩
 ·obtain ⟨o,es,ep,ho,r⟩:=hm
  exact ⟨o,es,ep,k _ o (Ne.symm hL) ho,r⟩
 ·refine (I.hok b u e).stay (λc v hc q=>k c v ?_ q) (λ_ q=>q) λ_ _ q=>q
  rcases hc with z | z
  ·rw [z]; exact nit b u e
  ·exact nit c _ z
theorem Inv.tok (I:Inv X pins σ H s) (t:Nat):Inv X pins σ H { s with toks:=t }:=I.un (h':=s.heap) (t':=t) Un.refl I.hok
theorem Inv.kept {t':Nat} (I:Inv X pins σ H s) (k:∀ b u,s.heap.get? b=some u->h'.get? b=some u):Inv X pins σ H { s with heap:=h',toks:=t' }:=I.un (Un.kept k) (I.hok.kept k)
theorem Inv.laid {a:Addr} {o:HO} {t':Nat} (I:Inv X pins σ H s) (k:∀ b u,s.heap.get? b=some u->h'.get? b=some u) (hp:s.heap.objs.size<=a) (new:ObjOk X.prog X.w (upd H a o) h' a o) :
  Inv X pins σ (upd H a o) { s with heap:=h',toks:=t' }:=I.un (Un.laid k hp (I.hok.fresh hp)) (I.hok.laid k hp new)
theorem Inv.write {x e:Addr} {o:HO} {t':Nat} (I:Inv X pins σ H s) (mu:nH (H x)) (he:e=x\/H e=some (.own x)) (k:∀ b u,b≠e->s.heap.get? b=some u->h'.get? b=some u) (heo:∃ u,h'.get? e=some u)
  (new:ObjOk X.prog X.w (upd H x o) h' x o):Inv X pins σ (upd H x o) { s with heap:=h',toks:=t' }:=I.un (Un.write mu he k heo) (I.hok.write mu he k heo new)
theorem Inv.pins_of {pins':List (Addr×Obj)} (I:Inv X pins σ H s) (h:∀ p∈pins',s.heap.get? p.1=some p.2/\H p.1=none/\p.1≠X.env.locals/\p.1 ∉ X.fs/\∀ v,p.2.data≠.cell v):Inv X pins' σ H s :=
 ⟨I.ok,I.os,I.bare,I.base,I.loc,I.cell,I.free,I.freeC,λp hp=>(xT.mp hp).elim (λz=>I.pin p (x8 _ z)) (h p),I.hok,I.len⟩
theorem Zc3 {N:Am} (hN:N.Nodup) {i j:Nat} {x:Str} (a:N[i]?=some x) (b:N[j]?=some x):i=j:=by
 obtain ⟨h1,e1⟩:=we.mp a
 obtain ⟨h2,e2⟩:=we.mp b
 exact (List.getElem_inj hN).mp (e1.trans e2.symm)
theorem rK {M:Model} {A:Around} {E:Ah} {i:Nat} {x:Str} {v:V} {u:Value} {Q:Unit->Shared->Prop} (I:Inv X pins σ H s) (hN:X.N.Nodup) (hi:X.N[i]?=some x) (hx:jQ X.env.scope x) (r:RelV v u)
  (h:∀ s',Inv X pins (σ.set i (some v)) H s'->(∃ a,Heap.SameBut a s.heap s'.heap/\(a=X.env.locals\/X.env.cells.lookup x=some a))->Q () s') (hf:X.fn x=true\/X.env.scope.names.lookup x=some .local:=by first | exact .inl rfl | exact .inr rfl | assumption):wpAny M A (storeName X.env x u) Q E s:=by
 obtain ⟨m,hn,hl⟩:=id I.loc
 have hcls:(X.env.scope.kind == .class || (X.env.scope.kind == .module && X.env.locals != X.env.globals))=false:=by rw [I.ok.kind]; rfl
 have hiσ:i < σ.length:=by rw [I.len]; exact (we.mp hi).1
 have cne:=I.cne
 have tracked:∀ {a:Addr} {h':Heap},(∃ o,s.heap.get? a=some o/\H a=none)->Heap.SameBut a s.heap h'->HOk X.prog X.w H h':=λ{a h'} ha hs b ob e=>by
  obtain ⟨_,_,hfree⟩:=ha
  refine (I.hok b ob e).stay (λc w' hc q=>(hs.2 c ?_).trans q) (λ_ q=>q) λ_ _ q=>q
  rintro rfl
  rcases hc with rfl | hc
  ·rw [hfree] at e; cases e
  ·rw [hfree] at hc; cases hc
 rcases hx with hk | hk
 ·refine wpAny_storeName_local hk hn (λh' hn' hs=>?_) hcls
  obtain ⟨oL,_,_,hoL,_⟩:=id hn
  refine h _ ⟨I.ok,I.os,I.bare,⟨λb o e n hb hx=>?_,λb o e n hb hx=>?_,I.base.free,λb o e hx=>?_,I.base.tups,I.base.frzs,I.base.tbls⟩,⟨_,hn',λj y v' e1 e2 e3=>?_⟩,λy c e=>?_,I.free,I.freeC,λp hp=>?_,tracked ⟨oL,hoL,I.free⟩ hs,by simpa using I.len⟩ ⟨_,hs,.inl rfl⟩
  ·exact (hs.2 b (wz (wk (wq e) I.ok.above))).trans (I.base.keep b o e n hb hx)
  ·obtain ⟨sl,e1⟩:=I.base.slot b o e n hb hx
   exact ⟨sl,(hs.2 b (wz (wk (wq e) I.ok.above))).trans e1⟩
  ·obtain ⟨o',e1⟩:=I.base.there b o e hx
   exact ⟨o',(hs.2 b (wz (wk (wq e) I.ok.above))).trans e1⟩
  ·by_cases hj:j=i
   ·subst hj
    rw [hi] at e1; cases e1
    rw [wC hiσ] at e2
    cases e2
    exact ⟨u,r,.inl ⟨hk,by simp⟩⟩
   ·rw [wv (Ne.symm hj)] at e2
    obtain ⟨u',r',q⟩:=hl j y v' e1 e2 e3
    refine ⟨u',r',?_⟩
    rcases q with ⟨k,e⟩ | ⟨k,c,e,z⟩
    ·refine .inl ⟨k,?_⟩
     have:y≠x:=λe=>hj (Zc3 hN e1 (e ▸ hi))
     simp [this,e]
    ·exact .inr ⟨k,c,e,z.sameBut hs (cne y c e)⟩
  ·obtain ⟨w',z⟩:=I.cell y c e
   exact ⟨w',z.sameBut hs (cne y c e)⟩
  ·obtain ⟨e,n,ne,nf,d⟩:=I.pin p hp
   exact ⟨(hs.2 p.1 ne).trans e,n,ne,nf,d⟩
 ·have hfn:X.fn x=true:=by
   rcases hf with z | z
   ·exact z
   ·rw [z] at hk; cases hk
  obtain ⟨c,hc⟩:=I.ok.has x (.inl hk)
  obtain ⟨w',z⟩:=I.cell x c hc
  refine wpAny_storeName_cell I.ok.kind hk hc z (λh' hc' hs=>?_)
  obtain ⟨oc,hoc,hocd⟩:=id z
  refine h { s with heap:=h' } ⟨I.ok,I.os,I.bare,⟨λb o e n hb hx=>?_,λb o e n hb hx=>?_,I.base.free,λb o e hx=>?_,I.base.tups,I.base.frzs,I.base.tbls⟩,⟨m,hn.sameBut hs (Ne.symm (cne x c hc)),λj y v' e1 e2 e3=>?_⟩,λy c' e=>?_,I.free,I.freeC,λp hp=>?_,tracked ⟨oc,hoc,I.freeC x c hc⟩ hs,by simpa using I.len⟩ ⟨c,hs,.inr hc⟩
  ·exact (hs.2 b (wz (wk (wq e) (I.ok.cab x c hfn hc)))).trans (I.base.keep b o e n hb hx)
  ·obtain ⟨sl,e1⟩:=I.base.slot b o e n hb hx
   exact ⟨sl,(hs.2 b (wz (wk (wq e) (I.ok.cab x c hfn hc)))).trans e1⟩
  ·obtain ⟨o',e1⟩:=I.base.there b o e hx
   exact ⟨o',(hs.2 b (wz (wk (wq e) (I.ok.cab x c hfn hc)))).trans e1⟩
  ·by_cases hj:j=i
   ·subst hj
    rw [hi] at e1; cases e1
    rw [wC hiσ] at e2
    cases e2
    exact ⟨u,r,.inr ⟨.inl hk,c,hc,hc'⟩⟩
   ·rw [wv (Ne.symm hj)] at e2
    obtain ⟨u',r',q⟩:=hl j y v' e1 e2 e3
    refine ⟨u',r',?_⟩
    rcases q with q | ⟨k,c',e,z'⟩
    ·exact .inl q
    ·refine .inr ⟨k,c',e,z'.sameBut hs ?_⟩
     rintro rfl
     exact hj (Zc3 hN e1 (I.ok.inj _ _ _ e hc ▸ hi))
  ·by_cases hcc:c'=c
   ·subst hcc; exact ⟨_,hc'⟩
   ·obtain ⟨w2,z2⟩:=I.cell y c' e
    exact ⟨w2,z2.sameBut hs hcc⟩
  ·obtain ⟨e,n,ne,nf,d⟩:=I.pin p hp
   refine ⟨(hs.2 p.1 ?_).trans e,n,ne,nf,d⟩
   intro q
   rw [q,hoc] at e
   have q':oc=p.2:=wJ e
   exact d w' (by rw [<- q']; exact hocd)
theorem lQ {M:Model} {A:Around} {E:Ah} {i:Nat} {x:Str} {v:V} {u:Value} {Q:Unit->Shared->Prop} (I:Inv X pins σ H s) (hN:X.N.Nodup) (hi:X.N[i]?=some x) (hx:jQ X.env.scope x) (r:RelV v u)
  (h:∀ s',Inv X pins (σ.set i (some v)) H s'->Q () s') (hf:X.fn x=true\/X.env.scope.names.lookup x=some .local:=by first | exact .inl rfl | exact .inr rfl | assumption):wpAny M A (storeName X.env x u) Q E s :=
 rK I hN hi hx r (λs' I' _=>h s' I') hf
theorem Inv.call' {s':Shared} {ch:List Addr} (I:Inv X pins σ H s) (ho:s'.os=s.os) (u:Un (frs X.stack) ch H H' s.heap s'.heap) (hok:HOk X.prog X.w H' s'.heap) (hg:AllBare s'.gens)
  (hch:∀ b∈ch,(b∈X.ex\/X.s₀.heap.objs.size<=b)/\b≠X.env.locals/\(∀ x c,X.env.cells.lookup x=some c->c≠b)/\∀ p∈X.pn++pins,p.1≠b):Inv X pins σ H' s':=by
 obtain ⟨h',g',d',t',o'⟩:=s'
 have e:o'=s.os:=ho
 subst e
 exact I.call (g':=g') (t':=t') (d':=d') u hok hg hch
end
noncomputable abbrev XK:=Value->Option Addr->Hp->Prop
noncomputable abbrev St:=List (Option V)
noncomputable abbrev VK:=V->Hp->Prop
noncomputable abbrev TE:=St->Hp->VK->Prop
noncomputable abbrev TT:=St->Hp->(Bool->Hp->Prop)->Prop
noncomputable abbrev TA:=St->Hp->(List V->Hp->Prop)->Prop
structure Ends where
 nx:St->Hp->Prop
 rt:VK
 bk:St->Hp->Prop:=λ_ _=>False
 ct:St->Hp->Prop:=λ_ _=>False
noncomputable abbrev TS:=Ends->St->Hp->Prop
def EP (X:Cx) (pins:List (Addr×Obj)) (σ:St) (Q:VK) (u:Value) (s':Shared):Prop:=∃ v H',Inv X pins σ H' s'/\RelV v u/\Q v H'
def TP (X:Cx) (pins:List (Addr×Obj)) (σ:St) (Q:Bool->Hp->Prop) (b:Bool) (s':Shared):Prop:=∃ H',Inv X pins σ H' s'/\Q b H'
def AP (X:Cx) (pins:List (Addr×Obj)) (σ:St) (Q:List V->Hp->Prop) (us:Ak) (s':Shared):Prop:=∃ vs H',Inv X pins σ H' s'/\Vals vs us/\Q vs H'
noncomputable def SP (X:Cx) (pins:List (Addr×Obj)) (D:Ends) (f:Flow) (s':Shared):Prop :=
 match f with
 | .next=>∃ σ' H',Inv X pins σ' H' s'/\D.nx σ' H'
 | .brk=>∃ σ' H',Inv X pins σ' H' s'/\D.bk σ' H'
 | .cont=>∃ σ' H',Inv X pins σ' H' s'/\D.ct σ' H'
 | .ret u=>∃ v σ' H',Inv X pins σ' H' s'/\RelV v u/\D.rt v H'
noncomputable def PE (X:Cx) (e:Expr) (t:TE):Prop :=
 ∀ (pins:List (Addr×Obj)) (s:Shared) (σ:St) (H:Hp) (Q:VK),Inv X pins σ H s->t σ H Q->wpAny (model X.prog X.w) X.A (eval e X.env) (EP X pins σ Q) X.xe s
noncomputable def PT (X:Cx) (e:Expr) (t:TT):Prop :=
 ∀ (pins:List (Addr×Obj)) (s:Shared) (σ:St) (H:Hp) (Q:Bool->Hp->Prop),Inv X pins σ H s->t σ H Q->wpAny (model X.prog X.w) X.A (isTrue e X.env (eval e X.env)) (TP X pins σ Q) X.xe s
noncomputable def PW (X:Cx) (e:Expr) (t:TT):Prop :=
 ∀ (whole:Sem Value) (pins:List (Addr×Obj)) (s:Shared) (σ:St) (H:Hp) (Q:Bool->Hp->Prop),Inv X pins σ H s->t σ H Q->wpAny (model X.prog X.w) X.A (isTrue e X.env whole) (TP X pins σ Q) X.xe s
theorem PW.pt {X:Cx} {e:Expr} {t:TT} (h:PW X e t):PT X e t:=h _
noncomputable def PA (X:Cx) (es:List Expr) (t:TA):Prop :=
 ∀ (pos:Pos) (pins:List (Addr×Obj)) (s:Shared) (σ:St) (H:Hp) (Q:List V->Hp->Prop),Inv X pins σ H s->t σ H Q->wpAny (model X.prog X.w) X.A (spliced (backTo pos (starEach es X.env))) (AP X pins σ Q) X.xe s
noncomputable def PS (X:Cx) (st:Stmt) (t:TS):Prop :=
 ∀ (pins:List (Addr×Obj)) (s:Shared) (σ:St) (H:Hp) (D:Ends),Inv X pins σ H s->t D σ H->wpAny (model X.prog X.w) X.A (exec st X.env) (SP X pins D) X.xe s
noncomputable def PSs (X:Cx) (st:List Stmt) (t:TS):Prop :=
 ∀ (pins:List (Addr×Obj)) (s:Shared) (σ:St) (H:Hp) (D:Ends),Inv X pins σ H s->t D σ H->wpAny (model X.prog X.w) X.A (execs st X.env) (SP X pins D) X.xe s
theorem thn {α:Type} {t:Sem α} {Q Q':α->Shared->Prop} {M:Model} {A:Around} {E:Ah} {s:Shared} (h:wpAny M A t Q E s) (hQ:∀ a s,Q a s->Q' a s):wpAny M A t Q' E s:=wpAny_mono h hQ λ_ _ x=>x
section
variable {X:Cx}
def fA (i:Nat):TE:=λσ H Q=>∃ v,σ[i]?=some (some v)/\Q v H
def tC (v:V):TE:=λ_ H Q=>Q v H
theorem ZlH {i:Nat} {x:Str} {pos:Pos} (hN:X.N[i]?=some x) (hv:qM X.env.scope x) (hd:(x == ("__debug__":Str))=false:=by decide) (hcd:(x == ("__classdict__":Str))=false:=by decide):PE X (.Name x pos) (fA i):=by
 intro pins s σ H Q I h
 obtain ⟨v,e,h⟩:=h
 obtain ⟨m,hn,hl⟩:=I.loc
 obtain ⟨u,r,l⟩:=hl i x v hN e hv
 have fin:EP X pins σ Q u s:=⟨v,H,I,r,h⟩
 rcases l with ⟨hk,hm⟩ | ⟨hk,c,hc,hcell⟩
 ·exact wpAny_Name (wpAny_loadName_local I.ok.kind hk hn hm fin) hd
 ·rcases hk with hk | hk
  ·exact wpAny_Name (wpAny_loadName_cell I.ok.kind hk hc hcell fin) hd
  ·exact wpAny_Name (wpAny_loadName_free I.ok.kind hk hc hcell fin hcd) hd
theorem cK {i j pos}:PE X (.Constant (.int i) j pos) (tC (.int i)):=λ_ _ _ H _ I h=>wpAny_Constant_int ⟨.int i,H,I.tok _,⟨_,rfl⟩,h⟩
theorem ZlU {b j pos}:PE X (.Constant (.bool b) j pos) (tC (.bl b)):=λ_ _ _ H _ I h=>Constant_bool ⟨.bl b,H,I,rfl,h⟩
theorem dX {x j pos}:PE X (.Constant (.str x) j pos) (tC (.str x)):=λ_ _ _ H _ I h=>Calls.Constant_str ⟨.str x,H,I.tok _,⟨_,rfl⟩,h⟩
def Gl (X:Cx) (x:Str):Prop:=X.env.kindOf x=some .globalImplicit
theorem ZdT {E:Ah} {pins:List (Addr×Obj)} {s:Shared} {σ:St} {H:Hp} {x:Str} {u:Value} {pos:Pos} {Q:Ah} (I:Inv X pins σ H s) (hg:Gl X x) (hm:X.mg x=some u) (h:Q u s)
  (hd:(x == ("__debug__":Str))=false:=by decide):wpAny (model X.prog X.w) X.A (eval (.Name x pos) X.env) Q E s :=
 Calls.Name_function_global I.ok.kind hg (Calls.loadGlobal_global (by rw [I.ok.glob]; exact I.mod.glob.keeps I.bk) hm h) hd
theorem iS {E:Ah} {pins:List (Addr×Obj)} {s:Shared} {σ:St} {H:Hp} {x:Str} {u:Value} {pos:Pos} {Q:Ah} (I:Inv X pins σ H s) (hg:Gl X x) (hm:X.mg x=none) (hv:bootBuiltins x=some u) (h:Q u s)
  (hn:x≠"__name__":=by decide) (hd:(x == ("__debug__":Str))=false:=by decide):wpAny (model X.prog X.w) X.A (eval (.Name x pos) X.env) Q E s:=by
 obtain ⟨mb,h1,h2⟩:=I.mod.blt
 exact Calls.Name_function_global I.ok.kind hg (Calls.loadGlobal_builtin (by rw [I.ok.glob]; exact I.mod.glob.keeps I.bk) hm (by rw [I.ok.blt]; exact h1.keeps I.bk) ((h2 x hn).trans hv) h) hd
theorem ZlN {x:Str} {v:V} {u:Value} {pos:Pos} (hg:Gl X x) (hm:X.mg x=some u) (r:RelV v u) (hd:(x == ("__debug__":Str))=false:=by decide):PE X (.Name x pos) (tC v) :=
 λ_ _ _ H _ I h=>ZdT I hg hm ⟨v,H,I,r,h⟩ hd
theorem kl {x:Str} {v:V} {u:Value} {pos:Pos} (hg:Gl X x) (hm:X.mg x=none) (hv:bootBuiltins x=some u) (r:RelV v u) (hn:x≠"__name__":=by decide) (hd:(x == ("__debug__":Str))=false:=by decide):PE X (.Name x pos) (tC v) :=
 λ_ _ _ H _ I h=>iS I hg hm hv ⟨v,H,I,r,h⟩ hn hd
variable {a b:Expr} {ta tb:TE} {pos:Pos}
def tB (t:TE):TT:=λσ H Q=>t σ H λx H1=>∃ c,x=.bl c/\Q c H1
theorem Zln {e:Expr} {t:TE} (h:PE X e t) (he:∀ whole,isTrue e X.env whole=(do let v <- whole; standAt e.pos; holding [v] (truthy v)):=by intro _; rfl):PT X e (tB t):=by
 intro pins s σ H Q I hw
 refine isTrue_plain (thn (h pins s σ H _ I hw) λv s1 hz0=>?_) (he _)
 obtain ⟨x,H1,I1,r1,q1⟩:=hz0
 obtain ⟨d,rfl,q⟩:=q1
 cases r1
 exact wpAny_truthy_bool ⟨H1,I1,q⟩
variable {tA tB':TT} {rest:List Expr}
def Zj9 (t u:TT):TT:=λσ H Q=>t σ H λc H1=>if c=true then u σ H1 Q else Q false H1
def tOr (t u:TT):TT:=λσ H Q=>t σ H λc H1=>if c=true then Q true H1 else u σ H1 Q
def ZjX (t:TT):TT:=λσ H Q=>t σ H λc H1=>Q (!c) H1
theorem Zcy (ha:PT X a tA):PW X (.BoolOp .And [a] pos) tA:=by
 intro wh pins s σ H Q I h
 refine isTrue_and (thn (ha pins s σ H Q I h) λc s1 e=>?_)
 cases c with
 | true=>exact isTrue_and_nil e
 | false=>exact e
theorem Zlk (ha:PT X a tA):PW X (.BoolOp .Or [a] pos) tA:=by
 intro wh pins s σ H Q I h
 refine isTrue_or (thn (ha pins s σ H Q I h) λc s1 e=>?_)
 cases c with
 | false=>exact isTrue_or_nil e
 | true=>exact e
theorem Zcz (ha:PT X a tA) (hb:PW X (.BoolOp .And (b::rest) pos) tB'):PW X (.BoolOp .And (a::b::rest) pos) (Zj9 tA tB'):=by
 intro wh pins s σ H Q I h
 refine isTrue_and (thn (ha pins s σ H _ I h) λc s1 hz0=>?_)
 obtain ⟨H1,I1,q1⟩:=hz0
 cases c with
 | true=>exact hb wh pins s1 σ H1 Q I1 q1
 | false=>exact ⟨H1,I1,q1⟩
theorem Zll (ha:PT X a tA) (hb:PW X (.BoolOp .Or (b::rest) pos) tB'):PW X (.BoolOp .Or (a::b::rest) pos) (tOr tA tB'):=by
 intro wh pins s σ H Q I h
 refine isTrue_or (thn (ha pins s σ H _ I h) λc s1 hz0=>?_)
 obtain ⟨H1,I1,q1⟩:=hz0
 cases c with
 | true=>exact ⟨H1,I1,q1⟩
 | false=>exact hb wh pins s1 σ H1 Q I1 q1
theorem Zlp (ha:PT X a tA):PT X (.UnaryOp .Not a pos) (ZjX tA):=by
 intro pins s σ H Q I h
 exact isTrue_not (ha pins s σ H (λc H1=>Q (!c) H1) I h)
def Zj8 (ta tb:TE):TE:=λσ H Q=>ta σ H λx H1=>∃ c,x=.bl c/\if c=true then tb σ H1 Q else Q (.bl false) H1
def ZjW (ta:TE):TE:=λσ H Q=>ta σ H λx H1=>∃ c,x=.bl c/\Q (.bl (!c)) H1
theorem ZlJ {op} {t:TE} (h:PE X a t):PE X (.BoolOp op [a] pos) t:=λpins s σ H Q I hw=>BoolOp_one (h pins s σ H Q I hw)
theorem ZlV (ha:PE X a ta) (hb:PE X (.BoolOp .And (b::rest) pos) tb):PE X (.BoolOp .And (a::b::rest) pos) (Zj8 ta tb):=by
 intro pins s σ H Q I h
 refine BoolOp_and (thn (ha pins s σ H _ I h) λv s1 hz0=>?_)
 obtain ⟨x,H1,I1,r1,q1⟩:=hz0
 obtain ⟨c,rfl,q1⟩:=q1
 cases r1
 refine wpAny_truthy_bool ?_
 cases c with
 | true=>exact hb pins s1 σ H1 Q I1 q1
 | false=>exact ⟨.bl false,H1,I1,rfl,q1⟩
theorem ZlK (ha:PE X a ta):PE X (.UnaryOp .Not a pos) (ZjW ta):=by
 intro pins s σ H Q I h
 refine UnaryOp_ (thn (ha pins s σ H _ I h) λv s1 hz0=>?_)
 obtain ⟨x,H1,I1,r1,q1⟩:=hz0
 obtain ⟨c,rfl,q1⟩:=q1
 cases r1
 exact not_of (wpAny_truthy_bool ⟨.bl (!c),H1,I1,rfl,q1⟩)
def tIf (t:TT) (ta tb:TE):TE:=λσ H Q=>t σ H λc H1=>if c=true then ta σ H1 Q else tb σ H1 Q
theorem ZlM {c:Expr} (hc:PT X c tA) (ha:PE X a ta) (hb:PE X b tb):PE X (.IfExp c a b pos) (tIf tA ta tb):=by
 intro pins s σ H Q I h
 refine wpAny_IfExp (thn (hc pins s σ H _ I h) λd s1 hz0=>?_)
 obtain ⟨H1,I1,q1⟩:=hz0
 cases d with
 | true=>exact ha pins s1 σ H1 Q I1 q1
 | false=>exact hb pins s1 σ H1 Q I1 q1
end
noncomputable def SqL (K:zZ) (H:Hp) (a:Addr) (xs:An):Prop :=
 Rd H a (.lst xs) \/
  ∃ (o:Obj) (its:Array Value) (n:Nat),K.lookup a=some o/\o.cls=.type "list"/\o.dict=none/\o.data=.seq its n/\its.size<=sizeLine/\Vals xs its.toList
noncomputable def SqT (K:zZ) (H:Hp) (a:Addr) (xs:An):Prop :=
 Rd H a (.tup xs) \/
  ∃ (o:Obj) (its:Array Value) (n:Nat),K.lookup a=some o/\o.cls=.type "tuple"/\o.data=.seq its n/\its.size<=sizeLine/\Vals xs its.toList
noncomputable def ZqC:Value->Option V
 | .none=>some .non
 | .bool b=>some (.bl b)
 | .int i _=>some (.int i)
 | .str x _=>some (.str x)
 | .bytes b _=>some (.byt b)
 | .float b _=>some (.flt b)
 | .ref a=>some (.ref a)
 | .type n=>some (.ty n)
 | _=>none
theorem RelV.abs {x:V} {u:Value} (r:RelV x u):ZqC u=some x:=by
 cases x with
 | non=>cases r; rfl
 | bl _=>cases r; rfl
 | int _=>obtain ⟨t,rfl⟩:=r; rfl
 | str _=>obtain ⟨t,rfl⟩:=r; rfl
 | byt _=>obtain ⟨t,rfl⟩:=r; rfl
 | flt _=>obtain ⟨t,rfl⟩:=r; rfl
 | ref _=>cases r; rfl
 | ty _=>cases r; rfl
theorem RelV.inj {x y:V} {u:Value} (r:RelV x u) (q:RelV y u):x=y:=wJ (r.abs.symm.trans q.abs)
theorem Vals.inj {xs ys:An} {us:Ak} (h:Vals xs us) (h':Vals ys us):xs=ys:=by
 induction h generalizing ys with
 | nil=>cases h'; rfl
 | cons r t ih=>cases h' with | cons r' t'=>rw [r.inj r',ih t']
section
variable {X:Cx} {pins:List (Addr×Obj)} {σ:St} {H:Hp} {s:Shared} {a:Addr} {xs ys:An}
theorem SqL.of {K:zZ} (h:H a=some (.lst xs)):SqL K H a xs:=.inl (.inl h)
theorem SqT.of {K:zZ} (h:H a=some (.tup xs)):SqT K H a xs:=.inl (.inl h)
theorem Inv.list (I:Inv X pins σ H s) (h:SqL X.K H a xs):∃ its:Ak,Vals xs its/\PlainL s.heap a its.toArray/\xs.length<=sizeLine:=by
 rcases h with h | ⟨o,its,n,hk,hc,hd,hs,hz,r⟩
 ·obtain ⟨z,its,n,r,e⟩:=h.ok I.hok
  exact ⟨its,r,⟨_,n,e,rfl,rfl,rfl⟩,z⟩
 ·refine ⟨its.toList,r,⟨o,n,I.kIn a o hk,hc,hd,by simpa using hs⟩,?_⟩
  have e:=r.length
  simp only [zc] at e
  omega
theorem Inv.tuple (I:Inv X pins σ H s) (h:SqT X.K H a xs):∃ its:Ak,Vals xs its/\IsTup s.heap a its.toArray/\xs.length<=sizeLine:=by
 rcases h with h | ⟨o,its,n,hk,hc,hs,hz,r⟩
 ·obtain ⟨z,its,r,p⟩:=h.ok I.hok
  exact ⟨its,r,p,z⟩
 ·refine ⟨its.toList,r,⟨o,I.kIn a o hk,hc,n,by simpa using hs⟩,?_⟩
  have e:=r.length
  simp only [zc] at e
  omega
theorem Inv.list_inj (I:Inv X pins σ H s) (h:SqL X.K H a xs) (h':SqL X.K H a ys):xs=ys:=by
 obtain ⟨its,r,⟨o,n,e,_,_,d⟩,_⟩:=I.list h
 obtain ⟨its',r',⟨o',n',e',_,_,d'⟩,_⟩:=I.list h'
 rw [e] at e'; cases e'
 rw [d] at d'
 injection d' with d1 _
 have:its=its':=by simpa using congrArg Array.toList d1
 subst this
 exact r.inj r'
theorem Inv.tuple_inj (I:Inv X pins σ H s) (h:SqT X.K H a xs) (h':SqT X.K H a ys):xs=ys:=by
 obtain ⟨its,r,⟨o,e,_,n,d⟩,_⟩:=I.tuple h
 obtain ⟨its',r',⟨o',e',_,n',d'⟩,_⟩:=I.tuple h'
 rw [e] at e'; cases e'
 rw [d] at d'
 injection d' with d1 _
 have:its=its':=by simpa using congrArg Array.toList d1
 subst this
 exact r.inj r'
end
noncomputable abbrev Cx.wish (X:Cx) (E:Ah):Cx:={ X with xe:=E }
noncomputable abbrev Cx.nox (X:Cx):Cx:=X.wish λ_ _=>False
theorem Cx.Ok.wish {X:Cx} (ok:X.Ok) (E:Ah):(X.wish E).Ok :=
 ⟨ok.mod,ok.kind,ok.glob,ok.blt,ok.above,ok.inj,ok.has,ok.cab,ok.hd,ok.frames,ok.stk,ok.exf,ok.bs,ok.bsz,ok.noex,ok.exfs,ok.funs,ok.frf⟩
theorem Cx.Ok.unwish {X:Cx} {E:Ah} (ok:(X.wish E).Ok):X.Ok :=
 ⟨ok.mod,ok.kind,ok.glob,ok.blt,ok.above,ok.inj,ok.has,ok.cab,ok.hd,ok.frames,ok.stk,ok.exf,ok.bs,ok.bsz,ok.noex,ok.exfs,ok.funs,ok.frf⟩
section
variable {X:Cx} {pins:List (Addr×Obj)} {σ:St} {H:Hp} {s:Shared} {E:Ah}
theorem Inv.wish (I:Inv X pins σ H s) (E:Ah):Inv (X.wish E) pins σ H s:=⟨I.ok.wish E,I.os,I.bare,I.base,I.loc,I.cell,I.free,I.freeC,I.pin,I.hok,I.len⟩
theorem Inv.unwish (I:Inv (X.wish E) pins σ H s):Inv X pins σ H s:=⟨I.ok.unwish,I.os,I.bare,I.base,I.loc,I.cell,I.free,I.freeC,I.pin,I.hok,I.len⟩
theorem SP.unwish {D:Ends} {f:Flow} {s':Shared} (h:SP (X.wish E) pins D f s'):SP X pins D f s':=by
 cases f with
 | next=>obtain ⟨σ',H',I,q⟩:=h; exact ⟨σ',H',I.unwish,q⟩
 | brk=>obtain ⟨σ',H',I,q⟩:=h; exact ⟨σ',H',I.unwish,q⟩
 | cont=>obtain ⟨σ',H',I,q⟩:=h; exact ⟨σ',H',I.unwish,q⟩
 | ret u=>obtain ⟨v,σ',H',I,r,q⟩:=h; exact ⟨v,σ',H',I.unwish,r,q⟩
theorem PSs.nox {st:List Stmt} {t:TS} (h:PSs X.nox st t):PSs X st t:=λpins s σ H D I hw =>
 wpAny_mono (h pins s σ H D (I.wish _) hw) (λ_ _ q=>q.unwish) λ_ _ z=>False.elim z
end
section
variable {X:Cx} {st:Stmt} {rest:List Stmt} {t u:TS} {e:Expr} {te:TE} {pos:Pos}
def ZjZ:TS:=λD σ H=>D.nx σ H
def Zaw (t u:TS):TS:=λD σ H=>t { D with nx:=u D } σ H
theorem oy:PSs X [] ZjZ:=λ_ _ σ H _ I h=>wpAny_execs_nil ⟨σ,H,I,h⟩
theorem eR (h1:PS X st t) (h2:PSs X rest u):PSs X (st::rest) (Zaw t u):=by
 intro pins s σ H D I h
 refine wpAny_execs_cons (thn (h1 pins s σ H { D with nx:=u D } I h) λf s1 q=>?_)
 cases f with
 | next =>
  obtain ⟨σ',H',I',q⟩:=q
  exact h2 pins s1 σ' H' D I' q
 | ret v=>exact q
 | brk=>exact q
 | cont=>exact q
theorem jq (h1:PS X st t):PSs X [st] t:=by
 intro pins s σ H D I h
 refine wpAny_execs_cons (thn (h1 pins s σ H D I h) λf s1 q=>?_)
 cases f with
 | next=>exact wpAny_execs_nil q
 | ret v=>exact q
 | brk=>exact q
 | cont=>exact q
theorem Inv.quiet {pins:List (Addr×Obj)} {σ:St} {H:Hp} {s:Shared} (I:Inv X pins σ H s):interactive X.env=false:=by simp [interactive,I.ok.kind]
def rF (te:TE):TS:=λD σ H=>te σ H λ_ H1=>D.nx σ H1
theorem iC (he:PE X e te) (hs:swapsWith e none pos.line X.env=pure false:=by rfl):PS X (.Expr e pos) (rF te):=by
 intro pins s σ H D I h
 exact wpAny_Expr_any (thn (he pins s σ H _ I h) λv s1 ⟨x,H1,I1,r1,q1⟩=>⟨σ,H1,I1,q1⟩) I.quiet hs
def ZjT (te:TE):TS:=λD σ H=>te σ H D.rt
theorem gW (he:PE X e te):PS X (.Return (some e) pos) (ZjT te):=by
 intro pins s σ H D I h
 exact wpAny_Return_some (thn (he pins s σ H _ I h) λv s1 ⟨x,H1,I1,r1,q1⟩=>⟨x,σ,H1,I1,r1,q1⟩)
def Zj3 (c:TT) (t u:TS):TS:=λD σ H=>c σ H λb H1=>if b=true then t D σ H1 else u D σ H1
theorem oA {c:Expr} {a b:List Stmt} {tc:TT} (hc:PT X c tc) (ha:PSs X a t) (hb:PSs X b u):PS X (.If c a b pos) (Zj3 tc t u):=by
 intro pins s σ H D I h
 refine wpAny_If (thn (hc pins s σ H _ I h) λd s1 hz0=>?_)
 obtain ⟨H1,I1,q1⟩:=hz0
 cases d with
 | true=>exact ha pins s1 σ H1 D I1 q1
 | false=>exact hb pins s1 σ H1 D I1 q1
end
noncomputable abbrev TG:=V->St->Hp->(St->Hp->Prop)->Prop
noncomputable abbrev im:=List V->St->Hp->(St->Hp->Prop)->Prop
noncomputable def PG (X:Cx) (target:Expr) (t:TG):Prop :=
 ∀ (pins:List (Addr×Obj)) (s:Shared) (σ:St) (H:Hp) (v:V) (u:Value) (Q:St->Hp->Prop),Inv X pins σ H s->RelV v u->t v σ H Q ->
  wpAny (model X.prog X.w) X.A (assign target X.env u) (λ_ s'=>∃ σ' H',Inv X pins σ' H' s'/\Q σ' H') X.xe s
noncomputable def PGs (X:Cx) (ts:List Expr) (t:im):Prop :=
 ∀ (pins:List (Addr×Obj)) (s:Shared) (σ:St) (H:Hp) (vs:An) (us:Ak) (Q:St->Hp->Prop),Inv X pins σ H s->Vals vs us->t vs σ H Q ->
  wpAny (model X.prog X.w) X.A (assignInOrder ((assignEach ts X.env).map (·.2)) us) (λ_ s'=>∃ σ' H',Inv X pins σ' H' s'/\Q σ' H') X.xe s
noncomputable abbrev nv:=V->V->V->Hp->(Hp->Prop)->Prop
noncomputable def vX (X:Cx) (t:nv):Prop :=
 ∀ (pins:List (Addr×Obj)) (s:Shared) (σ:St) (H:Hp) (o i v:V) (ov iv u:Value) (Q:Hp->Prop),Inv X pins σ H s->RelV o ov->RelV i iv->RelV v u->t o i v H Q ->
  wpAny (model X.prog X.w) X.A (setItem ov iv u) (λ_ s'=>∃ H',Inv X pins σ H' s'/\Q H') X.xe s
noncomputable abbrev lF:=V->V->Hp->VK->Prop
noncomputable def ny (X:Cx) (op:Operator) (t:lF):Prop :=
 ∀ (pins:List (Addr×Obj)) (s:Shared) (σ:St) (H:Hp) (x y:V) (v u:Value) (Q:VK),Inv X pins σ H s->RelV x v->RelV y u->t x y H Q ->
  wpAny (model X.prog X.w) X.A (inplaceOp op v u) (EP X pins σ Q) X.xe s
section
variable {X:Cx} {pos:Pos}
def fq (i:Nat):TG:=λv σ H Q=>Q (σ.set i (some v)) H
theorem ZlD {i:Nat} {x:Str} (hN:X.N.Nodup) (hi:X.N[i]?=some x) (hx:jQ X.env.scope x) (hf:X.fn x=true\/X.env.scope.names.lookup x=some .local:=by first | exact .inl rfl | exact .inr rfl | assumption):PG X (.Name x pos) (fq i):=by
 intro pins s σ H v u Q I r h
 exact wpAny_assign_Name (lQ I hN hi hx r (λs' I'=>⟨_,H,I',h⟩) hf)
theorem aK {i:Nat} {x:Str} (hN:X.N.Nodup) (hi:X.N[i]?=some x:=by rfl) (hx:jQ X.env.scope x:=by first | exact Or.inl rfl | exact Or.inr rfl) (hf:X.fn x=true\/X.env.scope.names.lookup x=some .local:=by first | exact .inl rfl | exact .inr rfl | assumption):PG X (.Name x pos) (fq i):=ZlD hN hi hx hf
noncomputable def ZnS:im:=λvs σ H Q=>vs=[]/\Q σ H
noncomputable def ZnT (t:TG) (u:im):im:=λvs σ H Q=>∃ v r,vs=v::r/\t v σ H λσ' H'=>u r σ' H' Q
theorem ZlA:PGs X [] ZnS:=by
 intro pins s σ H vs us Q I r h
 obtain ⟨e,h⟩:=h
 subst e
 cases r
 exact assignInOrder_nil ⟨σ,H,I,h⟩
theorem ZlB {e:Expr} {es:List Expr} {t:TG} {u:im} (h1:PG X e t) (h2:PGs X es u)
  (hs:(assignEach (e::es) X.env).map (·.2)=assign e X.env::(assignEach es X.env).map (·.2):=by rfl):PGs X (e::es) (ZnT t u):=by
 intro pins s σ H vs us Q I r h
 obtain ⟨v,vr,e1,h⟩:=h
 subst e1
 cases r with
 | cons r rr =>
  rw [hs]
  refine assignInOrder_cons (thn (h1 pins s σ H _ _ _ I r h) λ_ s1 hz0=>?_)
  obtain ⟨σ1,H1,I1,q1⟩:=hz0
  exact h2 pins s1 σ1 H1 _ _ Q I1 rr q1
def ZnR (K:zZ) (n:Nat) (t:im):TG:=λv σ H Q=>∃ a xs,v=.ref a/\SqT K H a xs/\xs.length=n/\t xs σ H Q
theorem ZlC {es:List Expr} {k:Nat} {t:im} {n:Nat} (hc:X.calm=true) (h:PGs X es t)
  (hn:(assignEach es X.env).length=n:=by rfl) (hst:(assignEach es X.env).findIdx? (·.1)=none:=by rfl):PG X (.Tuple es k pos) (ZnR X.K n t):=by
 intro pins s σ H v u Q I r hw
 obtain ⟨a,xs,e1,hq,hl,hw⟩:=hw
 subst e1
 cases r
 obtain ⟨its,rv,ht,hz⟩:=I.tuple hq
 refine assign_Tuple_tuple (I.ok.hd hc) ht (by simp [hn,<- hl,rv.length]) hst λh' hx=>?_
 have I1:Inv X pins σ H { s with heap:=h' }:=I.kept (t':=s.toks) λb o e=>hx b o (wz (wq e)) e
 exact h pins _ σ H xs _ Q I1 (by simpa using rv) hw
def Zes (to ti:TE) (t:nv):TG:=λv σ H Q=>to σ H λo H1=>ti σ H1 λi H2=>t o i v H2 λH3=>Q σ H3
theorem tK {o i:Expr} {to ti:TE} {t:nv} (ho:PE X o to) (hi:PE X i ti) (hs:vX X t)
  (ha:∀ v,assign (.Subscript o i pos) X.env v=(do
   let ov <- holding [v] (eval o X.env)
   let iv <- holding [v,ov] (eval i X.env)
   standAt pos
   holding [v,ov,iv] (setItem ov iv v)
   release [v,ov,iv] []):=by intro _; rfl):PG X (.Subscript o i pos) (Zes to ti t):=by
 intro pins s σ H v u Q I r h
 rw [ha]
 refine wpAny_bind (wpAny_holding (thn (ho pins s σ H _ I h) λov s1 hz0=>?_))
 obtain ⟨x,H1,I1,r1,q1⟩:=hz0
 refine wpAny_bind (wpAny_holding (thn (hi pins s1 σ H1 _ I1 q1) λiv s2 hz0=>?_))
 obtain ⟨y,H2,I2,r2,q2⟩:=hz0
 refine wpAny_bind (wpAny_standAt (wpAny_bind (wpAny_holding (thn (hs pins s2 σ H2 x y v ov iv u _ I2 r1 r2 r q2) λ_ s3 hz0=>?_))))
 obtain ⟨H3,I3,q3⟩:=hz0
 exact wpAny_release ⟨σ,H3,I3,q3⟩
def fg (te:TE) (g:TG):TS:=λD σ H=>te σ H λx H1=>g x σ H1 D.nx
theorem dI {tg e:Expr} {te:TE} {g:TG} (he:PE X e te) (hg:PG X tg g) (hs:swapsWithSole [tg] e pos.line X.env=pure false:=by rfl) (hw:swappedStores [tg] e X.env=pure none:=by rfl)
  (h1:(assignEach [tg] X.env).map (·.2)=[assign tg X.env]:=by rfl):PS X (.Assign [tg] e pos) (fg te g):=by
 intro pins s σ H D I h
 refine wpAny_Assign_stores (thn (he pins s σ H _ I h) λv s1 hz0=>?_) hs hw
 obtain ⟨x,H1,I1,r1,q1⟩:=hz0
 rw [h1]
 exact thn (hg pins s1 σ H1 x v _ I1 r1 q1) λ_ s2 q=>q
theorem Zls {i:Nat} {x:Str} {e:Expr} {te:TE} {pos':Pos} (hN:X.N.Nodup) (hi:X.N[i]?=some x) (hx:jQ X.env.scope x) (he:PE X e te) (hs:swapsWith e (some (.Name x pos')) pos.line X.env=pure false:=by rfl) (hf:X.fn x=true\/X.env.scope.names.lookup x=some .local:=by first | exact .inl rfl | exact .inr rfl | assumption) :
  PS X (.Assign [.Name x pos'] e pos) (fg te (fq i)):=by
 intro pins s σ H D I h
 refine wpAny_Assign_Name (thn (he pins s σ H _ I h) λv s1 hz0=>?_) hs
 obtain ⟨y,H1,I1,r1,q1⟩:=hz0
 exact lQ I1 hN hi hx r1 (λs2 I2=>⟨_,H1,I2,q1⟩) hf
theorem aS {i:Nat} {x:Str} {e:Expr} {te:TE} {pos':Pos} (hN:X.N.Nodup) (he:PE X e te) (hi:X.N[i]?=some x:=by rfl) (hx:jQ X.env.scope x:=by first | exact Or.inl rfl | exact Or.inr rfl) (hs:swapsWith e (some (.Name x pos')) pos.line X.env=pure false:=by rfl) (hf:X.fn x=true\/X.env.scope.names.lookup x=some .local:=by first | exact .inl rfl | exact .inr rfl | assumption):PS X (.Assign [.Name x pos'] e pos) (fg te (fq i)):=Zls hN hi hx he hs hf
def Zax (i j:Nat) (ta:TA):TS:=λD σ H=>ta σ H λvs H1=>∃ v w,vs=[v,w]/\D.nx ((σ.set i (some v)).set j (some w)) H1
theorem oz {i j:Nat} {x y:Str} {a b:Expr} {ta:TA} {px py pt:Pos} {kt k2 pt2} (hc:X.calm=true) (hN:X.N.Nodup) (hi:X.N[i]?=some x) (hj:X.N[j]?=some y) (hij:i≠j)
  (hx:X.env.scope.names.lookup x=some .local) (hy:X.env.scope.names.lookup y=some .local) (ha:PA X [a,b] ta)
  (hw:swappedStores [.Tuple [.Name x px,.Name y py] kt pt] (.Tuple [a,b] k2 pt2) X.env=pure (some [x,y]))
  (hs:swapsWithSole [.Tuple [.Name x px,.Name y py] kt pt] (.Tuple [a,b] k2 pt2) pos.line X.env=pure false:=by rfl) :
  PS X (.Assign [.Tuple [.Name x px,.Name y py] kt pt] (.Tuple [a,b] k2 pt2) pos) (Zax i j ta):=by
 intro pins s σ H D I h
 rw [exec_Assign_arm]
 refine wpAny_bind (wpAny_standAt ?_)
 rw [hs]
 refine wpAny_bind (wpAny_pure ?_)
 rw [if_neg (by decide)]
 refine wpAny_bind (Tuple_ (thn (ha _ pins s σ H _ I h) λus s1 hz0=>?_))
 obtain ⟨vs,H1,I1,r1,q1⟩:=hz0
 obtain ⟨v,w,e1,q1⟩:=q1
 subst e1
 obtain ⟨u1,u2,rfl,rv,rw'⟩:∃ u1 u2,us=[u1,u2]/\RelV v u1/\RelV w u2:=by
  cases r1 with
  | cons p q =>
   cases q with
   | cons p' q' =>
    cases q'
    exact ⟨_,_,rfl,p,p'⟩
 refine wpAny_newObj_type ?_ (by show 2<=sizeLine; decide)
 have I2:Inv X pins σ H1 { s1 with heap:=s1.heap.push { cls:=.type "tuple",data:=.seq [u1,u2].toArray } }:=I1.kept (t':=s1.toks) λb o e=>v6 _ e
 rw [hw]
 refine wpAny_bind (wpAny_pure ?_)
 show wpAny (model X.prog X.w) X.A (do rule "assign.swapped-stores"; let items <- unpackItems (.ref s1.heap.objs.size) 2 none; assignInOrder [λv=>bindName X.env y v,λv=>bindName X.env x v] items.reverse; pure Flow.next) _ _ _
 refine wpAny_bind (wpAny_rule (wpAny_bind (unpackItems_tuple (items:=#[u1,u2]) (I.ok.hd hc) (IsTup.new s1.heap _) λh' hx'=>?_)))
 have I3:=I2.kept (h':=h') (t':=s1.toks) λb o e=>hx' b o (wz (wq e)) e
 show wpAny _ _ (assignInOrder [λv=>bindName X.env y v,λv=>bindName X.env x v] [u2,u1] >>= λ_=>pure Flow.next) _ _ _
 refine wpAny_bind (assignInOrder_cons (wpAny_bindName (lQ I3 hN hj (.inl hy) rw' (λs2 I4=>?_) (.inr hy))))
 refine assignInOrder_cons (wpAny_bindName (lQ I4 hN hi (.inl hx) rv (λs3 I5=>assignInOrder_nil (wpAny_pure ?_)) (.inr hx)))
 rw [List.set_comm _ _ (Ne.symm hij)] at I5
 exact ⟨_,H1,I5,q1⟩
def ZaD (i:Nat) (te:TE) (ti:lF):TS:=λD σ H=>∃ x,σ[i]?=some (some x)/\te σ H λy H1=>ti x y H1 λz H2=>D.nx (σ.set i (some z)) H2
theorem tD {i:Nat} {x:Str} {e:Expr} {te:TE} {op:Operator} {ti:lF} {pos':Pos} (hN:X.N.Nodup) (hi:X.N[i]?=some x) (hx:jQ X.env.scope x) (he:PE X e te) (ho:ny X op ti) (hf:X.fn x=true\/X.env.scope.names.lookup x=some .local:=by first | exact .inl rfl | exact .inr rfl | assumption) :
  PS X (.AugAssign (.Name x pos') op e pos) (ZaD i te ti):=by
 intro pins s σ H D I h
 obtain ⟨v,e1,h⟩:=h
 obtain ⟨m,hn,hl⟩:=I.loc
 have vis:qM X.env.scope x:=by rcases hx with k | k; exact .inl k; exact .inr (.inl k)
 obtain ⟨u,r,l⟩:=hl i x v hi e1 vis
 refine wpAny_AugAssign_Name ?_
 have go:wpAny (model X.prog X.w) X.A (eval e X.env) (λw s₂=>wpAny (model X.prog X.w) X.A (inplaceOp op u w) (λr s₃=>wpAny (model X.prog X.w) X.A (storeName X.env x r) (λ_=>SP X pins D .next) X.xe s₃) X.xe s₂) X.xe s:=by
  refine thn (he pins s σ H _ I h) λw s1 hz0=>?_
  obtain ⟨y,H1,I1,r1,q1⟩:=hz0
  refine thn (ho pins s1 σ H1 v y u w _ I1 r r1 q1) λz s2 hz0=>?_
  obtain ⟨zv,H2,I2,r2,q2⟩:=hz0
  exact lQ I2 hN hi hx r2 (λs3 I3=>⟨_,H2,I3,q2⟩) hf
 rcases l with ⟨hk,hm⟩ | ⟨hk,c,hc,hcell⟩
 ·exact wpAny_loadName_local I.ok.kind hk hn hm go
 ·rcases hk with hk | hk
  ·exact wpAny_loadName_cell I.ok.kind hk hc hcell go
  ·rcases hx with k | k
   ·have:X.env.scope.names.lookup x=some .free:=hk
    rw [k] at this; cases this
   ·have:X.env.scope.names.lookup x=some .free:=hk
    rw [k] at this; cases this
def ZaC (to ti te:TE) (tget:V->V->Hp->VK->Prop) (tip:lF) (tset:nv):TS:=λD σ H=>to σ H λo H1=>ti σ H1 λi H2=>tget o i H2 λx H3=>te σ H3 λy H4=>tip x y H4 λz H5=>tset o i z H5 λH6=>D.nx σ H6
noncomputable def Zi8 (X:Cx) (t:V->V->Hp->VK->Prop):Prop :=
 ∀ (pins:List (Addr×Obj)) (s:Shared) (σ:St) (H:Hp) (o i:V) (ov iv:Value) (Q:VK),Inv X pins σ H s->RelV o ov->RelV i iv->t o i H Q ->
  wpAny (model X.prog X.w) X.A (getItem ov iv) (EP X pins σ Q) X.xe s
theorem ZcB {o i e:Expr} {to ti te:TE} {tget:V->V->Hp->VK->Prop} {tip:lF} {tset:nv} {op:Operator} {tpos:Pos} (ho:PE X o to) (hi:PE X i ti) (hg:Zi8 X tget) (he:PE X e te) (hp:ny X op tip) (hs:vX X tset)
  (ha:∀ ov iv new,augStore i ov iv new=(do holding [new,ov,iv] (setItem ov iv new); release [new,ov,iv] []; pure .next):=by intros; rfl):PS X (.AugAssign (.Subscript o i tpos) op e pos) (ZaC to ti te tget tip tset):=by
 intro pins s σ H D I h
 refine wpAny_AugAssign_SubscriptAny (thn (ho pins s σ H _ I h) λov s1 hz0=>?_) ha
 obtain ⟨x1,H1,I1,r1,q1⟩:=hz0
 refine thn (hi pins s1 σ H1 _ I1 q1) λiv s2 hz0=>?_
 obtain ⟨x2,H2,I2,r2,q2⟩:=hz0
 refine thn (hg pins s2 σ H2 x1 x2 ov iv _ I2 r1 r2 q2) λold s3 hz0=>?_
 obtain ⟨x3,H3,I3,r3,q3⟩:=hz0
 refine thn (he pins s3 σ H3 _ I3 q3) λv s4 hz0=>?_
 obtain ⟨x4,H4,I4,r4,q4⟩:=hz0
 refine thn (hp pins s4 σ H4 x3 x4 old v _ I4 r3 r4 q4) λnew s5 hz0=>?_
 obtain ⟨x5,H5,I5,r5,q5⟩:=hz0
 exact thn (hs pins s5 σ H5 x1 x2 x5 ov iv new _ I5 r1 r2 r5 q5) λ_ s6 hz0=>by
  obtain ⟨H6,I6,q6⟩:=hz0
  exact ⟨σ,H6,I6,q6⟩
noncomputable def uu (f:Int->Int->Int):lF:=λx y H Q=>∃ i j,x=.int i/\y=.int j/\Q (.int (f i j)) H
theorem Znx:ny X .Add (uu λi j=>i+j):=by
 intro pins s σ H x y v u Q I r1 r2 h
 obtain ⟨i,j,e1,e2,q⟩:=h
 subst e1; subst e2
 obtain ⟨t,rfl⟩:=r1
 obtain ⟨t',rfl⟩:=r2
 exact iadd_int ⟨.int _,H,I.tok _,⟨_,rfl⟩,q⟩
theorem Znw:ny X .Sub (uu λi j=>i - j):=by
 intro pins s σ H x y v u Q I r1 r2 h
 obtain ⟨i,j,e1,e2,q⟩:=h
 subst e1; subst e2
 obtain ⟨t,rfl⟩:=r1
 obtain ⟨t',rfl⟩:=r2
 exact isub_int ⟨.int _,H,I.tok _,⟨_,rfl⟩,q⟩
end
section
variable {X:Cx} {pos:Pos}
def ZjM (c:TT) (tb:TS):TS:=λD σ H=>∃ W:Nat->St->Hp->Prop,(∃ m,W m σ H)/\∀ m σ H,W m σ H ->
 c σ H λb H1=>if b=true then ∃ N:St->Hp->Prop,(∀ σ' H',N σ' H'->∃ m',m' < m/\W m' σ' H')/\tb { D with nx:=N,ct:=N,bk:=D.nx } σ H1 else D.nx σ H1
theorem Zlr {c:Expr} {body:List Stmt} {tc:TT} {tb:TS} (hp:PassesOwn (model X.prog X.w) X.A X.env X.xe) (hc:PT X c tc) (hb:PSs X body tb):PS X (.While c body [] pos) (ZjM tc tb):=by
 intro pins s σ H D I h
 obtain ⟨W,⟨m0,w0⟩,turn⟩:=h
 refine wpAny_While (codeAny_whileLoop (λn s'=>∃ σ' H',Inv X pins σ' H' s'/\W n σ' H') ?_ m0 ⟨σ,H,I,w0⟩)
 rintro n s1 ⟨σ1,H1,I1,w1⟩
 refine wpAny_passesOwn hp (thn (hc pins s1 σ1 H1 _ I1 (turn n σ1 H1 w1)) λb s2 hz0=>?_)
 obtain ⟨H2,I2,q2⟩:=hz0
 cases b with
 | true =>
  obtain ⟨N,hN,q2⟩:=q2
  rw [if_pos rfl]
  refine wpAny_passesOwn hp (thn (hb pins s2 σ1 H2 _ I2 q2) λf s3 q3=>?_)
  cases f with
  | next =>
   obtain ⟨σ3,H3,I3,n3⟩:=q3
   obtain ⟨m',hm,w3⟩:=hN σ3 H3 n3
   exact ⟨m',hm,σ3,H3,I3,w3⟩
  | cont =>
   obtain ⟨σ3,H3,I3,n3⟩:=q3
   obtain ⟨m',hm,w3⟩:=hN σ3 H3 n3
   exact ⟨m',hm,σ3,H3,I3,w3⟩
  | brk=>exact q3
  | ret v=>exact q3
 | false =>
  rw [if_neg wn]
  exact wpAny_execs_nil ⟨σ1,H2,I2,q2⟩
end
structure It where
 go:Nat->Hp->Prop
 yld:Nat->Hp->V->Hp->Prop
 stop:Nat->Hp->Prop
noncomputable def gg (X:Cx) (pins:List (Addr×Obj)) (H:Hp) (b:Addr):Prop :=
 H b=none/\b≠X.env.locals/\b ∉ X.fs/\(b∈X.ex\/X.s₀.heap.objs.size<=b)/\(∀ x c,X.env.cells.lookup x=some c->c≠b)/\∀ p∈X.pn++pins,p.1≠b
theorem Inv.fpOk {X:Cx} {pins:List (Addr×Obj)} {σ:St} {H H':Hp} {s:Shared} {b:Addr} (I:Inv X pins σ H s) (hb:s.heap.objs.size<=b) (hn:H' b=none):gg X pins H' b:=by
 refine ⟨hn,xb (wk I.lt hb),I.nofs hb,.inr (ww I.sz hb),λx c e z=>?_,λp hp z=>?_⟩
 ·obtain ⟨v,q⟩:=I.cell x c e
  exact absurd (wk q.lt (by rw [z]; exact hb)) (wH _)
 ·exact absurd (wk (wq (I.pin p hp).1) (by rw [z]; exact hb)) (wH _)
structure Turn (P:Program) (w:World) (K:zZ) (tg:Expr) (J:It) (fp:List Addr) (it:Addr) (tn:Nat->Heap->Prop):Prop where
 mem:it∈fp
 obj:∀ i h,tn i h->∀ b∈fp,∃ o,h.get? b=some o/\∀ v,o.data≠.cell v
 keep:∀ i h h',tn i h->(∀ b∈fp,∀ o,h.get? b=some o->h'.get? b=some o)->tn i h'
 item:∀ (X:Cx),X.prog=P->X.w=w->X.K=K->X.calm=true->∀ (i:Nat) (pins:List (Addr×Obj)) (s:Shared) (σ:St) (H:Hp) (E:Ah),Inv X pins σ H s->(∀ b∈fp,gg X pins H b)->tn i s.heap->J.go i H ->
  wpAny (model P w) X.A (pyNext (.ref it)) (λr s1=>∃ u,r=some u /\
   wpAny (model P w) X.A (letOwnedTupleGo tg (.ref it) u) (λ_ s2=>∃ x H',Inv X pins σ H' s2/\RelV x u/\J.yld i H x H'/\tn (i+1) s2.heap/\∀ b∈fp,H' b=none) E s1) E s
 done:∀ (X:Cx),X.prog=P->X.w=w->X.K=K->X.calm=true->∀ (i:Nat) (pins:List (Addr×Obj)) (s:Shared) (σ:St) (H:Hp) (E:Ah),Inv X pins σ H s->(∀ b∈fp,gg X pins H b)->tn i s.heap->J.stop i H ->
  wpAny (model P w) X.A (pyNext (.ref it)) (λr s1=>r=none/\Inv X pins σ H s1) E s
 self:∀ (A:Around) (i:Nat) (s:Shared) (Q:Ah) (E:Ah),tn i s.heap->Q (.ref it) s->wpAny (model P w) A (pyIter (.ref it)) Q E s
noncomputable abbrev TI:=St->Hp->(It->Hp->Prop)->Prop
noncomputable def qR (X:Cx) (pins:List (Addr×Obj)) (σ:St) (tg:Expr) (R:It->Hp->Prop) (itv:Value) (s2:Shared):Prop :=
 ∃ (it:Addr) (fp:List Addr) (tn:Nat->Heap->Prop) (J:It) (H':Hp),itv=.ref it/\Inv X pins σ H' s2/\Turn X.prog X.w X.K tg J fp it tn/\tn 0 s2.heap/\(∀ b∈fp,gg X pins H' b)/\R J H'
noncomputable def PI (X:Cx) (tg iter:Expr) (wi:TI):Prop :=
 ∀ (pins:List (Addr×Obj)) (s:Shared) (σ:St) (H:Hp) (R:It->Hp->Prop),Inv X pins σ H s->wi σ H R ->
  wpAny (model X.prog X.w) X.A (eval iter X.env) (λv s1=>wpAny (model X.prog X.w) X.A (pyIter v) (qR X pins σ tg R) X.xe s1) X.xe s
theorem mR {M:Model} {A:Around} {E:Ah} {s:Shared} {tg:Expr} {it:Addr} {u:Value} {o:Obj} {n:String} {vs:Array Value} {Q:Unit->Shared->Prop} (ho:s.heap.get? it=some o) (hc:o.cls=.type n) (hd:o.data=.fields vs)
  (hn:["enumerate","zip","dict_itemiterator","dict_reverseitemiterator","odict_iterator","itertools.zip_longest","itertools.pairwise"].contains n=false) (hQ:Q () s):wpAny M A (letOwnedTupleGo tg (.ref it) u) Q E s:=by
 unfold letOwnedTupleGo
 cases tg <;> first
  | exact wpAny_pure hQ
  | (cases u <;> first
    | exact wpAny_pure hQ
    | (refine wpAny_bind (wpAny_load ho ?_)
       rw [hc,hd]
       show wpAny M A (if (["enumerate","zip","dict_itemiterator","dict_reverseitemiterator","odict_iterator","itertools.zip_longest","itertools.pairwise"].contains n && vs[0]? == some (rawInt _))=true then _ else _) Q E s
       rw [if_neg (by intro h; rw [hn,xR] at h; cases h)]
       exact wpAny_pure hQ))
noncomputable def v3 (K:zZ) (a:Addr):It :=
 ⟨λi H=>∃ xs x,SqL K H a xs/\xs[i]?=some x,λi H x H'=>H'=H/\∀ xs,SqL K H a xs->xs[i]?=some x,λi H=>∃ xs,SqL K H a xs/\xs.length<=i⟩
noncomputable def vZ (K:zZ) (a:Addr):It :=
 ⟨λi H=>∃ xs x,SqT K H a xs/\xs[i]?=some x,λi H x H'=>H'=H/\∀ xs,SqT K H a xs->xs[i]?=some x,λi H=>∃ xs,SqT K H a xs/\xs.length<=i⟩
noncomputable def jS (lo:Int) (n:Nat):It:=⟨λi _=>i < n,λi H x H'=>H'=H/\x=.int (lo+i),λi _=>n<=i⟩
theorem ZjD {P:Program} {w:World} {K:zZ} {tg:Expr} (a it:Addr):Turn P w K tg (v3 K a) [it] it (λi h=>h.IsListIter it a i) where
 mem:=by simp
 obj:=λi h st b hb=>by
  have e:b=it:=by simpa using hb
  subst e
  obtain ⟨o,e,c,d⟩:=st
  exact ⟨o,e,λv z=>by rw [d] at z; cases z⟩
 keep:=λi h h' st k=>st.at λo e=>k it (by simp) o e
 item:=by
  intro X hP hw hK hc i pins s σ H E I hf st hg
  subst hP hw hK
  obtain ⟨xs,x,hq,hx⟩:=hg
  obtain ⟨its,rv,p,hz⟩:=I.list hq
  obtain ⟨u,hu,ru⟩:=rv.get hx
  obtain ⟨f0,f1,f2,f3,f4,f5⟩:=hf it (by simp)
  refine wpAny_pyNext_list_item st p.isList (x:=u) (by simpa using hu) λh' st' sb=>?_
  have I1:Inv X pins σ H { s with heap:=h' }:=I.turned (t':=s.toks) (λb o hb e=>(sb.2 b hb).trans e) f0 f1 f3 f4 f5
  obtain ⟨o,e,c,d⟩:=id st'
  exact ⟨u,rfl,mR (s:={ s with heap:=h' }) e c d (by decide) ⟨x,H,I1,ru,⟨rfl,λys hy=>by rw [I.list_inj hy hq]; exact hx⟩,st',λb hb=>(hf b hb).1⟩⟩
 done:=by
  intro X hP hw hK hc i pins s σ H E I hf st hg
  subst hP hw hK
  obtain ⟨xs,hq,hx⟩:=hg
  obtain ⟨its,rv,p,hz⟩:=I.list hq
  obtain ⟨f0,f1,f2,f3,f4,f5⟩:=hf it (by simp)
  have hl:=rv.length
  exact wpAny_pyNext_list_end (I.ok.hd hc) st p.isList (by simp; omega) λh' eb=>⟨rfl,I.turned (t':=s.toks) (λb o hb e=>eb b o hb e) f0 f1 f3 f4 f5⟩
 self:=λ_ _ _ _ _ st h=>wpAny_pyIter_listiter st h
theorem ZjA {P:Program} {w:World} {K:zZ} {tg:Expr} (a it:Addr):Turn P w K tg (vZ K a) [it] it (λi h=>h.IsTupleIter it a i) where
 mem:=by simp
 obj:=λi h st b hb=>by
  have e:b=it:=by simpa using hb
  subst e
  obtain ⟨o,e,c,d⟩:=st
  exact ⟨o,e,λv z=>by rw [d] at z; cases z⟩
 keep:=λi h h' st k=>st.at λo e=>k it (by simp) o e
 item:=by
  intro X hP hw hK hc i pins s σ H E I hf st hg
  subst hP hw hK
  obtain ⟨xs,x,hq,hx⟩:=hg
  obtain ⟨its,rv,p,hz⟩:=I.tuple hq
  obtain ⟨u,hu,ru⟩:=rv.get hx
  obtain ⟨f0,f1,f2,f3,f4,f5⟩:=hf it (by simp)
  refine wpAny_pyNext_tuple_item st (show s.heap.IsTuple a its.toArray from p) (x:=u) (by simpa using hu) λh' st' sb=>?_
  have I1:Inv X pins σ H { s with heap:=h' }:=I.turned (t':=s.toks) (λb o hb e=>(sb.2 b hb).trans e) f0 f1 f3 f4 f5
  obtain ⟨o,e,c,d⟩:=id st'
  exact ⟨u,rfl,mR (s:={ s with heap:=h' }) e c d (by decide) ⟨x,H,I1,ru,⟨rfl,λys hy=>by rw [I.tuple_inj hy hq]; exact hx⟩,st',λb hb=>(hf b hb).1⟩⟩
 done:=by
  intro X hP hw hK hc i pins s σ H E I hf st hg
  subst hP hw hK
  obtain ⟨xs,hq,hx⟩:=hg
  obtain ⟨its,rv,p,hz⟩:=I.tuple hq
  obtain ⟨f0,f1,f2,f3,f4,f5⟩:=hf it (by simp)
  have hl:=rv.length
  exact wpAny_pyNext_tuple_end (I.ok.hd hc) st (show s.heap.IsTuple a its.toArray from p) (by simp; omega) λh' eb=>⟨rfl,I.turned (t':=s.toks) (λb o hb e=>eb b o hb e) f0 f1 f3 f4 f5⟩
 self:=λ_ _ _ _ _ st h=>wpAny_pyIter_tupleiter st h
theorem ZjC {P:Program} {w:World} {K:zZ} {tg:Expr} (it:Addr) (lo:Int) (n:Nat):Turn P w K tg (jS lo n) [it] it (λi h=>IsRangeIter h it (lo+(i:Nat) * 1) ((n:Int) - (i:Nat)) 1) where
 mem:=by simp
 obj:=λi h st b hb=>by
  have e:b=it:=by simpa using hb
  subst e
  exact ⟨_,st,λv z=>by
   have z':Data.fields _=Data.cell v:=z
   cases z'⟩
 keep:=λi h h' st k=>k it (by simp) _ st
 item:=by
  intro X hP hw hK hc i pins s σ H E I hf st hg
  subst hP hw hK
  obtain ⟨f0,f1,f2,f3,f4,f5⟩:=hf it (by simp)
  have W:=Walks.range (prog:=X.prog) (w:=X.w) (I.ok.hd hc) it lo 1 n
  refine W.item i s _ _ hg st λv h' tk hv st' kk=>?_
  obtain ⟨t,rfl⟩:=hv
  have I1:Inv X pins σ H { s with heap:=h',toks:=tk }:=I.turned (λb o hb e=>kk b o (by simpa using hb) e) f0 f1 f3 f4 f5
  refine ⟨_,rfl,mR (s:={ s with heap:=h',toks:=tk }) (n:="range_iterator") st' rfl rfl (by decide) ⟨.int (lo+i),H,I1,⟨t,?_⟩,⟨rfl,rfl⟩,st',λb hb=>(hf b hb).1⟩⟩
  rw [yK]
 done:=by
  intro X hP hw hK hc i pins s σ H E I hf st hg
  subst hP hw hK
  obtain ⟨f0,f1,f2,f3,f4,f5⟩:=hf it (by simp)
  exact wpAny_pyNext_range_end (I.ok.hd hc) st (by have:n<=i:=hg; omega) λh' eb=>⟨rfl,I.turned (t':=s.toks) (λb o hb e=>eb b o hb e) f0 f1 f3 f4 f5⟩
 self:=λ_ _ _ _ _ st h=>wpAny_pyIter_rangeiter st h
section
variable {X:Cx} {tg:Expr}
theorem Zb9 {pins:List (Addr×Obj)} {σ:St} {H:Hp} {s:Shared} {R:It->Hp->Prop} {E:Ah} {lo hi:Int} {t u v:Tok} {tk:Nat} (I:Inv X pins σ H s) (h1:-(2 ^ 62)<=lo) (h2:lo < 2 ^ 62) (h3:-(2 ^ 62)<=hi) (h4:hi < 2 ^ 62)
  (q:R (jS lo (hi - lo).toNat) H):wpAny (model X.prog X.w) X.A (pyIter (.ref s.heap.objs.size)) (qR X pins σ tg R) E { s with heap:=s.heap.push { cls:=.type "range",data:=.fields #[.int lo t,.int hi u,.int 1 v] },toks:=tk }:=by
 refine wpAny_pyIter_range (IsRange.new ..) (small_one h1 h2 h3 h4) ?_
 have I1:Inv X pins σ H { s with heap:=s.heap.push { cls:=.type "range",data:=.fields #[.int lo t,.int hi u,.int 1 v] },toks:=tk }:=I.kept λb o e=>v6 _ e
 refine ⟨(s.heap.push { cls:=.type "range",data:=.fields #[.int lo t,.int hi u,.int 1 v] }).objs.size,[(s.heap.push { cls:=.type "range",data:=.fields #[.int lo t,.int hi u,.int 1 v] }).objs.size],_,_,H,rfl,
  I1.kept (t':=tk) λb o e=>v6 _ e,ZjC _ lo (hi - lo).toNat,?_,λb hb=>?_,q⟩
 ·have e1:lo+((0:Nat):Int) * 1=lo:=by simp
  have e2:(((hi - lo).toNat:Nat):Int) - ((0:Nat):Int)=Builtin.Range.rangeSize lo hi 1:=by rw [rangeSize_one]; split <;> omega
  show IsRangeIter _ _ (lo+((0:Nat):Int) * 1) ((((hi - lo).toNat:Nat):Int) - ((0:Nat):Int)) 1
  rw [e1,e2]
  exact wc _ rfl
 ·have e:b=(s.heap.push { cls:=.type "range",data:=.fields #[.int lo t,.int hi u,.int 1 v] }).objs.size:=by simpa using hb
  subst e
  exact I1.fpOk (wa _) (I1.hok.fresh (wa _))
def Zei (ta:TA):TI:=λσ H R=>ta σ H λvs H1=>∃ j:Int,vs=[.int j]/\-(2 ^ 62)<=j/\j < 2 ^ 62/\R (jS 0 j.toNat) H1
def Zeh (ta:TA):TI:=λσ H R=>ta σ H λvs H1=>∃ i j:Int,vs=[.int i,.int j]/\(-(2 ^ 62)<=i/\i < 2 ^ 62/\-(2 ^ 62)<=j/\j < 2 ^ 62)/\R (jS i (j - i).toNat) H1
theorem gX {a:Expr} {ta:TA} {p pos:Pos} (hg:Gl X "range") (hm:X.mg "range"=none) (ha:PA X [a] ta) (hs:starEach [a] X.env=[(false,eval a X.env)]:=by rfl):PI X tg (.Call (.Name "range" p) [a] [] pos) (Zei ta):=by
 intro pins s σ H R I h
 refine Call_ (iS I hg hm boot_range (xk (thn (ha pos pins s σ H _ I h) λus s1 hz0=>?_) hs rfl))
 obtain ⟨vs,H1,I1,r1,q1⟩:=hz0
 obtain ⟨j,e,q1,q2,q⟩:=q1
 subst e
 cases r1 with
 | cons r rr =>
  cases rr
  obtain ⟨t,rfl⟩:=r
  exact call_range_1 (Zb9 I1 (by omega) (by omega) q1 q2 (by simpa using q))
theorem tJ {a b:Expr} {ta:TA} {p pos:Pos} (hg:Gl X "range") (hm:X.mg "range"=none) (ha:PA X [a,b] ta) (hs:starEach [a,b] X.env=[(false,eval a X.env),(false,eval b X.env)]:=by rfl) (hs2:starEach [b] X.env=[(false,eval b X.env)]:=by rfl) :
  PI X tg (.Call (.Name "range" p) [a,b] [] pos) (Zeh ta):=by
 intro pins s σ H R I h
 refine Call_ (iS I hg hm boot_range (xk (thn (ha pos pins s σ H _ I h) λus s1 hz0=>?_) (by rw [hs,hs2]) (by rw [hs2]; rfl)))
 obtain ⟨vs,H1,I1,r1,q1⟩:=hz0
 obtain ⟨i,j,e,⟨q1,q2,q3,q4⟩,q⟩:=q1
 subst e
 cases r1 with
 | cons r rr =>
  cases rr with
  | cons r' rr =>
   cases rr
   obtain ⟨t,rfl⟩:=r
   obtain ⟨t',rfl⟩:=r'
   exact call_range_2 (Zb9 I1 q1 q2 q3 q4 q)
def Zj5 (wi:TI) (g:TG) (tb:TS):TS:=λD σ H=>wi σ H λJ H1=>∃ W:Nat->Nat->St->Hp->Prop,(∃ m,W 0 m σ H1)/\∀ i m σ H,W i m σ H ->
 (J.stop i H/\D.nx σ H)\/(J.go i H/\∃ N:St->Hp->Prop,(∀ σ' H',N σ' H'->∃ m',m' < m/\W (i+1) m' σ' H')/\∀ x H',J.yld i H x H'->g x σ H' λσ2 H2=>tb { D with nx:=N,ct:=N,bk:=D.nx } σ2 H2)
noncomputable def oB (fp:List Addr) (h:Heap):List (Addr×Obj):=fp.filterMap λb=>(h.get? b).map λo=>(b,o)
theorem iN {fp:List Addr} {h:Heap} {b:Addr} {o:Obj} (hb:b∈fp) (e:h.get? b=some o):(b,o)∈oB fp h:=List.mem_filterMap.mpr ⟨b,hb,by rw [e]; rfl⟩
theorem Zmj {fp:List Addr} {h:Heap} {p:Addr×Obj} (hp:p∈oB fp h):p.1∈fp/\h.get? p.1=some p.2:=by
 obtain ⟨b,hb,e⟩:=List.mem_filterMap.mp hp
 cases q:h.get? b with
 | none=>rw [q] at e; cases e
 | some o =>
  rw [q] at e
  have e':(b,o)=p:=wJ e
  subst e'
  exact ⟨hb,q⟩
theorem Inv.pinned {pins:List (Addr×Obj)} {σ:St} {H:Hp} {s:Shared} {fp:List Addr} (I:Inv X pins σ H s) (hf:∀ b∈fp,gg X pins H b) (ho:∀ b∈fp,∃ o,s.heap.get? b=some o/\∀ v,o.data≠.cell v):Inv X (pins++oB fp s.heap) σ H s :=
 I.pins_of λp hp=>(xT.mp hp).elim (λz=>I.pin p (wo _ z)) λz=>by
  obtain ⟨hb,e⟩:=Zmj z
  obtain ⟨f0,f1,f2,_⟩:=hf p.1 hb
  obtain ⟨o,e',d⟩:=ho p.1 hb
  rw [e] at e'; cases e'
  exact ⟨e,f0,f1,f2,d⟩
theorem Inv.unpinned {pins pl:List (Addr×Obj)} {σ:St} {H:Hp} {s:Shared} (I:Inv X (pins++pl) σ H s):Inv X pins σ H s:=I.pins_of λp hp=>I.pin p (wo _ (x8 _ hp))
theorem Zlt {iter:Expr} {body:List Stmt} {wi:TI} {g:TG} {tb:TS} {pos:Pos} (hp:PassesOwn (model X.prog X.w) X.A X.env X.xe) (hc:X.calm=true) (hi:PI X tg iter wi) (hg:PG X tg g) (hb:PSs X body tb)
  (hs:∀ x,foldedSetIterable iter X.env x=pure x:=by intro _; rfl):PS X (.For tg iter body [] pos) (Zj5 wi g tb):=by
 intro pins s σ H D I h
 refine wpAny_For (thn (hi pins s σ H _ I h) λv s1 h1=>thn h1 λitv s2 h2=>?_) hs
 obtain ⟨it,fp,tn,J,H2,e,I2,T,st2,f2,W,⟨m0,w0⟩,turn⟩:=h2
 subst e
 -- what stays true of the iterator's objects through the loop
 have stat:∀ {H':Hp},(∀ b∈fp,H' b=none)->∀ b∈fp,gg X pins H' b:=λhn b hb=>⟨hn b hb,(f2 b hb).2⟩
 refine codeAny_forLoop_any (λn s'=>∃ i σ' H',Inv X pins σ' H' s'/\tn i s'.heap/\(∀ b∈fp,H' b=none)/\W i n σ' H') ?_ m0 ⟨0,σ,H2,I2,st2,λb hb=>(f2 b hb).1,w0⟩
 rintro n s3 ⟨i,σ3,H3,I3,st3,fr3,w3⟩
 rcases turn i n σ3 H3 w3 with ⟨stop,qn⟩ | ⟨go,N,hN,step⟩
 ·refine wpAny_passesOwn hp (thn (T.done X rfl rfl rfl hc i pins s3 σ3 H3 X.xe I3 (stat fr3) st3 stop) λr s4 hz0=>?_)
  obtain ⟨hr,I4⟩:=hz0
  subst hr
  exact wpAny_execs_nil ⟨σ3,H3,I4,qn⟩
 ·refine wpAny_passesOwn hp (thn (T.item X rfl rfl rfl hc i pins s3 σ3 H3 X.xe I3 (stat fr3) st3 go) λr s4 hz0=>?_)
  obtain ⟨u,hr,h4⟩:=hz0
  subst hr
  refine wpAny_passesOwn hp (thn h4 λ_ s5 hz0=>?_)
  obtain ⟨x,H5,I5,r5,y5,st5,fr5⟩:=hz0
  have I5':=I5.pinned (stat fr5) (T.obj _ _ st5)
  refine wpAny_passesOwn hp (thn (hg _ s5 σ3 H5 x u _ I5' r5 (step x H5 y5)) λ_ s6 hz0=>?_)
  obtain ⟨σ6,H6,I6,q6⟩:=hz0
  refine wpAny_passesOwn hp (thn (hb _ s6 σ6 H6 _ I6 q6) λf s7 q7=>?_)
  have again:∀ {σ7:St} {H7:Hp},Inv X (pins++oB fp s5.heap) σ7 H7 s7->N σ7 H7->∃ m,m < n/\∃ i σ' H',Inv X pins σ' H' s7/\tn i s7.heap/\(∀ b∈fp,H' b=none)/\W i m σ' H':=λ{σ7 H7} I7 n7=>by
   obtain ⟨m',hm,w7⟩:=hN σ7 H7 n7
   refine ⟨m',hm,i+1,σ7,H7,I7.unpinned,T.keep _ _ _ st5 λb hb o e=>(I7.pin (b,o) (wo _ (wo _ (iN hb e)))).1,λb hb=>?_,w7⟩
   obtain ⟨o,e,d⟩:=T.obj _ _ st5 b hb
   exact (I7.pin (b,o) (wo _ (wo _ (iN hb e)))).2.1
  cases f with
  | next=>obtain ⟨σ7,H7,I7,n7⟩:=q7; exact again I7 n7
  | cont=>obtain ⟨σ7,H7,I7,n7⟩:=q7; exact again I7 n7
  | brk=>obtain ⟨σ7,H7,I7,q7⟩:=q7; exact ⟨σ7,H7,I7.unpinned,q7⟩
  | ret v=>obtain ⟨x7,σ7,H7,I7,r7,q7⟩:=q7; exact ⟨x7,σ7,H7,I7.unpinned,r7,q7⟩
end
noncomputable abbrev R2:=V->V->Hp->VK->Prop
noncomputable def OpR (X:Cx) (f:Value->Value->Sem Value) (r:R2):Prop :=
 ∀ (pins:List (Addr×Obj)) (s:Shared) (σ:St) (H:Hp) (x y:V) (v u:Value) (Q:VK),Inv X pins σ H s->RelV x v->RelV y u->r x y H Q ->
  wpAny (model X.prog X.w) X.A (f v u) (EP X pins σ Q) X.xe s
noncomputable def vT (X:Cx) (f:Value->Sem Value) (r:V->Hp->VK->Prop):Prop :=
 ∀ (pins:List (Addr×Obj)) (s:Shared) (σ:St) (H:Hp) (x:V) (v:Value) (Q:VK),Inv X pins σ H s->RelV x v->r x H Q ->
  wpAny (model X.prog X.w) X.A (f v) (EP X pins σ Q) X.xe s
noncomputable def dM (X:Cx) (f:Value) (r:List V->Hp->VK->Prop):Prop :=
 ∀ (pins:List (Addr×Obj)) (s:Shared) (σ:St) (H:Hp) (xs:An) (us:Ak) (Q:VK),Inv X pins σ H s->Vals xs us->r xs H Q ->
  wpAny (model X.prog X.w) X.A (call f us) (EP X pins σ Q) X.xe s
noncomputable def ZqJ (X:Cx) (r:V->Hp->(Bool->Hp->Prop)->Prop):Prop :=
 ∀ (pins:List (Addr×Obj)) (s:Shared) (σ:St) (H:Hp) (x:V) (v:Value) (Q:Bool->Hp->Prop),Inv X pins σ H s->RelV x v->r x H Q ->
  wpAny (model X.prog X.w) X.A (truthy v) (TP X pins σ Q) X.xe s
def jm (r:R2) (ta tb:TE):TE:=λσ H Q=>ta σ H λx H1=>tb σ H1 λy H2=>r x y H2 Q
def tUn (r:V->Hp->VK->Prop) (ta:TE):TE:=λσ H Q=>ta σ H λx H1=>r x H1 Q
noncomputable def rI (C:Int->Int->Prop) (g:Int->Int->V):R2:=λx y H Q=>∃ i j,x=.int i/\y=.int j/\C i j/\Q (g i j) H
noncomputable def eQ (g:Int->Int->V):R2:=λx y H Q=>∃ i j,x=.int i/\y=.int j/\Q (g i j) H
noncomputable def rU (g:Int->V):V->Hp->VK->Prop:=λx H Q=>∃ i,x=.int i/\Q (g i) H
section
variable {X:Cx} {a b c:Expr} {ta tb tc:TE} {pos:Pos}
theorem vc (ha:PE X a ta) (hb:PE X b tb) {pins:List (Addr×Obj)} {s:Shared} {σ:St} {H:Hp} {R:V->V->Hp->Prop} (I:Inv X pins σ H s)
  (h:ta σ H λx H1=>tb σ H1 λy H2=>R x y H2) {Q:Ah} {f:Value->Value->Sem Value}
  (hf:∀ v u s2 x y H2,Inv X pins σ H2 s2->RelV x v->RelV y u->R x y H2->wpAny (model X.prog X.w) X.A (f v u) Q X.xe s2) :
  wpAny (model X.prog X.w) X.A (eval a X.env) (λv s₁=>wpAny (model X.prog X.w) X.A (eval b X.env) (λu s₂=>wpAny (model X.prog X.w) X.A (f v u) Q X.xe s₂) X.xe s₁) X.xe s:=by
 refine thn (ha pins s σ H _ I h) λv s1 hz0=>?_
 obtain ⟨x,H1,I1,r1,q1⟩:=hz0
 refine thn (hb pins s1 σ H1 _ I1 q1) λu s2 hz0=>?_
 obtain ⟨y,H2,I2,r2,q2⟩:=hz0
 exact hf v u s2 x y H2 I2 r1 r2 q2
theorem cz {op:Operator} {r:R2} (ho:OpR X (binaryOp op) r) (ha:PE X a ta) (hb:PE X b tb):PE X (.BinOp a op b pos) (jm r ta tb):=by
 intro pins s σ H Q I h
 exact wpAny_BinOp (vc ha hb I h λv u s2 x y H2 I2 rx ry q=>ho pins s2 σ H2 x y v u Q I2 rx ry q)
theorem ZlI {op:UnaryOp} {r:V->Hp->VK->Prop} (ho:vT X (unaryOp op) r) (ha:PE X a ta):PE X (.UnaryOp op a pos) (tUn r ta):=by
 intro pins s σ H Q I h
 exact UnaryOp_ (thn (ha pins s σ H _ I h) λv s1 ⟨x,H1,I1,r1,q1⟩=>ho pins s1 σ H1 x v Q I1 r1 q1)
theorem iH {f:Value->Value->Sem Value} {C:Int->Int->Prop} {g:Int->Int->Int}
  (rule:∀ (i j:Int) (t u:Tok) (s:Shared) (Q:Ah) (E:Ah),C i j->Q (.int (g i j) s.toks) { s with toks:=s.toks+1 }->wpAny (model X.prog X.w) X.A (f (.int i t) (.int j u)) Q E s) :
  OpR X f (rI C λi j=>.int (g i j)):=by
 intro pins s σ H x y v u Q I rx ry h
 obtain ⟨i,j,rfl,rfl,hc,q⟩:=h
 obtain ⟨t,rfl⟩:=rx
 obtain ⟨t',rfl⟩:=ry
 exact rule i j t t' s _ _ hc ⟨.int (g i j),H,I.tok _,⟨_,rfl⟩,q⟩
theorem oQ {f:Value->Value->Sem Value} {g:Int->Int->Int}
  (rule:∀ (i j:Int) (t u:Tok) (s:Shared) (Q:Ah) (E:Ah),Q (.int (g i j) s.toks) { s with toks:=s.toks+1 }->wpAny (model X.prog X.w) X.A (f (.int i t) (.int j u)) Q E s) :
  OpR X f (eQ λi j=>.int (g i j)):=by
 intro pins s σ H x y v u Q I rx ry h
 obtain ⟨i,j,rfl,rfl,q⟩:=h
 obtain ⟨t,rfl⟩:=rx
 obtain ⟨t',rfl⟩:=ry
 exact rule i j t t' s _ _ ⟨.int (g i j),H,I.tok _,⟨_,rfl⟩,q⟩
theorem oR {f:Value->Value->Sem Value} {g:Int->Int->Bool}
  (rule:∀ (i j:Int) (t u:Tok) (s:Shared) (Q:Ah) (E:Ah),Q (.bool (g i j)) s->wpAny (model X.prog X.w) X.A (f (.int i t) (.int j u)) Q E s) :
  OpR X f (eQ λi j=>.bl (g i j)):=by
 intro pins s σ H x y v u Q I rx ry h
 obtain ⟨i,j,rfl,rfl,q⟩:=h
 obtain ⟨t,rfl⟩:=rx
 obtain ⟨t',rfl⟩:=ry
 exact rule i j t t' s _ _ ⟨.bl (g i j),H,I,rfl,q⟩
def Zro (i j:Int):Prop:=0 < j/\j < 1073741824
def Zjg (i j:Int):Prop:=0<=j/\j<=1000000/\i.natAbs < 2 ^ 64
def CMul (i j:Int):Prop:=(-(2 ^ 64) < i/\i < 2 ^ 64)\/(-(2 ^ 64) < j/\j < 2 ^ 64)
theorem CMul.ok {i j:Int} (h:CMul i j):IntMulOk i j:=by
 rcases h with ⟨h1,h2⟩ | ⟨h1,h2⟩
 ·exact .of_left (intBits_le_64 h1 h2)
 ·exact .of_right (intBits_le_64 h1 h2)
theorem iG:OpR X (binaryOp .Add) (eQ λi j=>.int (i+j)):=oQ λ_ _ _ _ _ _ _ q=>add_int q
theorem cg:OpR X (binaryOp .Sub) (eQ λi j=>.int (i - j)):=oQ λ_ _ _ _ _ _ _ q=>sub_int q
theorem oO:OpR X (binaryOp .Mult) (rI CMul λi j=>.int (i * j)):=iH λ_ _ _ _ _ _ _ hc q=>mul_int q hc.ok
theorem tO:OpR X (binaryOp .FloorDiv) (rI Zro λi j=>.int (i / j)):=iH λi j _ _ _ _ _ hc q=>by
 have h1:(0:Int) < j:=hc.1
 have h2:j < 1073741824:=hc.2
 exact floordiv_int (by omega) (by rw [xB i (by omega)]; exact q) (.inl (PyProof.noPylong_small (by omega)))
theorem gw:OpR X (binaryOp .Mod) (rI (λ_ j=>0 < j) λi j=>.int (i % j)):=iH λi j _ _ _ _ _ hc q=>by
 have h1:(0:Int) < j:=hc
 exact mod_int' (by omega) (by rw [zG i (by omega)]; exact q)
theorem ZcU:OpR X (binaryOp .Mod) (rI (λ_ j=>j≠0) λi j=>.int (i.fmod j)):=iH λ_ _ _ _ _ _ _ hc q=>mod_int' hc q
theorem tN:OpR X (binaryOp .Pow) (rI Zjg λi j=>.int (i ^ j.toNat)):=iH λ_ _ _ _ _ _ _ hc q=>pow_int_small hc.1 hc.2.1 hc.2.2 q
theorem ZnA:OpR X (inplaceOp .Add) (eQ λi j=>.int (i+j)):=oQ λ_ _ _ _ _ _ _ q=>iadd_int q
theorem Zny:OpR X (inplaceOp .Sub) (eQ λi j=>.int (i - j)):=oQ λ_ _ _ _ _ _ _ q=>isub_int q
theorem unI {f:Value->Sem Value} {g:Int->Int}
  (rule:∀ (i:Int) (t:Tok) (s:Shared) (Q:Ah) (E:Ah),Q (.int (g i) s.toks) { s with toks:=s.toks+1 }->wpAny (model X.prog X.w) X.A (f (.int i t)) Q E s) :
  vT X f (rU λi=>.int (g i)):=by
 intro pins s σ H x v Q I rx h
 obtain ⟨i,rfl,q⟩:=h
 obtain ⟨t,rfl⟩:=rx
 exact rule i t s _ _ ⟨.int (g i),H,I.tok _,⟨_,rfl⟩,q⟩
theorem Zjx:vT X (unaryOp .USub) (rU λi=>.int (-i)):=unI λ_ _ _ _ _ q=>neg_int q
end
noncomputable def scal:V->V->Bool
 | .non,.non=>true | .non,.int _=>true | .int _,.non=>true | .non,.bl _=>true | .bl _,.non=>true | .non,.str _=>true | .str _,.non=>true
 | .int _,.int _=>true | .bl _,.bl _=>true | .str _,.str _=>true | .byt _,.byt _=>true
 | .int _,.str _=>true | .str _,.int _=>true | .bl _,.str _=>true | .str _,.bl _=>true
 | _,_=>false
noncomputable def rEq:R2:=λx y H Q=>scal x y=true/\Q (.bl (decide (x=y))) H
noncomputable def rNe:R2:=λx y H Q=>scal x y=true/\Q (.bl (!decide (x=y))) H
theorem Zic {i j:Int}:decide (V.int i=V.int j)=(i == j):=by
 rw [yv]
 simp
theorem Zie {i j:Bool}:decide (V.bl i=V.bl j)=(i == j):=by
 rw [yv]
 simp
theorem p7 {i j:Str}:decide (V.str i=V.str j)=(i == j):=by
 rw [yv]
 simp
theorem Zid {i j:Array UInt8}:decide (V.byt i=V.byt j)=(i.toList == j.toList):=by
 rw [yv]
 cases i
 cases j
 simp
section
variable {X:Cx} {a b c:Expr} {ta tb tc:TE} {pos:Pos}
theorem cv {pins:List (Addr×Obj)} {σ:St} {H:Hp} {s:Shared} {Q:VK} {k k':Bool} (I:Inv X pins σ H s) (q:Q (.bl k) H) (e:k=k'):EP X pins σ Q (.bool k') s:=by
 subst e
 exact ⟨.bl k,H,I,rfl,q⟩
theorem Zl9:OpR X (compareOp .Eq) rEq:=by
 intro pins s σ H x y v u Q I rx ry h
 obtain ⟨hs,q⟩:=h
 cases x with
 | non =>
  cases rx
  cases y with
  | non=>cases ry; exact PySem.EqNone.eq_none_none (cv I q (by simp))
  | bl j=>cases ry; exact PySem.EqNone.eq_none_bool (cv I q (by simp))
  | int j=>obtain ⟨t',rfl⟩:=ry; exact PySem.EqNone.eq_none_int (cv I q (by simp))
  | str j=>obtain ⟨t',rfl⟩:=ry; exact PySem.EqNone.eq_none_str (cv I q (by simp))
  | _=>exact absurd (show false=true from hs) wn
 | bl i =>
  cases rx
  cases y with
  | non=>cases ry; exact PySem.EqNone.eq_bool_none (cv I q (by simp))
  | bl j=>cases ry; exact eq_bool (cv I q Zie)
  | str j=>obtain ⟨t',rfl⟩:=ry; exact PySem.EqMixed.eq_bool_str (cv I q (by simp))
  | _=>exact absurd (show false=true from hs) wn
 | int i =>
  obtain ⟨t,rfl⟩:=rx
  cases y with
  | non=>cases ry; exact PySem.EqNone.eq_int_none (cv I q (by simp))
  | int j=>obtain ⟨t',rfl⟩:=ry; exact eq_int (cv I q Zic)
  | str j=>obtain ⟨t',rfl⟩:=ry; exact PySem.EqMixed.eq_int_str (cv I q (by simp))
  | _=>exact absurd (show false=true from hs) wn
 | str i =>
  obtain ⟨t,rfl⟩:=rx
  cases y with
  | non=>cases ry; exact PySem.EqNone.eq_str_none (cv I q (by simp))
  | bl j=>cases ry; exact PySem.EqMixed.eq_str_bool (cv I q (by simp))
  | int j=>obtain ⟨t',rfl⟩:=ry; exact PySem.EqMixed.eq_str_int (cv I q (by simp))
  | str j=>obtain ⟨t',rfl⟩:=ry; exact eq_str (cv I q p7)
  | _=>exact absurd (show false=true from hs) wn
 | byt i =>
  obtain ⟨t,rfl⟩:=rx
  cases y with
  | byt j=>obtain ⟨t',rfl⟩:=ry; exact PySem.W.eq_bytes (cv I q Zid)
  | _=>exact absurd (show false=true from hs) wn
 | _=>cases y <;> exact absurd (show false=true from hs) wn
theorem Zl4:OpR X (compareOp .NotEq) rNe:=by
 intro pins s σ H x y v u Q I rx ry h
 obtain ⟨hs,q⟩:=h
 cases x with
 | non =>
  cases rx
  cases y with
  | non=>cases ry; exact PySem.EqNone.ne_none_none (cv I q (by simp))
  | bl j=>cases ry; exact PySem.EqNone.ne_none_bool (cv I q (by simp))
  | int j=>obtain ⟨t',rfl⟩:=ry; exact PySem.EqNone.ne_none_int (cv I q (by simp))
  | str j=>obtain ⟨t',rfl⟩:=ry; exact PySem.EqNone.ne_none_str (cv I q (by simp))
  | _=>exact absurd (show false=true from hs) wn
 | bl i =>
  cases rx
  cases y with
  | non=>cases ry; exact PySem.EqNone.ne_bool_none (cv I q (by simp))
  | bl j=>cases ry; exact ne_bool (cv I q (congrArg not Zie))
  | str j=>obtain ⟨t',rfl⟩:=ry; exact PySem.EqMixed.ne_bool_str (cv I q (by simp))
  | _=>exact absurd (show false=true from hs) wn
 | int i =>
  obtain ⟨t,rfl⟩:=rx
  cases y with
  | non=>cases ry; exact PySem.EqNone.ne_int_none (cv I q (by simp))
  | int j=>obtain ⟨t',rfl⟩:=ry; exact ne_int (cv I q (congrArg not Zic))
  | str j=>obtain ⟨t',rfl⟩:=ry; exact PySem.EqMixed.ne_int_str (cv I q (by simp))
  | _=>exact absurd (show false=true from hs) wn
 | str i =>
  obtain ⟨t,rfl⟩:=rx
  cases y with
  | non=>cases ry; exact PySem.EqNone.ne_str_none (cv I q (by simp))
  | bl j=>cases ry; exact PySem.EqMixed.ne_str_bool (cv I q (by simp))
  | int j=>obtain ⟨t',rfl⟩:=ry; exact PySem.EqMixed.ne_str_int (cv I q (by simp))
  | str j=>obtain ⟨t',rfl⟩:=ry; exact ne_str (cv I q (congrArg not p7))
  | _=>exact absurd (show false=true from hs) wn
 | byt i =>
  obtain ⟨t,rfl⟩:=rx
  cases y with
  | byt j=>obtain ⟨t',rfl⟩:=ry; exact PySem.W.ne_bytes (cv I q (congrArg not Zid))
  | _=>exact absurd (show false=true from hs) wn
 | _=>cases y <;> exact absurd (show false=true from hs) wn
theorem iE:OpR X (compareOp .Lt) (eQ λi j=>.bl (decide (i < j))):=oR λ_ _ _ _ _ _ _ q=>lt_int q
theorem oP:OpR X (compareOp .LtE) (eQ λi j=>.bl (decide (i<=j))):=oR λ_ _ _ _ _ _ _ q=>le_int q
theorem gx:OpR X (compareOp .Gt) (eQ λi j=>.bl (decide (j < i))):=oR λ_ _ _ _ _ _ _ q=>gt_int q
theorem Zl7:OpR X (compareOp .GtE) (eQ λi j=>.bl (decide (j<=i))):=oR λ_ _ _ _ _ _ _ q=>ge_int q
theorem OpR.or {f:Value->Value->Sem Value} {r r':R2} (h:OpR X f r) (h':OpR X f r'):OpR X f (λx y H Q=>r x y H Q\/r' x y H Q):=by
 intro pins s σ H x y v u Q I rx ry q
 rcases q with q | q
 ·exact h pins s σ H x y v u Q I rx ry q
 ·exact h' pins s σ H x y v u Q I rx ry q
theorem nomark (b:Expr) {op:CmpOp} (h:op≠.In:=by decide) (h2:op≠.NotIn:=by decide):behindInMarks op b=false:=by
 have e1:(op == CmpOp.In)=false:=by cases op <;> first | rfl | exact absurd rfl h
 have e2:(op == CmpOp.NotIn)=false:=by cases op <;> first | rfl | exact absurd rfl h2
 cases b <;> first | rfl | (show (_ && (op == CmpOp.In || op == CmpOp.NotIn) && _)=false; rw [e1,e2,Bool.or_false,zO,xR])
theorem ZlQ {op:CmpOp} {r:R2} (ho:OpR X (compareOp op) r) (ha:PE X a ta) (hb:PE X b tb) (hm:behindInMarks op b=false):PE X (.Compare a [op] [b] pos) (jm r ta tb):=by
 intro pins s σ H Q I h
 exact wpAny_Compare1 (vc ha hb I h λv u s2 x y H2 I2 rx ry q=>ho pins s2 σ H2 x y v u Q I2 rx ry q) hm
def nS (t:TE):TT:=λσ H Q=>t σ H λx H'=>∃ k,x=.bl k/\Q k H'
theorem mn {op:CmpOp} {r:R2} (ho:OpR X (compareOp op) r) (ha:PE X a ta) (hb:PE X b tb) (hm:behindInMarks op b=false):PT X (.Compare a [op] [b] pos) (nS (jm r ta tb)):=by
 intro pins s σ H Q I h
 refine wpAny_isTrue_Compare1 (thn (ha pins s σ H _ I h) λv s1 ⟨x,H1,I1,r1,q1⟩=>thn (hb pins s1 σ H1 _ I1 q1) λu s2 ⟨y,H2,I2,r2,q2⟩ =>
  thn (ho pins s2 σ H2 x y v u _ I2 r1 r2 q2) λc s3 ⟨z,H3,I3,r3,k,e,q3⟩=>?_) hm
 subst e
 cases r3
 exact wpAny_truthy_bool ⟨H3,I3,q3⟩
def Zay (r r':R2) (ta tb tc:TE):TE:=λσ H Q=>ta σ H λx H1=>tb σ H1 λy H2=>r x y H2 λz H3=>∃ k,z=.bl k /\
 (if k=true then tc σ H3 λw' H4=>r' y w' H4 Q else Q (.bl false) H3)
theorem ZlR {op op':CmpOp} {r r':R2} (ho:OpR X (compareOp op) r) (ho':OpR X (compareOp op') r') (ha:PE X a ta) (hb:PE X b tb) (hc:PE X c tc)
  (hm:lastMarks [op,op'] [b,c]=false:=by with_unfolding_all rfl):PE X (.Compare a [op,op'] [b,c] pos) (Zay r r' ta tb tc):=by
 intro pins s σ H Q I h
 refine Compare_chain (thn (ha pins s σ H _ I h) λv s1 ⟨x,H1,I1,r1,q1⟩=>chain_link (thn (hb pins s1 σ H1 _ I1 q1) λu s2 ⟨y,H2,I2,r2,q2⟩ =>
  thn (ho pins s2 σ H2 x y v u _ I2 r1 r2 q2) λd s3 ⟨z,H3,I3,r3,k,e,q3⟩=>?_)) hm
 subst e
 cases r3
 refine wpAny_truthy_bool ?_
 cases k with
 | false=>exact ite_ff ⟨.bl false,H3,I3,rfl,q3⟩
 | true=>exact ite_tt (chain_last (thn (hc pins s3 σ H3 _ I3 q3) λw' s4 ⟨z',H4,I4,r4,q4⟩=>ho' pins s4 σ H4 y z' u w' Q I4 r2 r4 q4))
noncomputable def Zi7 (K:zZ) (x:V) (H:Hp) (k:Bool):Prop :=
 match x with
 | .non=>k=false
 | .bl b=>k=b
 | .int i=>k=(i != 0)
 | .str y=>y.length<=sizeLine/\k=((y.length:Int) != 0)
 | .byt y=>y.size<=sizeLine/\k=((y.size:Int) != 0)
 | .ref p=>(∃ xs,SqL K H p xs/\k=!xs.isEmpty)\/(∃ xs,SqT K H p xs/\k=!xs.isEmpty)\/∃ kvs,H p=some (.dK kvs)/\k=!kvs.isEmpty
 | _=>False
theorem Znv {κ:Type} {kvs:List (κ×V)} {vs:List (κ×Value)} (r:KV kvs vs):(!vs.isEmpty)=!kvs.isEmpty:=by
 cases r <;> rfl
theorem Zeb {xs:An} {its:Ak} (r:Vals xs its):(!its.toArray.isEmpty)=!xs.isEmpty:=by
 cases r <;> simp
theorem iR:(sizeLine:Nat) < 2 ^ 63:=by rw [sizeLine_eq]; decide
theorem ZjH:ZqJ X (λx H Q=>∃ k,Zi7 X.K x H k/\Q k H):=by
 intro pins s σ H x v Q I rx h
 obtain ⟨k,e,q⟩:=h
 have hl:=iR
 have hs:sizeLine=16777216:=sizeLine_eq
 cases x with
 | non =>
  cases rx
  have e':k=false:=e
  subst e'
  exact truthy_none ⟨H,I,q⟩
 | bl b =>
  cases rx
  have e':k=b:=e
  subst e'
  exact wpAny_truthy_bool ⟨H,I,q⟩
 | int i =>
  obtain ⟨t,rfl⟩:=rx
  have e':k=(i != 0):=e
  subst e'
  exact PySem.P.truthy_int ⟨H,I,q⟩
 | str y =>
  obtain ⟨t,rfl⟩:=rx
  obtain ⟨hy,e'⟩:y.length<=sizeLine/\k=((y.length:Int) != 0):=e
  subst e'
  exact PySem.P.truthy_str (by omega) ⟨H,I.tok _,q⟩
 | byt y =>
  obtain ⟨t,rfl⟩:=rx
  obtain ⟨hy,e'⟩:y.size<=sizeLine/\k=((y.size:Int) != 0):=e
  subst e'
  exact PySem.W.truthy_bytes (by omega) ⟨H,I.tok _,q⟩
 | ref p =>
  cases rx
  have e':(∃ xs,SqL X.K H p xs/\k=!xs.isEmpty)\/(∃ xs,SqT X.K H p xs/\k=!xs.isEmpty)\/∃ kvs,H p=some (.dK kvs)/\k=!kvs.isEmpty:=e
  rcases e' with ⟨xs,hx,e'⟩ | ⟨xs,hx,e'⟩ | ⟨kvs,hx,e'⟩
  ·subst e'
   obtain ⟨its,r,pl,hz⟩:=I.list hx
   have hlen:=r.length
   exact wpAny_truthy_list pl.isList (by simp only [wj]; omega) ⟨H,I.tok _,by rw [Zeb r]; exact q⟩
  ·subst e'
   obtain ⟨its,r,pl,hz⟩:=I.tuple hx
   have hlen:=r.length
   exact truthy_tuple pl (by simp only [wj]; omega) ⟨H,I.tok _,by rw [Zeb r]; exact q⟩
  ·subst e'
   obtain ⟨hz,hS,vs,r,m⟩:kvs.length<=sizeLine/\(p == sysModules)=false/\∃ vs,KV kvs vs/\s.heap.DictOf (dQ X.prog X.w) p vs:=I.hok p _ hx
   have hlen:kvs.length=vs.length:=zt r
   exact wpAny_truthy_dict hS m (by omega) ⟨H,I.tok _,by rw [Znv r]; exact q⟩
 | _=>exact (show False from e).elim
theorem Zlo (ha:PE X a ta) (he:∀ whole,isTrue a X.env whole=(do let v <- whole; standAt a.pos; holding [v] (truthy v))) :
  PT X a (λσ H Q=>ta σ H λx H'=>∃ k,Zi7 X.K x H' k/\Q k H'):=by
 intro pins s σ H Q I h
 exact isTrue_plain (thn (ha pins s σ H _ I h) λv s1 ⟨x,H1,I1,r1,q1⟩=>ZjH pins s1 σ H1 x v Q I1 r1 q1) (he _)
theorem eJ {x:V} {us:Ak} (r:Vals [x] us):∃ u,us=[u]/\RelV x u:=by
 cases r with
 | cons r1 r2=>cases r2; exact ⟨_,rfl,r1⟩
theorem nP {x y:V} {us:Ak} (r:Vals [x,y] us):∃ u w',us=[u,w']/\RelV x u/\RelV y w':=by
 cases r with
 | cons r1 r2 =>
  cases r2 with
  | cons r3 r4=>cases r4; exact ⟨_,_,rfl,r1,r3⟩
theorem u3:dM X (.builtin "abs") (λxs H Q=>∃ i,xs=[.int i]/\Q (.int (if i < 0 then -i else i)) H):=by
 intro pins s σ H xs us Q I r h
 obtain ⟨i,rfl,q⟩:=h
 obtain ⟨u,rfl,t,rfl⟩:=eJ r
 exact call_abs_int λu tk=>⟨.int (if i < 0 then -i else i),H,I.tok _,⟨_,rfl⟩,q⟩
theorem mY (hc:X.calm=true):dM X (.builtin "max") (λxs H Q=>∃ i j,xs=[.int i,.int j]/\Q (.int (if j > i then j else i)) H):=by
 intro pins s σ H xs us Q I r h
 obtain ⟨i,j,rfl,q⟩:=h
 obtain ⟨u,w',rfl,⟨t,rfl⟩,⟨t',rfl⟩⟩:=nP r
 refine max_two_ints (I.ok.hd hc) λh' tk k=>⟨_,H,I.kept k,?_,q⟩
 by_cases hj:j > i
 ·rw [if_pos hj,if_pos hj]; exact ⟨_,rfl⟩
 ·rw [if_neg hj,if_neg hj]; exact ⟨_,rfl⟩
theorem qh:dM X (.type "int") (λxs H Q=>(∃ i,xs=[.int i]/\Q (.int i) H)\/∃ k,xs=[.bl k]/\Q (.int (if k then 1 else 0)) H):=by
 intro pins s σ H xs us Q I r h
 rcases h with ⟨i,rfl,q⟩ | ⟨k,rfl,q⟩
 ·obtain ⟨u,rfl,t,rfl⟩:=eJ r
  exact call_int_int ⟨.int i,H,I,⟨_,rfl⟩,q⟩
 ·obtain ⟨u,rfl,r1⟩:=eJ r
  cases r1
  exact call_int_bool ⟨.int (if k then 1 else 0),H,I.tok _,⟨_,rfl⟩,q⟩
end
structure ObjM (h:Heap) (x dx C:Addr) (mA:Ao):Prop where
 obj:h.get? x=some (PySem.W.instObj C dx)
 ns:h.Ns1 dx mA
 ne:dx≠x
theorem Zm0 {h:Heap} {dx:Addr} {mA:Ao} (n:h.Ns1 dx mA):∃ od,h.get? dx=some od/\∀ name,PySem.W.lookIn name od=some (mA name):=by
 obtain ⟨o,es,ep,ho,hd,hk,_,hm⟩:=n
 refine ⟨o,ho,λname=>?_⟩
 have e:=hm name
 unfold nsFind findBy at e
 rw [<- Array.find?_toList] at e
 unfold PySem.W.lookIn
 rw [hd]
 dsimp only
 split
 ·rename_i y q
  rw [q] at e
  exact congrArg some e
 ·rename_i q
  rw [q] at e
  have a:es.toList.any (·.refKey)=false:=by
   rw [List.any_eq_false]
   intro y hy
   obtain ⟨z,t,hkey⟩:=hk y (Array.mem_toList_iff.mp hy)
   simp [DictEntry.refKey,hkey]
  have a':¬ es.toList.any (·.refKey)=true:=by rw [a]; exact wn
  rw [if_neg a']
  exact congrArg some e
theorem ObjM.look {h:Heap} {x dx C:Addr} {mA:Ao} (I:ObjM h x dx C mA):∃ od,PySem.W.InstAt h x (PySem.W.instObj C dx) C (some od)/\∀ name,PySem.W.lookIn name od=some (mA name) :=
 let ⟨od,ho,hl⟩:=Zm0 I.ns
 ⟨od,⟨I.obj,rfl,rfl,ho⟩,hl⟩
section
variable {prog:Program} {w:World} {A:Around} {E:Ah} {s:Shared} {K:zZ} {x dx C f:Addr} {mA:Ao} {name:Str} {v:Value}
end
theorem RelO.some_of {v:V} {o:Option Value} (r:RelO (some v) o):∃ u,o=some u/\RelV v u:=by
 cases o with
 | none=>exact (show False from r).elim
 | some u=>exact ⟨u,rfl,r⟩
section
variable {P:Program} {w:World} {H H':Hp} {h h':Heap} {a C dx:Addr} {fs fs':List (Str×V)}
theorem ZnC (hok:HOk P w H h) (e:H a=some (.ins C dx fs)):∃ mA,ObjM h a dx C mA/\(∀ f,RelO (fs.lookup f) (mA f))/\PySem.Within mA (fs.map (·.1))/\fs.length<=1000/\H dx=some (.own a):=by
 obtain ⟨d,z,ne,ob,mA,n,r,q⟩:=(show ObjOk P w H h a (.ins C dx fs) from hok a _ e)
 exact ⟨mA,⟨ob,n,ne⟩,r,q,z,d⟩
end
structure Cls (K:zZ) (C:Addr):Prop where
 pg:PySem.W.plainGet K C Str.empty=true
 hd:PySem.W.hasDictIn K C=true
 po:PySem.W.plainOver K C=true
 sa:PySem.W.findIn K (.ref C) "__setattr__"=some (some (.builtin "object.__setattr__"))
theorem Cls.get {K:zZ} {C:Addr} (c:Cls K C) (f:Str):PySem.W.plainGet K C f=true:=c.pg
section
variable {X:Cx} {pins:List (Addr×Obj)} {σ:St} {H:Hp} {s:Shared} {a C dx:Addr} {fs:List (Str×V)} {f:Str} {v:V} {A:Around} {E:Ah}
end
section
variable {X:Cx} {o e value:Expr} {f:Str} {pos pos' tpos:Pos} {ta tv:TE}
end
section
variable {X:Cx} {pins:List (Addr×Obj)} {σ:St} {H:Hp} {s:Shared} {A:Around} {E:Ah} {Q:Ah} {c:Value} {b:Bool}
inductive TyOf (K:zZ) (H:Hp):V->Value->Prop where
 | non:TyOf K H .non (.type "NoneType")
 | bl (x:Bool):TyOf K H (.bl x) (.type "bool")
 | int (i:Int):TyOf K H (.int i) (.type "int")
 | str (x:Str):TyOf K H (.str x) (.type "str")
 | flt (x:UInt64):TyOf K H (.flt x) (.type "float")
 | lst {a:Addr} {xs:An} (e:H a=some (.lst xs)):TyOf K H (.ref a) (.type "list")
 | frz {a:Addr} {o:Obj} {xs:An} (e:H a=some (.frz o (.lst xs))):TyOf K H (.ref a) (.type "list")
 | tup {a:Addr} {xs:An} (e:H a=some (.tup xs)):TyOf K H (.ref a) (.type "tuple")
 | dK {a:Addr} {kvs:List (aO×V)} (e:H a=some (.dK kvs)):TyOf K H (.ref a) (.type "dict")
 | dT {a:Addr} {kvs:List (List aO×V)} (e:H a=some (.dT kvs)):TyOf K H (.ref a) (.type "dict")
 | frzD {a:Addr} {o:Obj} {kvs:List (aO×V)} (e:H a=some (.frz o (.dK kvs))):TyOf K H (.ref a) (.type "dict")
 | ins {a C dx:Addr} {fs:List (Str×V)} (e:H a=some (.ins C dx fs)) (cl:Cls K C) (ha:PySem.W.findIn K (.ref C) "__class__"=some (some (.builtin "object.__class__")))
   (hn:PySem.W.specialIn K (.builtin "object.__class__") "__get__"=some (some (.builtin "getset_descriptor.__get__"))) (htk:PySem.W.takesIn K (.builtin "object.__class__")=some true)
   (hm:PySem.W.mroIn K C (.type "object")=some true):TyOf K H (.ref a) (.ref C)
theorem Znu {x:V} {u t:Value} (I:Inv X pins σ H s) (rx:RelV x u) (ty:TyOf X.K H x t) (e:PySem.W.kitOne X.K t c=some b) (h:∀ tk,Q (.bool b) { s with toks:=tk }) :
  wpAny (model X.prog X.w) A (call (.builtin "isinstance") [u,c]) Q E s:=by
 cases ty with
 | non=>cases (show u=Value.none from rx); exact xg PySem.W.kitx_none I.kIn True.intro e (λz=>nomatch z) h
 | bl y=>cases (show u=Value.bool y from rx); exact xg PySem.W.kitx_bool I.kIn True.intro e (λz=>nomatch z) h
 | int i=>obtain ⟨t,q⟩:=(show ∃ t,u=Value.int i t from rx); cases q; exact xg PySem.W.kitx_int I.kIn True.intro e (λz=>nomatch z) h
 | str y=>obtain ⟨t,q⟩:=(show ∃ t,u=Value.str y t from rx); cases q; exact xg PySem.W.kitx_str I.kIn True.intro e (λz=>nomatch z) h
 | flt y=>obtain ⟨t,q⟩:=(show ∃ t,u=Value.float y t from rx); cases q; exact xg PySem.W.kitx_float I.kIn True.intro e (λz=>nomatch z) h
 | @lst a xs ea =>
  cases (show u=Value.ref a from rx)
  obtain ⟨_,_,n,_,h1⟩:=(show ObjOk X.prog X.w H s.heap a (.lst xs) from I.hok a _ ea)
  exact xg PySem.W.kitx_list I.kIn ⟨_,h1,rfl⟩ e (λz=>nomatch z) h
 | @frz a ob xs ea =>
  cases (show u=Value.ref a from rx)
  obtain ⟨_,_,_,n,_,h1⟩:=(show ObjOk X.prog X.w H s.heap a (.frz ob (.lst xs)) from I.hok a _ ea)
  exact xg PySem.W.kitx_list I.kIn ⟨_,h1,rfl⟩ e (λz=>nomatch z) h
 | @tup a xs ea =>
  cases (show u=Value.ref a from rx)
  obtain ⟨_,_,_,p⟩:=(show ObjOk X.prog X.w H s.heap a (.tup xs) from I.hok a _ ea)
  obtain ⟨o,h1,h2,_⟩:=p
  exact xg PySem.W.kitx_tuple I.kIn ⟨o,h1,h2⟩ e (λz=>nomatch z) h
 | @dK a kvs ea =>
  cases (show u=Value.ref a from rx)
  obtain ⟨_,_,vs,_,p⟩:=(show ObjOk X.prog X.w H s.heap a (.dK kvs) from I.hok a _ ea)
  obtain ⟨o,es,ep,h1,h2,_⟩:=p
  exact xg zj I.kIn ⟨o,h1,h2.1⟩ e (λz=>nomatch z) h
 | @frzD a ob kvs ea =>
  cases (show u=Value.ref a from rx)
  obtain ⟨_,_,_,vs,_,p⟩:=(show ObjOk X.prog X.w H s.heap a (.frz ob (.dK kvs)) from I.hok a _ ea)
  obtain ⟨o,es,ep,h1,h2,_⟩:=p
  exact xg zj I.kIn ⟨o,h1,h2.1⟩ e (λz=>nomatch z) h
 | @dT a kvs ea =>
  cases (show u=Value.ref a from rx)
  obtain ⟨_,_,xs,_,o,es,ep,h1,h2,_⟩:=(show ObjOk X.prog X.w H s.heap a (.dT kvs) from I.hok a _ ea)
  exact xg zj I.kIn ⟨o,h1,h2.1⟩ e (λz=>nomatch z) h
 | @ins a C dx fs ea cl ha hn htk hm =>
  cases (show u=Value.ref a from rx)
  obtain ⟨mA,O,_⟩:=ZnC I.hok ea
  obtain ⟨od,J,_⟩:=O.look
  exact xg (PySem.W.kitx_own (cl.get _) cl.hd ha hn htk hm) I.kIn J e (λz=>nomatch z) h
end
structure Room (k:Nat) (A:Around):Prop where
 hd:A.handled=none
 dp:A.depth+3 * k+5 < recursionLimit
 un:A.units+16 * k+200 < cLine
 gd:A.guards=some []
theorem Room.mono {j k:Nat} {A:Around} (r:Room k A) (h:j<=k):Room j A:=⟨r.hd,by have:=r.dp; omega,by have:=r.un; omega,r.gd⟩
theorem Room.deeper {k:Nat} {A:Around} (r:Room (k+1) A) (env:Env):Room k (A.deeper env) :=
 ⟨r.hd,by have:=r.dp; show A.depth+1+3 * k+5 < _; omega,by have:=r.un; show A.units+3+16 * k+200 < _; omega,r.gd⟩
theorem Room.depth {k:Nat} {A:Around} (r:Room k A):A.depth < recursionLimit:=by have:=r.dp; omega
theorem Room.units {k:Nat} {A:Around} (r:Room k A):A.units+64 < cLine:=by have:=r.un; omega
def aY:TA:=λ_ H Q=>Q [] H
def fB (ta:TE) (tr:TA):TA:=λσ H Q=>ta σ H λx H1=>tr σ H1 λxs H2=>Q (x::xs) H2
section
variable {X:Cx} {e:Expr} {es:List Expr} {te:TE} {t:TA} {pos:Pos}
theorem cC:PA X [] aY:=λ_ _ _ _ H Q I h=>Calls.spliced_nil ⟨[],H,I,.nil,h⟩
theorem bI (ha:PE X e te) (hr:PA X es t) (hs:starEach (e::es) X.env=(false,eval e X.env)::starEach es X.env:=by rfl):PA X (e::es) (fB te t):=by
 intro pos pins s σ H Q I h
 rw [hs]
 show wpAny _ _ (spliced ((false,eval e X.env)::backTo pos (starEach es X.env))) _ _ s
 refine Calls.spliced_cons (thn (ha pins s σ H _ I h) λu s1 hz0=>?_)
 obtain ⟨x,H1,I1,r1,q1⟩:=hz0
 exact thn (hr pos pins s1 σ H1 _ I1 q1) λus s2 hz0=>by
  obtain ⟨xs,H2,I2,r2,q2⟩:=hz0
  exact ⟨x::xs,H2,I2,.cons r1 r2,q2⟩
def ZjO (t:TA):TE:=λσ H Q=>t σ H λxs H1=>xs.length<=sizeLine/\∀ p,H1 p=none->Q (.ref p) (upd H1 p (.tup xs))
def Zj0 (t:TA):TE:=λσ H Q=>t σ H λxs H1=>xs.length<=sizeLine/\∀ p,H1 p=none->Q (.ref p) (upd H1 p (.lst xs))
theorem ZcI {x1} (h:PA X es t):PE X (.Tuple es x1 pos) (ZjO t):=by
 intro pins s σ H Q I hq
 refine wpAny_Tuple_spliced (thn (h pos pins s σ H _ I hq) λus s1 ⟨xs,H1,I1,r,z,q⟩=>⟨by rw [<- r.length]; exact z,?_⟩)
 have hf:H1 s1.heap.objs.size=none:=I1.hok.fresh (wa _)
 refine ⟨.ref s1.heap.objs.size,upd H1 s1.heap.objs.size (.tup xs),I1.laid (t':=s1.toks) (λb u e=>v6 _ e) (wa _) ?_,rfl,q _ hf⟩
 exact ⟨z,us,r,⟨_,wc _ rfl,rfl,_,rfl⟩⟩
theorem ZlL (h:PA X es t):PE X (.List es pos) (Zj0 t):=by
 intro pins s σ H Q I hq
 refine wpAny_List_spliced (thn (h pos pins s σ H _ I hq) λus s1 ⟨xs,H1,I1,r,z,q⟩=>⟨by rw [<- r.length]; exact z,?_⟩)
 have hf:H1 s1.heap.objs.size=none:=I1.hok.fresh (wa _)
 refine ⟨.ref s1.heap.objs.size,upd H1 s1.heap.objs.size (.lst xs),I1.laid (t':=s1.toks) (λb u e=>v6 _ e) (wa _) ?_,rfl,q _ hf⟩
 exact ⟨z,us,0,r,wc _ rfl⟩
end
noncomputable abbrev Sp:=List V->Hp->VK->XK->Prop
noncomputable abbrev fw:=List Env->Hp->Shared->XK->Value->Shared->Prop
structure Env0 (P:Program) (w:World) (K:zZ) (mg:Ao) (base:Heap) (A:Around) (outer:List Env) (s:Shared) (H:Hp):Prop where
 frames:A.frames=some outer
 mod:Mod K mg base
 bs:∀ b o,base.get? b=some o->s.heap.get? b=some o/\H b=none
 bsz:base.objs.size<=s.heap.objs.size
 funs:s.heap.FunFrames base outer
 frf:∀ b∈frs outer,H b=none
 hok:HOk P w H s.heap
 bare:AllBare s.gens
noncomputable def CE (outer:List Env) (P:Program) (w:World) (H:Hp) (s:Shared) (Q:VK) (u:Value) (s':Shared):Prop :=
 ∃ v H',s'.os=s.os/\AllBare s'.gens/\Un (frs outer) [] H H' s.heap s'.heap/\HOk P w H' s'.heap/\RelV v u/\Q v H'
noncomputable def CR (CX:fw) (outer:List Env) (P:Program) (w:World) (H:Hp) (s:Shared) (Q:VK) (E:XK) (r:Result) (s':Shared):Prop :=
 match r with
 | .ok (.ret u)=>CE outer P w H s Q u s'
 | .ok _=>False
 | .error e=>CX outer H s E e s'
structure FnOk (P:Program) (w:World) (K:zZ) (mg:Ao) (base:Heap) (CX:fw) (k:Nat) (f:Addr) (fd:FuncData) (ps:Am) (sp:Sp):Prop where
 len:∀ vs H Q E,sp vs H Q E->vs.length=ps.length
 run:∀ (A:Around) (outer:List Env) (s:Shared) (H:Hp) (args:Args) (us:Ak) (vs:An) (Q:VK) (E:XK),Room k A->Env0 P w K mg base A outer s H->BindsTo s fd args (ps.zip us)->Vals vs us->sp vs H Q E ->
  codeAny (model P w) A (.call (.ref f) args) (CR CX outer P w H s Q E) s
theorem FnOk.imp {P:Program} {w:World} {K:zZ} {mg:Ao} {base:Heap} {CX:fw} {k:Nat} {f:Addr} {fd:FuncData} {ps:Am} {sp sp':Sp} (F:FnOk P w K mg base CX k f fd ps sp)
  (h:∀ vs H Q E,sp' vs H Q E->sp vs H Q E):FnOk P w K mg base CX k f fd ps sp' :=
 ⟨λvs H Q E q=>F.len vs H Q E (h _ _ _ _ q),λA outer s H args us vs Q E hr he hb hv hs=>F.run A outer s H args us vs Q E hr he hb hv (h _ _ _ _ hs)⟩
section
variable {X:Cx} {pins:List (Addr×Obj)} {σ:St} {H:Hp} {s s':Shared}
theorem Inv.env0 (I:Inv X pins σ H s):Env0 X.prog X.w X.K X.mg X.base X.A X.stack s H :=
 ⟨I.ok.frames,I.ok.mod,I.bs,ww I.ok.bsz I.sz,I.stack,I.stkFree,I.hok,I.bare⟩
theorem Inv.after {Q:VK} {u:Value} (I:Inv X pins σ H s) (h:CE X.stack X.prog X.w H s Q u s'):EP X pins σ Q u s':=by
 obtain ⟨v,H',os,bare,un,hok,r,q⟩:=h
 obtain ⟨hh,g,d,t,os'⟩:=s'
 obtain rfl:os'=s.os:=os
 exact ⟨v,H',I.call (h':=hh) (g':=g) (d':=d) (t':=t) (ch:=[]) un hok bare (λb z=>absurd z (by simp)),r,q⟩
end
def Zaz (sp:Sp) (dvs:An) (E:XK) (t:TA):TE:=λσ H Q=>t σ H λvs H1=>sp (vs++dvs) H1 Q E
noncomputable def Binds (K:zZ) (fd:FuncData) (ps:Am) (ds:Ak):Prop :=
 ∀ (s:Shared) (us:Ak),K.In s.heap->(us++ds).length=ps.length->BindsTo s fd ⟨us,[]⟩ (ps.zip (us++ds))
theorem Binds.all {K:zZ} {fd:FuncData} {ps:Am} (h:∀ us:Ak,us.length=ps.length->bindArgs fd ⟨us,[]⟩=pure (ps.zip us)):Binds K fd ps []:=λs us _ hl=>by
 rw [wZ] at hl ⊢
 exact .of_eq (h us hl)
def vW (CX:fw) (X:Cx) (E:XK):Prop:=∀ (pins:List (Addr×Obj)) (σ:St) (H:Hp) (s:Shared) (e:Value) (s':Shared),Inv X pins σ H s->CX X.stack H s E e s'->X.xe e s'
section
variable {X:Cx} {CX:fw} {k:Nat} {f C:Addr} {fd:FuncData} {ps:Am} {sp:Sp} {dvs:An} {ds:Ak} {E:XK} {x m:Str} {p pos apos:Pos} {e o:Expr} {es:List Expr} {ta:TE} {t:TA}
theorem ZkT {pins:List (Addr×Obj)} {σ:St} {H:Hp} {s:Shared} {Q:VK} {us:Ak} {vs:An} (F:FnOk X.prog X.w X.K X.mg X.base CX k f fd ps sp) (hr:Room k X.A) (hb:Binds X.K fd ps ds) (hd:Vals dvs ds) (hx:vW CX X E)
  (I:Inv X pins σ H s) (r:Vals vs us) (h:sp (vs++dvs) H Q E):wpAny (model X.prog X.w) X.A (call (.ref f) us) (EP X pins σ Q) X.xe s:=by
 have r2:Vals (vs++dvs) (us++ds):=r.append hd
 have hl:(us++ds).length=ps.length:=by rw [<- r2.length]; exact F.len _ _ _ _ h
 refine wpAny_call (codeAny_mono (F.run X.A X.stack s H ⟨us,[]⟩ (us++ds) (vs++dvs) Q E hr I.env0 (hb s us I.kIn hl) r2 h) λr s' hq=>?_)
 cases r with
 | error e=>exact hx pins σ H s e s' I hq
 | ok fl =>
  cases fl with
  | ret u=>exact I.after hq
  | next=>exact False.elim hq
  | brk=>exact False.elim hq
  | cont=>exact False.elim hq
theorem ZlS (F:FnOk X.prog X.w X.K X.mg X.base CX k f fd ps sp) (hr:Room k X.A) (hg:Gl X x) (hm:X.mg x=some (.ref f)) (hk:PySem.W.keepIn X.K (.ref f)=true) (hb:Binds X.K fd ps ds) (hd:Vals dvs ds) (hx:vW CX X E)
  (ha:PA X (e::es) t) (hdb:(x == ("__debug__":Str))=false:=by decide) (he:starEach (e::es) X.env=(false,eval e X.env)::starEach es X.env:=by rfl) (hpl:(backTo pos (starEach es X.env)).any (·.1)=false:=by rfl) :
  PE X (.Call (.Name x p) (e::es) [] pos) (Zaz sp dvs E t):=by
 intro pins s σ H Q I h
 refine wpAny_Call_Name_kw (ZdT I hg hm ?_ hdb)
 refine PySem.W.callWith_K (h₀:=X.base) I.ok.mod.kin hk (thn (ha pos pins s σ H _ I h) λus s1 ⟨vs,H1,I1,r,q⟩=>⟨I1.kIn,?_⟩) he hpl
 exact ZkT F hr hb hd hx I1 r q
end
noncomputable def PK (X:Cx) (kws:List Keyword) (t:TA):Prop :=
 ∀ (pos:Pos) (pins:List (Addr×Obj)) (s:Shared) (σ:St) (H:Hp) (Q:List V->Hp->Prop),Inv X pins σ H s->t σ H Q->wpAny (model X.prog X.w) X.A (evalAll ((backToKw pos (keywordEach kws X.env)).map (·.2))) (AP X pins σ Q) X.xe s
section
variable {X:Cx} {CX:fw} {k:Nat} {f C:Addr} {fd:FuncData} {ps ks:Am} {sp:Sp} {E:XK} {x m:Str} {p pos apos kpos:Pos} {e o:Expr} {es:List Expr} {kws:List Keyword} {te ta:TE} {t tk:TA} {nm:Option Str}
variable {g:List Value->List Value->List Value} {gV:List V->List V->List V}
end
structure FnScope (N P:Am) (sc:Scope):Prop where
 kind:sc.kind=.function
 co:sc.isCoroutine=false
 gen:sc.isGenerator=false
 nd:N.Nodup
 pre:N.take P.length=P
 par:∀ x∈P,sc.names.lookup x=some .local\/sc.names.lookup x=some .cell
 nofree:∀ y∈sc.names,y.2≠.free
theorem ZiK {kindOf:Str->Option NameKind} {x:Str}:∀ {binds:List (Str×Value)} {m:Ao},(∀ v,(x,v) ∉ binds)->bindL kindOf binds m x=m x
 | [],_,_=>rfl
 | (n,v)::r,m,h=>by
  unfold bindL
  rw [ZiK λw hw=>h w (v8 _ hw)]
  split
  ·have:x≠n:=by rintro rfl; exact h v w8
   simp [this]
  ·rfl
theorem ZiM {kindOf:Str->Option NameKind} {x:Str}:∀ {binds:List (Str×Value)} {m:Ao},(∀ v,(x,v) ∉ binds)->bindC kindOf binds m x=m x
 | [],_,_=>rfl
 | (n,v)::r,m,h=>by
  unfold bindC
  rw [ZiM λw hw=>h w (v8 _ hw)]
  split
  ·rfl
  ·have:x≠n:=by rintro rfl; exact h v w8
   simp [this]
theorem ZiL {kindOf:Str->Option NameKind} {x:Str} {v:Value}:∀ {P:Am} {vs:Ak} {i:Nat} {m:Ao},P.Nodup->P[i]?=some x->vs[i]?=some v->kindOf x=some .local ->
  bindL kindOf (P.zip vs) m x=some v
 | [],_,_,_,_,h,_,_=>by simp at h
 | _::_,[],_,_,_,_,h,_=>by simp at h
 | p::P,w::vs,0,m,nd,h1,h2,hk=>by
  simp at h1 h2; subst h1; subst h2
  show bindL kindOf ((p,w)::P.zip vs) m p=_
  unfold bindL
  rw [ZiK λv hv=>(yW.mp nd).1 (zu hv).1,if_pos hk]
  simp
 | p::P,w::vs,i+1,m,nd,h1,h2,hk=>by
  show bindL kindOf ((p,w)::P.zip vs) m x=_
  unfold bindL
  exact ZiL (i:=i) (yW.mp nd).2 (by simpa using h1) (by simpa using h2) hk
theorem ZiN {kindOf:Str->Option NameKind} {x:Str} {v:Value}:∀ {P:Am} {vs:Ak} {i:Nat} {m:Ao},P.Nodup->P[i]?=some x->vs[i]?=some v->kindOf x≠some .local ->
  bindC kindOf (P.zip vs) m x=some v
 | [],_,_,_,_,h,_,_=>by simp at h
 | _::_,[],_,_,_,_,h,_=>by simp at h
 | p::P,w::vs,0,m,nd,h1,h2,hk=>by
  simp at h1 h2; subst h1; subst h2
  show bindC kindOf ((p,w)::P.zip vs) m p=_
  unfold bindC
  rw [ZiM λv hv=>(yW.mp nd).1 (zu hv).1,if_neg hk]
  simp
 | p::P,w::vs,i+1,m,nd,h1,h2,hk=>by
  show bindC kindOf ((p,w)::P.zip vs) m x=_
  unfold bindC
  exact ZiN (i:=i) (yW.mp nd).2 (by simpa using h1) (by simpa using h2) hk
noncomputable def start (N:Am) (vs:An):St:=vs.map some++List.replicate (N.length - vs.length) none
noncomputable def ie (CX:fw) (P:Program) (w:World) (K:zZ) (mg:Ao) (base:Heap) (N:Am) (qual:Str) (scope:Scope) (f:Addr) (cd:Value) (A:Around) (outer:List Env) (s:Shared) (H:Hp) (E:XK):Cx where
 prog:=P
 w:=w
 K:=K
 mg:=mg
 base:=base
 A:=A.deeper (envOfC qual scope s.heap.objs.size f cd)
 N:=N
 s₀:=s
 H₀:=H
 env:=envOfC qual scope s.heap.objs.size f cd
 outer:=outer
 stack:=envOfC qual scope s.heap.objs.size f cd::outer
 ex:=[]
 calm:=true
 fn:=λ_=>true
 pn:=[]
 xe:=λe s'=>wpAny (model P w) (A.deeper (envOfC qual scope s.heap.objs.size f cd)) (leaving (envOfC qual scope s.heap.objs.size f cd) e) (λ_ s''=>CX outer H s E e s'') (λe' s''=>CX outer H s E e' s'') s'
theorem Zin {sc:Scope} {n:Nat} {x:Str} (h:sc.names.lookup x=some .cell):∃ c,(cellsFrom n sc.names []).lookup x=some c:=by
 have q:=PySem.W.cellsFrom_some sc.names n [] (.inl h)
 exact Option.isSome_iff_exists.mp q
theorem ZnB {CX:fw} {P:Program} {w:World} {K:zZ} {mg:Ao} {base:Heap} {N ps:Am} {qual:Str} {scope:Scope} {f:Addr} {cd:Value} {A:Around} {outer:List Env} {s s1:Shared} {H:Hp} {E:XK} {us:Ak} {vs:An}
  (S:FnScope N ps scope) (hd:A.handled=none) (e0:Env0 P w K mg base A outer s H) (hl:vs.length=ps.length) (r:Vals vs us)
  (x:InCallC s s.heap.objs.size (bindL (envOfC qual scope s.heap.objs.size f cd).kindOf (ps.zip us) λ_=>none) (cellsFrom (s.heap.objs.size+1) scope.names []) (bindC (envOfC qual scope s.heap.objs.size f cd).kindOf (ps.zip us) λ_=>none) s1) :
  Inv (ie CX P w K mg base N qual scope f cd A outer s H E) [] (start N vs) H s1:=by
 have hpl:ps.length<=N.length:=by have:=congrArg List.length S.pre; rw [xP] at this; omega
 obtain ⟨h1,tk,rfl,hk⟩:=x.done
 have noA:∀ b:Addr,b ∉ (ie CX P w K mg base N qual scope f cd A outer s H E).ex:=λb z=>absurd (show b∈([]:List Addr) from z) (by simp)
 refine ⟨⟨e0.mod,S.kind,rfl,rfl,wa _,λy z c h1 h2=>?_,λy hy=>?_,λy c _ h=>?_,λ_=>hd,Around.frames_deeper e0.frames,.inr ⟨rfl,rfl⟩,λb z=>absurd z (noA b),e0.bs,e0.bsz,λb _ _=>noA b,λb z=>absurd z (noA b),e0.funs,e0.frf⟩,
  rfl,e0.bare,Un.kept hk,⟨_,x.toInCall.ns,λi y v h1 h2 h3=>?_⟩,λy c h=>⟨_,x.cell y c h⟩,e0.hok.fresh (wa _),λy c h=>?_,λp hp=>absurd (show p∈([]:List (Addr×Obj)) from hp) (by simp),e0.hok.kept hk,?_⟩
 ·exact name_of_addr x.apart (xm h1) (xm h2)
 ·have hy:scope.names.lookup y=some .cell\/scope.names.lookup y=some .free:=hy
  rcases hy with hy | hy
  ·exact Zin hy
  ·exact absurd rfl (S.nofree _ (xm hy))
 ·exact yl (x.above y c (xm h))
 ·have hi:i < vs.length:=by
   unfold start at h2
   by_cases hi:i < vs.length
   ·exact hi
   ·rw [wM (by simpa using hi)] at h2
    rw [wN] at h2
    split at h2 <;> cases h2
  have ha:vs[i]?=some v:=by
   unfold start at h2
   rw [wS (by simpa using hi),v9] at h2
   cases e:vs[i]? with
   | none=>rw [e] at h2; cases h2
   | some a=>rw [e] at h2; cases h2; rfl
  obtain ⟨u,hu,rv⟩:=r.get ha
  have hp:ps[i]?=some y:=by
   rw [<- S.pre,zQ (by omega)]; exact h1
  have ndP:ps.Nodup:=by rw [<- S.pre]; exact S.nd.sublist (List.take_sublist _ _)
  refine ⟨u,rv,?_⟩
  rcases S.par y (xI hp) with k | k
  ·exact .inl ⟨k,ZiL ndP hp hu k⟩
  ·obtain ⟨c,e⟩:=Zin (n:=s.heap.objs.size+1) k
   refine .inr ⟨.inl k,c,e,?_⟩
   have q:=x.cell y c e
   rw [ZiN ndP hp hu (by show scope.names.lookup y≠_; rw [k]; decide)] at q
   exact q
 ·exact e0.hok.fresh (yl (x.above y c (xm h)))
 ·unfold start
  show _=N.length
  rw [wx,v7,xU]
  omega
theorem ZnV {CX:fw} {P:Program} {w:World} {K:zZ} {mg:Ao} {base:Heap} {k:Nat} {f:Addr} {name qual:Str} {params:Arguments} {body:List Stmt} {scope:Scope} {dV kV doc pm cdv ct oc:Value} {an od:Option Addr}
  {osl:Array (Option Value)} {N ps:Am} {sp:Sp} (lk:K.lookup f=some ⟨oc,od,.func (PySem.W.fnOf name qual params body scope dV kV doc pm an cdv ct),osl⟩) (hcd:PySem.W.codeIn K cdv qual=true) (S:FnScope N ps scope)
  (len:∀ vs H Q E,sp vs H Q E->vs.length=ps.length)
  (hbody:∀ (A:Around) (outer:List Env) (s:Shared) (H:Hp) (vs:An) (Q:VK) (E:XK),Room k (A.deeper (envOfC qual scope s.heap.objs.size f cdv))->sp vs H Q E ->
   ∃ t,PSs (ie CX P w K mg base N qual scope f cdv A outer s H E) body t/\t { nx:=λ_ H'=>Q .non H',rt:=Q } (start N vs) H) :
  FnOk P w K mg base CX (k+1) f (PySem.W.fnOf name qual params body scope dV kV doc pm an cdv ct) ps sp:=by
 refine ⟨len,λA outer s H args us vs Q E hr e0 hb r hsp=>?_⟩
 have hl:=len _ _ _ _ hsp
 have KX:K.In s.heap:=e0.mod.kin.keeps λb o e=>(e0.bs b o e).1
 have lim:s.heap.NoLimit:=e0.mod.nolimit.keeps λb o e=>(e0.bs b o e).1
 have hkind:∀ y∈ps.zip us,scope.names.lookup y.1=some .local\/(scope.names.lookup y.1=some .cell/\((cellsFrom (s.heap.objs.size+1) scope.names []).lookup y.1).isSome=true):=λ⟨n,v⟩ hy=>by
  rcases S.par n (zu hy).1 with q | q
  ·exact .inl q
  ·exact .inr ⟨q,PySem.W.cellsFrom_some _ _ _ (.inl q)⟩
 refine codeAny_call_function hr.depth (KX _ _ lk) rfl S.co S.gen rfl (PySem.W.codeRec_of KX hcd) (hb _ _ _ _ ?_)
 refine wpAny_newFunctionEnv_cells S.kind hkind λenv he s1 x=>?_
 subst he
 refine ⟨lim.keeps x.toInCall.keep,codeAny_func ?_⟩
 obtain ⟨t,ht,hq⟩:=hbody A outer s H vs Q E (hr.deeper _) hsp
 have I:Inv (ie CX P w K mg base N qual scope f cdv A outer s H E) [] (start N vs) H s1:=ZnB S hr.hd e0 hl r x
 refine wpAny_mono (ht [] s1 (start N vs) H _ I hq) (λfl s' hs=>?_) λe s' hs=>hs
 have fin:∀ {σ':St} {H':Hp} {v:V} {u:Value},Inv (ie CX P w K mg base N qual scope f cdv A outer s H E) [] σ' H' s'->RelV v u->Q v H'->CE outer P w H s Q u s' :=
  λ{σ' H' v u} J rv q=>⟨v,H',J.os,J.bare,J.base,J.hok,rv,q⟩
 cases fl with
 | ret u =>
  obtain ⟨v,σ',H',J,rv,q⟩:=hs
  exact fin J rv q
 | next =>
  obtain ⟨σ',H',J,q⟩:=hs
  exact fin (v:=V.non) (u:=Value.none) J rfl q
 | brk =>
  obtain ⟨_,_,_,q⟩:=hs
  exact False.elim q
 | cont =>
  obtain ⟨_,_,_,q⟩:=hs
  exact False.elim q
section
variable {X:Cx} {x:Str} {p pos:Pos} {e:Expr} {es:List Expr} {t:TA} {id T:String} {r:List V->Hp->VK->Prop}
def fS (r:List V->Hp->VK->Prop) (t:TA):TE:=λσ H Q=>t σ H λvs H1=>r vs H1 Q
theorem bj (hc:dM X (.builtin id) r) (hg:Gl X x) (hm:X.mg x=none) (hv:bootBuiltins x=some (.builtin id)) (ha:PA X (e::es) t) (hn:x≠"__name__":=by decide) (hdb:(x == ("__debug__":Str))=false:=by decide)
  (he:starEach (e::es) X.env=(false,eval e X.env)::starEach es X.env:=by rfl) (hpl:(backTo pos (starEach es X.env)).any (·.1)=false:=by rfl):PE X (.Call (.Name x p) (e::es) [] pos) (fS r t):=by
 intro pins s σ H Q I h
 refine wpAny_Call_Name_kw (iS I hg hm hv ?_ hn hdb)
 exact PyProof.Rows.callWith_builtin1 (thn (ha pos pins s σ H _ I h) λus s1 ⟨vs,H1,I1,r1,q1⟩=>hc pins s1 σ H1 vs us Q I1 r1 q1) he hpl
theorem dJ (hc:dM X (.type T) r) (hg:Gl X x) (hm:X.mg x=none) (hv:bootBuiltins x=some (.type T)) (ha:PA X (e::es) t) (hn:x≠"__name__":=by decide) (hdb:(x == ("__debug__":Str))=false:=by decide)
  (he:starEach (e::es) X.env=(false,eval e X.env)::starEach es X.env:=by rfl) (hpl:(backTo pos (starEach es X.env)).any (·.1)=false:=by rfl):PE X (.Call (.Name x p) (e::es) [] pos) (fS r t):=by
 intro pins s σ H Q I h
 refine wpAny_Call_Name_kw (iS I hg hm hv ?_ hn hdb)
 exact xk (thn (ha pos pins s σ H _ I h) λus s1 ⟨vs,H1,I1,r1,q1⟩=>hc pins s1 σ H1 vs us Q I1 r1 q1) he hpl
end
end L2
namespace HT
noncomputable def df:List Int->List Int->Bool
 | [],[]=>false
 | [],_::_=>true
 | _::_,[]=>false
 | x::xs,y::ys=>if x=y then df xs ys else decide (x < y)
theorem ZdM (x y:Int) (xs ys:Aj):df (x::xs) (y::ys)=if x=y then df xs ys else decide (x < y):=rfl
theorem ZdL:df [] []=false:=rfl
theorem Zm5 (y:Int) (ys:Aj):df [] (y::ys)=true:=rfl
theorem Zm6 (x:Int) (xs:Aj):df (x::xs) []=false:=rfl
theorem Zn5 (A:Around) (s:Shared) (a:Int) (t:Tok) (c:Int) (u:Tok):∃ e,SeqAt.EqAt A s (.int a t) (.int c u) e/\(e=true ↔ a=c) :=
 ⟨(a == c),SeqAt.EqAt.int_int a t c u,by simp⟩
theorem Zk9 (A:Around) (s:Shared) (a:Int) (t:Tok) (c:Int) (u:Tok) (prog:Program) (w:World) (E:Ah) (Q:Ah) (h:Q (.bool (decide (a < c))) s) :
  wpAny (model prog w) A (richCompare .Lt (.int a t) (.int c u)) Q E s :=
 (PyProof.Rows.lt_int h:wpAny (model prog w) A (compareOp .Lt (.int a t) (.int c u)) Q E s)
section
open PySem.SeqAt
open PySem.AutoSeq1 (wpAny_loadPart')
open PySem.MeetsSeq PySem.MeetsSeq2 PySem.MeetsSeq3
theorem ZjG (l b:Addr) (items items2:Array Value) (n n2:Nat) (dd dd2:Option Addr) (sl fD:Array (Option Value)) (ns ms:Aj) (hi:IntsAre items.toList ns) (hj:IntsAre items2.toList ms) :
  Meets (Builtin.«tuple.__lt__» ⟨[.ref l,.ref b],[]⟩)
   (λ_ R s=>s.heap.get? l=some { cls:=.type "tuple",dict:=dd,data:=.seq items n,slots:=sl }/\s.heap.get? b=some { cls:=.type "tuple",dict:=dd2,data:=.seq items2 n2,slots:=fD } /\
    R (.ok (.ret (.bool (df ns ms)))) s) :=
 .of_wp λprog w A R s h=>by
  obtain ⟨hp,g,d,tk,os⟩:=s; obtain ⟨hl,hb,h⟩:=h
  have f2:=AutoSeq1.sub_tuple_tuple
  have z1:items.size=ns.length:=by rw [<- hi.length]; simp
  have z2:items2.size=ms.length:=by rw [<- hj.length]; simp
  wp_walk using wpAny_loadPart' hl,wpAny_loadPart' hb,wpAny_forIn_list _ (λrest b s'=>b.1=none/\s'=⟨hp,g,d,tk,os⟩/\∃ (vs ws:Ak) (ns' ms':Aj),rest=vs.zip ws /\
   IntsAre vs ns'/\IntsAre ws ms'/\ns'.length+items2.size=ms'.length+items.size/\R (.ok (.ret (.bool (df ns' ms')))) ⟨hp,g,d,tk,os⟩) _
  case turn =>
   rintro ⟨y,x⟩ rest b s' ⟨hb',rfl,vs,ws,ns',ms',hz,hvi,hwi,hlen,hR⟩
   cases hvi with
   | nil=>rw [List.zip_nil_left] at hz; cases hz
   | cons a t hvi' =>
    cases hwi with
    | nil=>rw [List.zip_nil_right] at hz; cases hz
    | cons c u hwi' =>
     rw [ze] at hz
     injection hz with hyx hrest
     injection hyx with hy hx
     subst hy hx
     rw [ZdM] at hR
     simp only [wl] at hlen
     obtain ⟨e,he,hiff⟩:=Zn5 A.in1 ⟨hp,g,d,tk,os⟩ a t c u
     refine wpAny_bind (he prog w _ _ ?_)
     cases e with
     | true =>
      rw [if_pos (hiff.mp rfl)] at hR
      wp_walk
      exact ⟨rfl,rfl,_,_,_,_,hrest,hvi',hwi',by omega,hR⟩
     | false =>
      rw [if_neg (λq=>absurd (hiff.mpr q) wn)] at hR
      have hri:=Zk9 A.in1 ⟨hp,g,d,tk,os⟩ a t c u prog w
      wp_walk using hri
      exact ⟨_,rfl,by simpa using hR⟩
  case fin =>
   rintro ⟨b1,b2⟩ s' ⟨hb',rfl,vs,ws,ns',ms',hz,hvi,hwi,hlen,hR⟩
   simp only at hb'
   subst hb'
   have hv:df ns' ms'=decide (items.size < items2.size):=by
    cases hvi with
    | nil =>
     cases hwi with
     | nil =>
      simp only [xo] at hlen
      rw [ZdL]
      exact (decide_eq_false (by omega)).symm
     | cons c u hw =>
      simp only [xo,wl] at hlen
      rw [Zm5]
      exact (decide_eq_true (by omega)).symm
    | cons a t hv =>
     cases hwi with
     | nil =>
      simp only [xo,wl] at hlen
      rw [Zm6]
      exact (decide_eq_false (by omega)).symm
     | cons c u hw =>
      rw [ze] at hz
      cases hz
   rw [hv] at hR
   wp_walk
   exact ⟨_,rfl,by simpa [Builtin.Tuple.tupleCompareSizes] using hR⟩
  case h =>
   exact ⟨rfl,rfl,items.toList,items2.toList,ns,ms,rfl,hi,hj,by omega,h⟩
end
section
variable {prog:Program} {w:World} {A:Around} {E:Ah} {s:Shared}
theorem ZmT {l b:Addr} {items items2:Array Value} {ns ms:Aj} {Q:Ah} (hl:IsTup s.heap l items) (hb:IsTup s.heap b items2) (hi:IntsAre items.toList ns) (hj:IntsAre items2.toList ms)
  (hu:A.units < cLine) (h:Q (.bool (df ns ms)) s):wpAny (model prog w) A (compareOp .Lt (.ref l) (.ref b)) Q E s:=by
 obtain ⟨⟨cls,dd,data,sl⟩,ho,hc,n,hd⟩:=id hl
 obtain ⟨⟨cls2,dd2,data2,fD⟩,ho2,hc2,n2,hd2⟩:=id hb
 simp only at hc hd hc2 hd2
 subst hc hd hc2 hd2
 exact richCompare_meets_room (op:=.Lt) ⟨_,ho,rfl⟩ ⟨_,ho2,rfl⟩ PySem.F.slot_tuple_lt PySem.F.entry_tuple_lt (PySem.F.args_tuple_lt_2 _ _) (ZjG l b items items2 n n2 dd dd2 sl fD ns ms hi hj)
  ⟨ho,ho2,show Value.bool (df ns ms)≠Value.notImplemented/\Q (.bool (df ns ms)) s from ⟨(λx=>nomatch x),h⟩⟩ hu
theorem Zpy {t b:Addr} {vs ws:Ak} {Q:Ah} (ht:IsTup s.heap t vs.toArray) (hb:IsTup s.heap b ws.toArray) (hv:vs≠[])
  (h1:ws=[]->Q (.ref t) s) (h2:ws≠[]->Q (.ref s.heap.objs.size) { s with heap:=s.heap.push { cls:=.type "tuple",data:=.seq (vs++ws).toArray } })
  (hsz:vs.length+ws.length<=sizeLine):wpAny (model prog w) A (binaryOp .Add (.ref t) (.ref b)) Q E s:=by
 obtain ⟨⟨cls,dd,data,sl⟩,ho,hc,n,hd⟩:=id ht
 obtain ⟨⟨cls2,dd2,data2,fD⟩,ho2,hc2,n2,hd2⟩:=id hb
 simp only at hc hd hc2 hd2
 subst hc hd hc2 hd2
 have e:vs.toArray++ws.toArray=(vs++ws).toArray:=by simp
 by_cases hw:ws=[]
 ·exact concat_meets ⟨_,ho,rfl⟩ ⟨_,ho2,rfl⟩ noFill_tuple_add seq_tuple_add yQ yH (yC _ _)
   (tuple_addW1 t b vs.toArray ws.toArray n n2 dd dd2 sl fD (by simpa using hv) (by simp [hw])) ⟨ho,ho2,h1 hw⟩
 ·refine concat_meets ⟨_,ho,rfl⟩ ⟨_,ho2,rfl⟩ noFill_tuple_add seq_tuple_add yQ yH (yC _ _)
   (tuple_addW2 t b vs.toArray ws.toArray n n2 dd dd2 sl fD (by simpa using hv) (by simpa using hw) (by rw [wj,wj]; exact hsz)) ⟨ho,ho2,?_⟩
  rw [e]
  exact h2 hw
noncomputable def aU (n d:Nat):Option Int->Nat
 | none=>d
 | some v=>if v < 0 then (v+(n:Int)).toNat else min v.toNat n
theorem ZkM (n d:Nat):aU n d none=d:=rfl
theorem ZbT (n d k:Nat):aU n d (some (k:Int))=min k n:=by
 show (if (k:Int) < 0 then ((k:Int)+(n:Int)).toNat else min (k:Int).toNat n)=min k n
 rw [if_neg (by omega),wU]
theorem ZkN (n d:Nat) (hd:d<=n) (o:Option Int):aU n d o<=n:=by
 cases o with
 | none=>exact hd
 | some v =>
  show (if v < 0 then (v+(n:Int)).toNat else min v.toNat n)<=n
  by_cases hv:v < 0
  ·rw [if_pos hv]; omega
  ·rw [if_neg hv]; exact zp _ _
theorem Zik (v:Int) (n d:Nat):(if v < 0 then max (v+(n:Int)) 0 else min v (n:Int))=((aU n d (some v):Nat):Int):=by
 show (if v < 0 then max (v+(n:Int)) 0 else min v (n:Int))=(((if v < 0 then (v+(n:Int)).toNat else min v.toNat n):Nat):Int)
 by_cases hv:v < 0
 ·rw [if_pos hv,if_pos hv,Int.ofNat_toNat]
 ·rw [if_neg hv,if_neg hv]
  obtain ⟨k,rfl⟩:=yL (Int.not_lt.mp hv)
  rw [wU,<- zR]
theorem ZqA (lo hi:Option Int) (n:Nat):Builtin.Slice.sliceAdjust lo hi 1 (n:Int)=(((aU n 0 lo:Nat):Int),((aU n n hi:Nat):Int)):=by
 have h1:¬ ((1:Int) < 0):=by omega
 unfold Builtin.Slice.sliceAdjust
 simp only [h1,if_false]
 refine Prod.ext ?_ ?_
 ·cases lo with
  | none=>rfl
  | some v=>exact Zik v n 0
 ·cases hi with
  | none=>rfl
  | some v=>exact Zik v n n
theorem Zlx (i j:Nat):Builtin.Slice.slicePlaces (i:Int) (j:Int) 1=j - i:=by
 unfold Builtin.Slice.slicePlaces
 have h1:(1:Int) > 0:=by omega
 simp only [h1,if_true,Int.ediv_one]
 split <;> omega
theorem ZaU {v:Value} {o:Option Int} {Q:Option Int->Shared->Prop} (p:IsPart v o) (h:Q o s):wpAny (model prog w) A (Builtin.Slice.slicePartIndex v) Q E s:=by
 cases p with
 | none=>exact slicePart_none h
 | int i t=>exact slicePart_int h
theorem ZaW {sl:Addr} {vl vu:Value} {lo hi:Option Int} {n:Nat} {Q:Int×Int×Nat->Shared->Prop} (hs:s.heap.IsSliceOf sl vl vu .none) (pl:IsPart vl lo) (pu:IsPart vu hi)
  (h:Q (((aU n 0 lo:Nat):Int),1,aU n n hi - aU n 0 lo) s):wpAny (model prog w) A (Builtin.Slice.sliceApplied (.ref sl) (pure (n:Int))) Q E s:=by
 obtain ⟨os,hos,hcs,hds⟩:=id hs
 unfold Builtin.Slice.sliceApplied Builtin.Slice.sliceFields
 refine wpAny_bind (wpAny_bind (wpAny_field hos hds (x:=vl) rfl (wpAny_bind (wpAny_field hos hds (x:=vu) rfl (wpAny_bind (wpAny_field hos hds (x:=.none) rfl (wpAny_pure ?_)))))))
 refine wpAny_bind (slicePart_none ?_)
 show wpAny _ _ (if ((1:Int) == 0)=true then _ else _) _ _ s
 rw [if_neg (by decide)]
 refine wpAny_bind (ZaU pl (wpAny_bind (ZaU pu (wpAny_bind (wpAny_pure ?_)))))
 show wpAny _ _ (match Builtin.Slice.sliceAdjust lo hi 1 (n:Int) with | (lo,hi)=>pure (lo,(1:Int),Builtin.Slice.slicePlaces lo hi 1)) _ _ s
 rw [ZqA lo hi n]
 show wpAny _ _ (pure (((aU n 0 lo:Nat):Int),(1:Int),Builtin.Slice.slicePlaces ((aU n 0 lo:Nat):Int) ((aU n n hi:Nat):Int) 1)) _ _ s
 rw [Zlx]
 exact wpAny_pure h
theorem Zly (xs:Array Value) (i k:Nat):((List.range k).filterMap λ(m:Nat)=>xs[((i:Int)+(m:Int) * 1).toNat]?).toArray=((xs.toList.drop i).take k).toArray:=by
 have e:(λ(m:Nat)=>xs[((i:Int)+(m:Int) * 1).toNat]?)=λm=>xs[i+m]?:=by
  funext m
  have:((i:Int)+(m:Int) * 1).toNat=i+m:=by omega
  rw [this]
 rw [e]
 have:=pick_run xs i k
 rw [List.filterMap_map] at this
 have e2:((λx=>xs[x]?) ∘ λx=>i+x)=λm=>xs[i+m]?:=rfl
 rw [e2] at this
 rw [this]
theorem ZnI {t sl:Addr} {items:Array Value} {vl vu:Value} {lo hi:Option Int} {Q:Ah} (ht:IsTup s.heap t items) (hs:s.heap.IsSliceOf sl vl vu .none) (pl:IsPart vl lo) (pu:IsPart vu hi)
  (hw:¬ (aU items.size 0 lo=0/\aU items.size items.size hi=items.size))
  (h:Q (.ref s.heap.objs.size) { s with heap:=s.heap.push { cls:=.type "tuple",data:=.seq ((items.toList.drop (aU items.size 0 lo)).take (aU items.size items.size hi - aU items.size 0 lo)).toArray } })
  (hsz:items.size<=sizeLine):wpAny (model prog w) A (getItem (.ref t) (.ref sl)) Q E s:=by
 have htake:sizeOk (.seq ((items.toList.drop (aU items.size 0 lo)).take (aU items.size items.size hi - aU items.size 0 lo)).toArray):=by
  show ((items.toList.drop (aU items.size 0 lo)).take (aU items.size items.size hi - aU items.size 0 lo)).toArray.size<=sizeLine
  rw [wj,xP,x9,zc]
  exact ww (zp _ _) (ww (Nat.sub_le _ _) hsz)
 have hj:aU items.size items.size hi<=items.size:=ZkN _ _ (wa _) hi
 obtain ⟨os,hos,hcs,hds⟩:=id hs
 have hTs:s.TypeIs (.ref sl) "slice":=⟨os,hos,hcs⟩
 unfold getItem
 try with_reducible refine wpAny_holding ?_
 first | refine wpAny_bind (wpAny_pure ?_) | skip
 refine wpAny_bind (wpAny_sequenceKey ht.typeIs (by decide) ?_)
 refine wpAny_bind (wpAny_callSpecial?_slot (name:=Str.ofString "__getitem__") ht.typeIs xJ
  (wpAny_call_entry xJ ht.typeIs entry_tuple_getitem ?_ (args_tuple_getitem _ _)))
 show wpAny _ _ (Builtin.Tuple.tupleItemsOf (.ref t) >>= _) _ _ s
 refine wpAny_bind (tupleItemsOf_ ht ?_)
 refine wpAny_bind (wpAny_typeOf hTs ?_)
 rw [if_pos (by decide)]
 refine wpAny_bind (ZaW hs pl pu ?_)
 have hno:¬ ((((aU items.size 0 lo:Nat):Int) == 0 && (1:Int) == 1 && (aU items.size items.size hi - aU items.size 0 lo) == items.size)=true):=by
  intro q
  rw [wD,wD] at q
  have q1:((aU items.size 0 lo:Nat):Int)=0:=eq_of_beq q.1.1
  have q2:aU items.size items.size hi - aU items.size 0 lo=items.size:=eq_of_beq q.2
  exact hw ⟨by omega,by omega⟩
 show wpAny _ _ (if (((aU items.size 0 lo:Nat):Int) == 0 && (1:Int) == 1 && (aU items.size items.size hi - aU items.size 0 lo) == items.size)=true then _ else _) _ _ s
 rw [if_neg hno,Zly]
 first
  | exact wpAny_bind (m:=Builtin.Tuple.tupleExact _) (wpAny_newObj_type (wpAny_pure ⟨_,rfl,wpAny_pure h⟩) htake)
  | exact wpAny_bind (m:=Builtin.Tuple.tupleExact _) (wpAny_newObj_type (wpAny_bind (wpAny_pure (wpAny_pure ⟨_,rfl,wpAny_pure h⟩))) htake)
  | exact wpAny_bind (wpAny_bind (m:=Builtin.Tuple.tupleExact _) (wpAny_newObj_type (wpAny_pure (wpAny_pure ⟨_,rfl,wpAny_pure h⟩)) htake))
  | exact wpAny_bind (wpAny_bind (m:=Builtin.Tuple.tupleExact _) (wpAny_newObj_type (wpAny_pure ⟨_,rfl,wpAny_pure h⟩) htake))
end
end HT
namespace L2
noncomputable abbrev TO:=St->Hp->(Option Int->Hp->Prop)->Prop
noncomputable def PO (X:Cx) (e:Option Expr) (t:TO):Prop :=
 ∀ (pins:List (Addr×Obj)) (s:Shared) (σ:St) (H:Hp) (Q:Option Int->Hp->Prop),Inv X pins σ H s->t σ H Q ->
  wpAny (model X.prog X.w) X.A (evalPart e X.env) (λu s'=>∃ o H',Inv X pins σ H' s'/\IsPart u o/\Q o H') X.xe s
noncomputable def ZjY:TO:=λ_ H Q=>Q none H
noncomputable def ZjU (t:TE):TO:=λσ H Q=>t σ H λx H1=>∃ i,x=.int i/\Q (some i) H1
theorem Zee {ns:Aj}:∀ {us:Ak},Vals (ns.map V.int) us->IntsAre us ns:=by
 induction ns with
 | nil=>intro us r; rw [xv] at r; cases r; exact .nil
 | cons n ns ih =>
  intro us r
  rw [wf] at r
  cases r with
  | cons r1 r2 =>
   obtain ⟨t,e⟩:=r1
   subst e
   exact .cons n t (ih r2)
section
variable {X:Cx} {e:Expr} {te:TE} {lo hi:Option Expr} {tl th:TO} {pos p2:Pos}
theorem ZcE:PO X none ZjY:=by
 intro pins s σ H Q I h
 rw [evalPart_none]
 exact wpAny_pure ⟨none,H,I,.none,h⟩
theorem ZcD (h:PE X e te):PO X (some e) (ZjU te):=by
 intro pins s σ H Q I hw
 rw [evalPart_some]
 refine thn (h pins s σ H _ I hw) λu s1 hz0=>?_
 obtain ⟨x,H1,I1,r1,q1⟩:=hz0
 obtain ⟨i,rfl,q⟩:=q1
 obtain ⟨t,rfl⟩:=r1
 exact ⟨some i,H1,I1,.int i t,q⟩
noncomputable def SlR (X:Cx) (r:V->Option Int->Option Int->Hp->VK->Prop):Prop :=
 ∀ (pins:List (Addr×Obj)) (s:Shared) (σ:St) (H:Hp) (x:V) (v vl vu:Value) (lo hi:Option Int) (sl:Addr) (Q:VK),Inv X pins σ H s->RelV x v->s.heap.IsSliceOf sl vl vu .none->IsPart vl lo->IsPart vu hi->r x lo hi H Q ->
  ∃ T id,typeLookup (.type T) "__getitem__"=pure (some (.builtin id))/\s.TypeIs v T/\wpAny (model X.prog X.w) X.A (getItem v (.ref sl)) (EP X pins σ Q) X.xe s
theorem SlR.or {r r':V->Option Int->Option Int->Hp->VK->Prop} (h:SlR X r) (h':SlR X r'):SlR X (λx lo hi H Q=>r x lo hi H Q\/r' x lo hi H Q):=by
 intro pins s σ H x v vl vu lo hi sl Q I rx hs pl pu q
 rcases q with q | q
 ·exact h pins s σ H x v vl vu lo hi sl Q I rx hs pl pu q
 ·exact h' pins s σ H x v vl vu lo hi sl Q I rx hs pl pu q
def tSl (r:V->Option Int->Option Int->Hp->VK->Prop) (te:TE) (tl th:TO):TE:=λσ H Q=>te σ H λx H1=>tl σ H1 λl H2=>th σ H2 λu H3=>r x l u H3 Q
theorem ZcJ {r:V->Option Int->Option Int->Hp->VK->Prop} (hr:SlR X r) (he:PE X e te) (hl:PO X lo tl) (hu:PO X hi th):PE X (.Subscript e (.Slice lo hi none p2) pos) (tSl r te tl th):=by
 intro pins s σ H Q I h
 refine Subscript_ (thn (he pins s σ H _ I h) λv s1 hz0=>?_)
 obtain ⟨x,H1,I1,r1,q1⟩:=hz0
 refine wpAny_Slice (thn (hl pins s1 σ H1 _ I1 q1) λvl s2 ⟨l,H2,I2,pl,q2⟩=>thn (hu pins s2 σ H2 _ I2 q2) λvu s3 hz0=>?_)
 obtain ⟨u,H3,I3,pu,q3⟩:=hz0
 rw [evalPart_none]
 refine wpAny_pure ?_
 have I4:Inv X pins σ H3 { s3 with heap:=s3.heap.push { cls:=.type "slice",data:=.fields #[vl,vu,.none] } }:=I3.kept (t':=s3.toks) λb ob q=>v6 _ q
 obtain ⟨T,id,hT,ht,hg⟩:=hr pins { s3 with heap:=s3.heap.push { cls:=.type "slice",data:=.fields #[vl,vu,.none] } } σ H3 x v vl vu l u s3.heap.objs.size Q I4 r1 (Heap.IsSliceOf.new ..) pl pu q3
 show wpAny (model X.prog X.w) X.A (subscriptTail e (.Slice lo hi none p2) v (.ref s3.heap.objs.size)) (EP X pins σ Q) X.xe { s3 with heap:=s3.heap.push { cls:=.type "slice",data:=.fields #[vl,vu,.none] } }
 exact tail_any (ops:=[.ref s3.heap.objs.size,v]) ht hT hg (by with_unfolding_all rfl)
noncomputable def fN (xs:An) (lo hi:Option Int):An:=(xs.drop (HT.aU xs.length 0 lo)).take (HT.aU xs.length xs.length hi - HT.aU xs.length 0 lo)
theorem Zig (xs:An) (lo hi:Option Int):(fN xs lo hi).length<=xs.length:=by
 unfold fN
 rw [xP,x9]
 exact ww (zp _ _) (Nat.sub_le _ _)
noncomputable def Zcb (K:zZ):V->Option Int->Option Int->Hp->VK->Prop:=λx lo hi H Q=>∃ a xs,x=.ref a/\SqT K H a xs /\
 ¬ (HT.aU xs.length 0 lo=0/\HT.aU xs.length xs.length hi=xs.length)/\∀ p,H p=none->Q (.ref p) (upd H p (.tup (fN xs lo hi)))
theorem Zkq:SlR X (Zcb X.K):=by
 intro pins s σ H x v vl vu lo hi sl Q I rx hs pl pu h
 obtain ⟨a,xs,rfl,hx,hw,q⟩:=h
 cases rx
 obtain ⟨its,r,ht,hz⟩:=I.tuple hx
 have hlen:its.toArray.size=xs.length:=by rw [wj]; exact r.length.symm
 refine ⟨"tuple",_,PyProof.Rows.slot_tuple_getitem.lookup,ht.typeIs,?_⟩
 refine HT.ZnI ht hs pl pu (by rw [hlen]; exact hw) ?_ (by rw [hlen]; exact hz)
 rw [hlen]
 refine ⟨.ref s.heap.objs.size,_,I.laid (t':=s.toks) (o:=.tup (fN xs lo hi)) (λb ob q=>v6 _ q) (wa _) ?_,rfl,q _ (I.hok.fresh (wa _))⟩
 exact ⟨ww (Zig xs lo hi) hz,_,(r.drop (HT.aU xs.length 0 lo)).take (HT.aU xs.length xs.length hi - HT.aU xs.length 0 lo),IsTup.new _ _⟩
noncomputable def Zcr (K:zZ):R2:=λx y H Q=>∃ a b xs ys,x=.ref a/\y=.ref b/\SqT K H a xs/\SqT K H b ys/\xs≠[]/\xs.length+ys.length<=sizeLine /\
 (ys=[]->Q (.ref a) H)/\(ys≠[]->∀ p,H p=none->Q (.ref p) (upd H p (.tup (xs++ys))))
theorem Vals.nil_iff {xs:An} {us:Ak} (r:Vals xs us):us=[] ↔ xs=[]:=by
 cases r with
 | nil=>simp
 | cons _ _=>simp
theorem Zma:OpR X (binaryOp .Add) (Zcr X.K):=by
 intro pins s σ H x y v u Q I rx ry h
 obtain ⟨a,b,xs,ys,rfl,rfl,ha,hb,hx,hz,q1,q2⟩:=h
 cases rx
 cases ry
 obtain ⟨its,r1,p1,_⟩:=I.tuple ha
 obtain ⟨its2,r2,p2,_⟩:=I.tuple hb
 refine HT.Zpy p1 p2 (λz=>hx (r1.nil_iff.mp z)) (λz=>⟨.ref a,H,I,rfl,q1 (r2.nil_iff.mp z)⟩) (λz=>?_) (by rw [<- r1.length,<- r2.length]; exact hz)
 refine ⟨.ref s.heap.objs.size,_,I.laid (t':=s.toks) (o:=.tup (xs++ys)) (λb ob q=>v6 _ q) (wa _) ?_,rfl,q2 (λw=>z (r2.nil_iff.mpr w)) _ (I.hok.fresh (wa _))⟩
 exact ⟨by rw [wx]; exact hz,_,r1.append r2,IsTup.new _ _⟩
end
noncomputable def db (n:Nat) (i:Int):Option Nat:=if 0<=i then (if i < n then some i.toNat else none) else if -(n:Int)<=i then some (i+n).toNat else none
noncomputable def bz {α:Type} (xs:List α) (i:Int):Option α:=(db xs.length i).bind λj=>xs[j]?
theorem Zd6 {n:Nat} {i:Int} {j:Nat} (h:db n i=some j):seqIndex? i n=some j/\j < n/\-(n:Int)<=i/\i < n:=by
 unfold db at h
 by_cases h0:0<=i
 ·rw [if_pos h0] at h
  by_cases h1:i < n
  ·rw [if_pos h1] at h
   have e:i.toNat=j:=wJ h
   exact ⟨by rw [seqIndex_of h0 h1,e],by omega,by omega,h1⟩
  ·rw [if_neg h1] at h; cases h
 ·rw [if_neg h0] at h
  by_cases h1:-(n:Int)<=i
  ·rw [if_pos h1] at h
   have e:(i+n).toNat=j:=wJ h
   exact ⟨by rw [seqIndex_neg (by omega) h1,e],by omega,h1,by omega⟩
  ·rw [if_neg h1] at h; cases h
theorem qu {α:Type} {xs:List α} {i:Int} {v:α} (h:bz xs i=some v):∃ j,seqIndex? i xs.length=some j/\xs[j]?=some v/\j < xs.length/\-(xs.length:Int)<=i/\i < xs.length:=by
 unfold bz at h
 cases e:db xs.length i with
 | none=>rw [e] at h; cases h
 | some j =>
  rw [e] at h
  obtain ⟨h1,h2,h3,h4⟩:=Zd6 e
  exact ⟨j,h1,h,h2,h3,h4⟩
theorem f7 {α:Type} {xs:List α} {j:Nat} {v:α} (h:xs[j]?=some v):bz xs (j:Int)=some v:=by
 have hj:j < xs.length:=(we.mp h).1
 have e:db xs.length (j:Int)=some j:=by
  unfold db
  rw [if_pos (by omega),if_pos (by omega)]; simp
 unfold bz; rw [e]; exact h
def qP (b:Expr):Prop:=∀ o i,subscripted b false o i=operate [o,i] (getItem o i)
noncomputable def IxR (X:Cx) (r:R2):Prop :=
 ∀ (value slice:Expr) (pins:List (Addr×Obj)) (s:Shared) (σ:St) (H:Hp) (x y:V) (v u:Value) (Q:VK),Inv X pins σ H s->RelV x v->RelV y u->r x y H Q ->
  subscripted slice false v u=operate [v,u] (getItem v u)->wpAny (model X.prog X.w) X.A (subscriptTail value slice v u) (EP X pins σ Q) X.xe s
noncomputable def MtR (X:Cx) (id:String) (r:V->List V->Hp->VK->Prop):Prop :=
 ∀ (pins:List (Addr×Obj)) (s:Shared) (σ:St) (H:Hp) (x:V) (xs:An) (v:Value) (us:Ak) (Q:VK),Inv X pins σ H s->RelV x v->Vals xs us->r x xs H Q ->
  wpAny (model X.prog X.w) X.A (call (.builtin id) (v::us)) (EP X pins σ Q) X.xe s
section
variable {X:Cx} {a b:Expr} {ta tb:TE} {pos:Pos}
theorem IxR.or {r r':R2} (h:IxR X r) (h':IxR X r'):IxR X (λx y H Q=>r x y H Q\/r' x y H Q):=by
 intro value slice pins s σ H x y v u Q I rx ry q hs
 rcases q with q | q
 ·exact h value slice pins s σ H x y v u Q I rx ry q hs
 ·exact h' value slice pins s σ H x y v u Q I rx ry q hs
theorem oD {r:R2} (hr:IxR X r) (ha:PE X a ta) (hb:PE X b tb) (hs:qP b):PE X (.Subscript a b pos) (jm r ta tb):=by
 intro pins s σ H Q I h
 exact Subscript_ (vc ha hb I h λv u s2 x y H2 I2 rx ry q=>hr a b pins s2 σ H2 x y v u Q I2 rx ry q (hs _ _))
noncomputable def sY (K:zZ):R2:=λx y H Q=>∃ p xs i v,x=.ref p/\y=.int i/\SqL K H p xs/\bz xs i=some v/\Q v H
noncomputable def Zcl (K:zZ):R2:=λx y H Q=>∃ p xs i v,x=.ref p/\y=.int i/\SqT K H p xs/\bz xs i=some v/\Q v H
noncomputable def Zcm:R2:=λx y H Q=>∃ z i c,x=.str z/\y=.int i/\z.length<=sizeLine/\bz z.cps.toList i=some c/\Q (.str ⟨#[c]⟩) H
theorem ut:IxR X (sY X.K):=by
 intro value slice pins s σ H x y v u Q I rx ry h hs
 obtain ⟨p,xs,i,z,rfl,rfl,hq,he,q⟩:=h
 cases rx
 obtain ⟨t,rfl⟩:=ry
 obtain ⟨its,r,pl,hz⟩:=I.list hq
 obtain ⟨j,h1,h2,h3,h4,h5⟩:=qu he
 obtain ⟨w,ew,rw'⟩:=r.get h2
 have hl:=r.length
 have hn:=iR
 have fin:EP X pins σ Q w s:=⟨z,H,I,rw',q⟩
 by_cases h0:0<=i
 ·have hj:i.toNat=j:=by
   rw [seqIndex_of h0 h5] at h1
   exact wJ h1
  exact item_listR pl.isList h0 (by omega) (by rw [hj]; simpa using ew) fin hs
 ·have hj:(i+(its.toArray.size:Int)).toNat=j:=by
   rw [seqIndex_neg (by omega) h4] at h1
   rw [wj,<- hl]
   exact wJ h1
  exact subscriptTail_builtinR (x:=w) pl.isList.typeIs slot_list_getitem.lookup
   (wpAny_getItem_list_neg (Q:=λr s'=>r=w/\EP X pins σ Q r s') pl.isList (by omega) (by rw [wj] <;> omega) (by omega) (by rw [hj]; simpa using ew) ⟨rfl,fin⟩) hs
theorem Zd5:IxR X (Zcl X.K):=by
 intro value slice pins s σ H x y v u Q I rx ry h hs
 obtain ⟨p,xs,i,z,rfl,rfl,hq,he,q⟩:=h
 cases rx
 obtain ⟨t,rfl⟩:=ry
 obtain ⟨its,r,pl,hz⟩:=I.tuple hq
 obtain ⟨j,h1,h2,h3,h4,h5⟩:=qu he
 obtain ⟨w,ew,rw'⟩:=r.get h2
 have hl:=r.length
 have hn:=iR
 have fin:EP X pins σ Q w s:=⟨z,H,I,rw',q⟩
 exact subscriptTail_builtinR (x:=w) pl.typeIs slot_tuple_getitem.lookup
  (getItem_tuple (j:=j) (Q:=λr s'=>r=w/\EP X pins σ Q r s') pl (by omega) (by omega) (by rw [wj,<- hl]; exact h1) (by simpa using ew) ⟨rfl,fin⟩) hs
theorem Znt:IxR X Zcm:=by
 intro value slice pins s σ H x y v u Q I rx ry h hs
 obtain ⟨z,i,c,rfl,rfl,hz,he,q⟩:=h
 obtain ⟨t,rfl⟩:=rx
 obtain ⟨t',rfl⟩:=ry
 obtain ⟨j,h1,h2,h3,h4,h5⟩:=qu he
 have hl:z.cps.toList.length=z.length:=by simp [Str.length]
 rw [hl] at h1 h4 h5
 have hn:=iR
 exact tail_any (typeIs_str s z t) slot_str_getitem.lookup (getItem_str (c:=c) (by
  have e1:decide (i < -(2 ^ 63:Int))=false:=decide_eq_false (by omega)
  have e2:decide (i ≥ 2 ^ 63)=false:=decide_eq_false (by omega)
  rw [e1,e2,Bool.or_false]) (by rw [h1]; simpa using h2) ⟨.str ⟨#[c]⟩,H,I.tok _,⟨_,rfl⟩,q⟩) hs
noncomputable def rIx (K:zZ):R2:=λx y H Q=>sY K x y H Q\/Zcl K x y H Q\/Zcm x y H Q
theorem aE:IxR X (rIx X.K):=ut.or (Zd5.or Znt)
theorem ZmS (its:Ak) (n j:Nat) (u:Value):Obj.mapSeq (·.setIfInBounds j u) { cls:=.type "list",data:=.seq its.toArray n }={ cls:=.type "list",data:=.seq (its.set j u).toArray n }:=by
 simp [Obj.mapSeq]
theorem Inv.lst {pins:List (Addr×Obj)} {σ:St} {H:Hp} {s:Shared} {p:Addr} {xs:An} (I:Inv X pins σ H s) (h:H p=some (.lst xs)) :
  ∃ (its:Ak) (n:Nat),Vals xs its/\s.heap.get? p=some { cls:=.type "list",data:=.seq its.toArray n }/\xs.length<=sizeLine:=by
 obtain ⟨z,its,n,r,e⟩:=I.hok p _ h
 exact ⟨its,n,r,e,z⟩
theorem Inv.lstUpd {pins:List (Addr×Obj)} {σ:St} {H:Hp} {s:Shared} {p:Addr} {xs ys:An} {its its':Ak} {n n':Nat} {f:Obj->Obj} (I:Inv X pins σ H s) (h:H p=some (.lst xs))
  (ho:s.heap.get? p=some { cls:=.type "list",data:=.seq its.toArray n }) (hf:f { cls:=.type "list",data:=.seq its.toArray n }={ cls:=.type "list",data:=.seq its'.toArray n' }) (r:Vals ys its') (hz:ys.length<=sizeLine) (t:Nat) :
  Inv X pins σ (upd H p (.lst ys)) { s with heap:=s.heap.update p f,toks:=t }:=by
 have e:(s.heap.update p f).get? p=some { cls:=.type "list",data:=.seq its'.toArray n' }:=by
  rw [xM f ho (by rw [hf] <;> rfl),hf]
 refine I.write (x:=p) (e:=p) (by rw [h]; trivial) (.inl rfl) (λb u hb q=>(xa _ _ (Ne.symm hb)).trans q) ⟨_,e⟩ ?_
 exact ⟨hz,its',n',r,e⟩
noncomputable def sV:V->V->V->Hp->(Hp->Prop)->Prop:=λo i v H Q=>∃ p xs k j,o=.ref p/\i=.int k/\H p=some (.lst xs)/\db xs.length k=some j/\Q (upd H p (.lst (xs.set j v)))
theorem lU:vX X sV:=by
 intro pins s σ H o i v ov iv u Q I ro ri rv h
 obtain ⟨p,xs,k,j,rfl,rfl,hp,hj,q⟩:=h
 cases ro
 obtain ⟨t,rfl⟩:=ri
 obtain ⟨its,n,r,ho,hz⟩:=I.lst hp
 obtain ⟨h1,h2,h3,h4⟩:=Zd6 hj
 have hl:=r.length
 have hn:=iR
 have I':Inv X pins σ (upd H p (.lst (xs.set j v))) { s with heap:=s.heap.update p (Obj.mapSeq (·.setIfInBounds j u)) } :=
  I.lstUpd hp ho (ZmS its n j u) (r.set rv j) (by rw [wY]; exact hz) s.toks
 by_cases h0:0<=k
 ·have hk:k.toNat=j:=by
   rw [seqIndex_of h0 h4] at h1
   exact wJ h1
  exact PySem.W.ki_setAt ho h0 (by omega) (by rw [wj,<- hl]; exact h4) (by rw [hk]; exact ⟨_,I',q⟩)
 ·have hk:(k+(its.toArray.size:Int)).toNat=j:=by
   rw [seqIndex_neg (by omega) h3] at h1
   rw [wj,<- hl]
   exact wJ h1
  exact PySem.W.ki_setBack ho (by omega) (by rw [wj,<- hl]; exact h3) (by omega) (by rw [hk]; exact ⟨_,I',q⟩)
theorem qb {n:Nat} {i:Int} (h:i < 0):max 0 (min (i+(n:Int)) n)=(((i+n).toNat:Nat):Int):=by
 rw [Int.min_eq_left (by omega),Int.ofNat_toNat,Int.max_comm]
theorem Zif {n:Nat} {i:Int} (h:¬ i < 0):max 0 (min i (n:Int))=((min i.toNat n:Nat):Int):=by
 obtain ⟨k,rfl⟩:=yL (Int.not_lt.mp h)
 rw [wU,<- zR]
 exact Int.max_eq_right (Int.natCast_nonneg _)
theorem Zkn (lo hi:Option Int) (n:Nat):(sliceBounds lo hi none n).1=((HT.aU n 0 lo:Nat):Int)/\(sliceBounds lo hi none n).2.1=((HT.aU n n hi:Nat):Int)/\(sliceBounds lo hi none n).2.2=1:=by
 refine ⟨?_,?_,rfl⟩
 ·cases lo with
  | none=>simp [sliceBounds,HT.aU]
  | some i =>
   simp only [sliceBounds,HT.aU,Option.getD_none,show (1:Int) > 0 by decide,if_true]
   by_cases h:i < 0
   ·simp only [h,if_true]
    exact qb h
   ·simp only [h,if_false]
    exact Zif h
 ·cases hi with
  | none=>simp [sliceBounds,HT.aU]
  | some i =>
   simp only [sliceBounds,HT.aU,Option.getD_none,show (1:Int) > 0 by decide,if_true]
   by_cases h:i < 0
   ·simp only [h,if_true]
    exact qb h
   ·simp only [h,if_false]
    exact Zif h
theorem Zko (its:Ak) (lo hi:Option Int):slicePick its.toArray lo hi none=((its.drop (HT.aU its.length 0 lo)).take (HT.aU its.length its.length hi - HT.aU its.length 0 lo)).toArray:=by
 obtain ⟨h1,h2,h3⟩:=Zkn lo hi its.toArray.size
 unfold slicePick
 rw [h1,h2,h3]
 simp only [sliceRange_one,pick_run,wj] <;> rfl
noncomputable def Zcc (K:zZ):V->Option Int->Option Int->Hp->VK->Prop:=λx lo hi H Q=>∃ a xs,x=.ref a/\SqL K H a xs/\∀ p,H p=none->Q (.ref p) (upd H p (.lst (fN xs lo hi)))
theorem ZaX:SlR X (Zcc X.K):=by
 intro pins s σ H x v vl vu lo hi sl Q I rx hs pl pu h
 obtain ⟨a,xs,rfl,hx,q⟩:=h
 cases rx
 obtain ⟨its,r,ht,hz⟩:=I.list hx
 have hlen:=r.length
 refine ⟨"list",_,slot_list_getitem.lookup,ht.isList.typeIs,?_⟩
 refine wpAny_getItem_list_slice ht.isList hs pl pu .none (by simp) ?_ (by rw [wj] <;> omega)
 rw [Zko,<- hlen]
 refine ⟨.ref s.heap.objs.size,_,I.laid (t':=s.toks) (o:=.lst (fN xs lo hi)) (λb ob q=>v6 _ q) (wa _) ?_,rfl,q _ (I.hok.fresh (wa _))⟩
 exact ⟨ww (Zig xs lo hi) hz,_,0,(r.drop (HT.aU xs.length 0 lo)).take (HT.aU xs.length xs.length hi - HT.aU xs.length 0 lo),wc _ rfl⟩
theorem eI:dM X (.builtin "len") (λxs H Q=>∃ p ys,xs=[.ref p]/\(SqL X.K H p ys\/SqT X.K H p ys)/\Q (.int ys.length) H):=by
 intro pins s σ H xs us Q I r h
 obtain ⟨p,ys,rfl,hq,q⟩:=h
 obtain ⟨u,rfl,rx⟩:=eJ r
 cases rx
 have hn:=iR
 rcases hq with hq | hq
 ·obtain ⟨its,r',pl,hz⟩:=I.list hq
  have hlen:=r'.length
  exact Calls.call_len_list pl.isList (by simp only [wj] <;> omega) ⟨.int ys.length,H,I.tok _,⟨s.toks+1,by rw [wj,hlen]⟩,q⟩
 ·obtain ⟨its,r',pl,hz⟩:=I.tuple hq
  have hlen:=r'.length
  exact len_tuple pl (by simp only [wj] <;> omega) ⟨.int ys.length,H,I.tok _,⟨s.toks+1,by rw [wj,hlen]⟩,q⟩
theorem Zir:dM X (.type "list") (λxs H Q=>∃ p ys,xs=[.ref p]/\(SqL X.K H p ys\/SqT X.K H p ys)/\∀ l,H l=none->Q (.ref l) (upd H l (.lst ys))):=by
 intro pins s σ H xs us Q I r h
 obtain ⟨p,ys,rfl,hq,q⟩:=h
 obtain ⟨u,rfl,rx⟩:=eJ r
 cases rx
 have fin:∀ (its:Ak),Vals ys its->ys.length<=sizeLine->∀ (h':Heap) (c':Nat),(∀ b o',s.heap.get? b=some o'->h'.get? b=some o') ->
   h'.get? s.heap.objs.size=some { cls:=.type "list",dict:=none,data:=.seq its.toArray c',slots:=#[] }->EP X pins σ Q (.ref s.heap.objs.size) { s with heap:=h' }:=λits r' hz h' c' kp e =>
  ⟨.ref s.heap.objs.size,_,I.laid (t':=s.toks) kp (wa _) (show ObjOk X.prog X.w _ h' _ (.lst ys) from ⟨hz,its,c',r',e⟩),rfl,q _ (I.hok.fresh (wa _))⟩
 rcases hq with hq | hq
 ·obtain ⟨its,r',pl,hz⟩:=I.list hq
  have hlen:=r'.length
  obtain ⟨o,ho,hc,n,hd⟩:=pl.isList
  exact call_list_seq p (.inl rfl) ho hc hd (λh' c' kp e=>fin its r' hz h' c' kp e) (by simp only [wj] <;> omega)
 ·obtain ⟨its,r',pl,hz⟩:=I.tuple hq
  have hlen:=r'.length
  obtain ⟨o,ho,hc,n,hd⟩:=pl
  exact call_list_seq p (.inr rfl) ho hc hd (λh' c' kp e=>fin its r' hz h' c' kp e) (by simp only [wj] <;> omega)
theorem jG:dM X (.type "tuple") (λxs H Q=>∃ p ys,xs=[.ref p]/\((SqL X.K H p ys/\∀ l,H l=none->Q (.ref l) (upd H l (.tup ys)))\/(SqT X.K H p ys/\Q (.ref p) H))):=by
 intro pins s σ H xs us Q I r h
 obtain ⟨p,ys,rfl,h⟩:=h
 obtain ⟨u,rfl,rx⟩:=eJ r
 cases rx
 rcases h with ⟨hq,q⟩ | ⟨hq,q⟩
 ·obtain ⟨its,r',pl,hz⟩:=I.list hq
  have hlen:=r'.length
  refine call_tuple_list pl.isList (λh' kp=>?_) (by simp only [wj] <;> omega)
  have I1:Inv X pins σ H { s with heap:=h' }:=I.kept (t':=s.toks) kp
  have I2:Inv X pins σ (upd H h'.objs.size (.tup ys)) { s with heap:=h'.push { cls:=.type "tuple",data:=.seq its.toArray } } :=
   I1.laid (t':=s.toks) (λb o e=>v6 _ e) (wa _) (show ObjOk X.prog X.w _ _ _ (.tup ys) from ⟨hz,its,r',IsTup.new _ _⟩)
  exact ⟨.ref h'.objs.size,_,I2,rfl,q _ (I1.hok.fresh (wa _))⟩
 ·obtain ⟨its,r',pl,hz⟩:=I.tuple hq
  exact call_tuple_same pl ⟨.ref p,H,I,rfl,q⟩
def rz (K:zZ) (T:String) (x:V) (H:Hp):Prop:=match x with
 | .str _=>T="str"
 | .int _=>T="int"
 | .ref p=>(T="list"/\∃ xs,SqL K H p xs)\/(T="tuple"/\∃ o,K.lookup p=some o/\o.cls=.type "tuple"/\o.dict=none) \/
   (T="dict"/\((∃ kvs,H p=some (.dK kvs))\/∃ kvs,H p=some (.dT kvs)))\/(T="set"/\∃ S n,H p=some (.set S n))
 | _=>False
theorem Zat {pins:List (Addr×Obj)} {σ:St} {H:Hp} {s:Shared} {T:String} {x:V} {v:Value} (I:Inv X pins σ H s) (r:RelV x v) (ty:rz X.K T x H) :
  s.TypeIs v T/\∀ a,v=.ref a->∃ ob,s.heap.get? a=some ob/\ob.dict=none:=by
 cases x with
 | str z =>
  obtain ⟨t,rfl⟩:=r
  cases (show T="str" from ty)
  exact ⟨typeIs_str s z t,λ_ e=>nomatch e⟩
 | int i =>
  obtain ⟨t,rfl⟩:=r
  cases (show T="int" from ty)
  exact ⟨typeIs_int s i t,λ_ e=>nomatch e⟩
 | ref p =>
  cases r
  rcases ty with ⟨rfl,xs,hq⟩ | ⟨rfl,o,hk,hc,hd⟩ | ⟨rfl,hk⟩ | ⟨rfl,S,n,hk⟩
  ·obtain ⟨its,_,pl,_⟩:=I.list hq
   refine ⟨pl.isList.typeIs,λa e=>?_⟩
   cases e
   obtain ⟨o,n,e,c,hd,_⟩:=pl
   exact ⟨o,e,hd⟩
  ·refine ⟨⟨o,I.kIn p o hk,hc⟩,λa e=>?_⟩
   cases e
   exact ⟨o,I.kIn _ o hk,hd⟩
  ·have z:∃ o,s.heap.get? p=some o/\o.ExactDict:=by
    rcases hk with ⟨kvs,hk⟩ | ⟨kvs,hk⟩
    ·obtain ⟨_,_,_,_,o,_,_,e,ex,_⟩:=I.hok p _ hk
     exact ⟨o,e,ex⟩
    ·obtain ⟨_,_,_,_,o,_,_,e,ex,_⟩:=I.hok p _ hk
     exact ⟨o,e,ex⟩
   obtain ⟨o,e,ex⟩:=z
   refine ⟨⟨o,e,ex.1⟩,λa e2=>?_⟩
   cases e2
   exact ⟨o,e,ex.2.1⟩
  ·obtain ⟨o,_,_,_,e,ex,_⟩:=I.hok p _ hk
   refine ⟨⟨o,e,ex.1⟩,λa e2=>?_⟩
   cases e2
   exact ⟨o,e,ex.2.1⟩
 | _=>exact False.elim ty
def ZaA (K:zZ) (T:String) (r:V->List V->Hp->VK->Prop) (to:TE):TE:=λσ H Q=>to σ H λx H1=>rz K T x H1/\r x [] H1 Q
def tBM (K:zZ) (T:String) (r:V->List V->Hp->VK->Prop) (to:TE) (t:TA):TE:=λσ H Q=>to σ H λx H1=>rz K T x H1/\t σ H1 λxs H2=>r x xs H2 Q
variable {o e:Expr} {es:List Expr} {to:TE} {t:TA} {name:Str} {apos cpos:Pos} {T id:String} {r:V->List V->Hp->VK->Prop}
theorem ZlT (pa:PlainAttrs T) (slot:Slot T name id) (hty:typeOf (.builtin id)=pure (.type "method_descriptor")) (hm:MtR X id r) (ho:PE X o to)
  (hbase:attributeBase o name X.env (eval o X.env)=eval o X.env:=by rfl) (hline:(apos.endLine == cpos.line)=true:=by rfl):PE X (.Call (.Attribute o name apos) [] [] cpos) (ZaA X.K T r to):=by
 intro pins s σ H Q I h
 refine wpAny_Call_method0_late hbase hline (thn (ho pins s σ H _ I h) λv s1 hz0=>?_)
 obtain ⟨x,H1,I1,r1,ty,q1⟩:=hz0
 obtain ⟨h1,h2⟩:=Zat I1 r1 ty
 exact ⟨T,id,pa,slot,hty,h1,h2,Calls.callWith_builtin rfl (PySem.evalArgs_none (hm pins s1 σ H1 x [] v [] Q I1 r1 .nil q1))⟩
theorem kj (pa:PlainAttrs T) (slot:Slot T name id) (hty:typeOf (.builtin id)=pure (.type "method_descriptor")) (hm:MtR X id r) (ho:PE X o to) (ha:PA X (e::es) t)
  (hbase:attributeBase o name X.env (eval o X.env)=eval o X.env:=by rfl)
  (hfew:((backTo cpos (starEach (e::es) X.env)).all (λx=>!x.1) && (backToKw cpos (keywordEach [] X.env)).all (λx=>x.1.isSome)
   && decide ((e::es).length+([]:List Keyword).length+(if ([]:List Keyword).isEmpty then 0 else 1) < 30))=true:=by rfl)
  (hline:(apos.endLine == cpos.line)=true:=by rfl) (hs:starEach (e::es) X.env=(false,eval e X.env)::starEach es X.env:=by rfl) (hplain:(backTo cpos (starEach es X.env)).any (·.1)=false:=by rfl) :
  PE X (.Call (.Attribute o name apos) (e::es) [] cpos) (tBM X.K T r to t):=by
 intro pins s σ H Q I h
 refine wpAny_Call_method_late hbase hfew hline rfl (thn (ho pins s σ H _ I h) λv s1 hz0=>?_)
 obtain ⟨x,H1,I1,r1,ty,q1⟩:=hz0
 obtain ⟨h1,h2⟩:=Zat I1 r1 ty
 refine ⟨T,id,pa,slot,hty,h1,h2,?_⟩
 have hA:=ha cpos pins s1 σ H1 _ I1 q1
 rw [hs] at hA ⊢
 refine Calls.callWith_builtin (by show (false || (backTo cpos (starEach es X.env)).any (·.1))=false; rw [hplain] <;> rfl) (Calls.evalArgs_plain ?_)
 exact thn hA λus s2 hz0=>by
  obtain ⟨vs,H2,I2,r2,q2⟩:=hz0
  exact hm pins s2 σ H2 x vs v us Q I2 r1 r2 q2
end
noncomputable def MtM (X:Cx) (id:String) (r:V->List V->Hp->VK->Prop):Prop :=
 ∀ (pins:List (Addr×Obj)) (s:Shared) (σ:St) (H:Hp) (x:V) (xs:An) (v:Value) (us:Ak) (Q:VK),Inv X pins σ H s->RelV x v->Vals xs us->r x xs H Q ->
  wpAny (model X.prog X.w) X.A (call (.builtin id) (v::us)) (EP X pins σ Q) X.xe s
theorem Vals.one {x:V} {us:Ak} (h:Vals [x] us):∃ u,us=[u]/\RelV x u:=by
 cases h with
 | cons r t=>cases t; exact ⟨_,rfl,r⟩
theorem Vals.zero:∀ {us:Ak},Vals [] us->us=[]
 | _,.nil=>rfl
theorem Vals.reverse {xs:An} {us:Ak} (h:Vals xs us):Vals xs.reverse us.reverse:=by
 induction h with
 | nil=>exact .nil
 | cons r t ih=>rw [yE,yE]; exact Vals.append ih (.cons r .nil)
theorem Vals.rep {xs:An} {us:Ak} (h:Vals xs us):∀ k:Nat,Vals (List.replicate k xs).flatten (List.replicate k us).flatten
 | 0=>.nil
 | k+1=>by
  rw [wF,wF,w6,w6]
  exact Vals.append h (Vals.rep h k)
theorem ZeE (its:Ak):∀ (k:Nat) (acc:Ak),
  List.foldl (λx1 x2=>x1++x2) acc.toArray (List.replicate k its.toArray)=(acc++(List.replicate k its).flatten).toArray
 | 0,acc=>by simp
 | k+1,acc=>by
  have e:acc.toArray++its.toArray=(acc++its).toArray:=by simp
  have e2:(acc++its)++(List.replicate k its).flatten=acc++(List.replicate (k+1) its).flatten:=by
   rw [wF,w6,xx]
  rw [<- e2,<- ZeE its k (acc++its),<- e,wF,zw]
section
variable {X:Cx} {pins:List (Addr×Obj)} {σ:St} {H:Hp} {s:Shared} {l b:Addr} {xs ys zs:An}
theorem Inv.lset {its its':Ak} {n:Nat} {f:Array Value->Array Value} {t':Nat} (I:Inv X pins σ H s) (hH:H l=some (.lst xs))
  (e:s.heap.get? l=some { cls:=.type "list",data:=.seq its.toArray n }) (hf:f its.toArray=its'.toArray) (hv:Vals ys its') (hz:ys.length<=sizeLine) :
  Inv X pins σ (upd H l (.lst ys)) { s with heap:=s.heap.update l (Obj.mapSeq f),toks:=t' }:=by
 have q:=PySem.IsL.update e f
 rw [hf] at q
 refine I.write (x:=l) (e:=l) (by rw [hH]; exact trivial) (.inl rfl) (λb' u hb hu=>(xa s.heap (Obj.mapSeq f) (Ne.symm hb)).trans hu) ⟨_,q⟩ ?_
 exact ⟨hz,its',_,hv,q⟩
theorem Inv.lnew {its:Ak} {t':Nat} (I:Inv X pins σ H s) (hv:Vals ys its) (hz:ys.length<=sizeLine) :
  Inv X pins σ (upd H s.heap.objs.size (.lst ys)) { s with heap:=s.heap.push { cls:=.type "list",data:=.seq its.toArray },toks:=t' } :=
 I.laid (λ_ _ q=>v6 _ q) (wa _) ⟨hz,its,0,hv,wc _ rfl⟩
theorem Inv.fresh (I:Inv X pins σ H s):H s.heap.objs.size=none:=I.hok.fresh (wa _)
theorem Inv.lstM (I:Inv X pins σ H s) (hH:H l=some (.lst xs)):xs.length<=sizeLine/\∃ (its:Ak) (n:Nat),Vals xs its/\xs.length=its.length/\s.heap.get? l=some { cls:=.type "list",data:=.seq its.toArray n }:=by
 obtain ⟨z,its,n,r,e⟩:=I.hok l _ hH
 exact ⟨z,its,n,r,r.length,e⟩
theorem Zmr {n:Nat} (h:n<=sizeLine):Builtin.List.listTooLong n=false:=by
 unfold Builtin.List.listTooLong
 exact decide_eq_false (by omega)
end
section
variable {X:Cx}
noncomputable def Zcu:V->List V->Hp->VK->Prop:=λx vs H Q=>∃ l xs y,x=.ref l/\vs=[y]/\H l=some (.lst xs)/\xs.length < sizeLine/\Q .non (upd H l (.lst (xs++[y])))
theorem kA:MtM X "list.append" Zcu:=by
 intro pins s σ H x vs v us Q I rx rv h
 obtain ⟨l,xs,y,rfl,rfl,hH,hz,q⟩:=h
 cases rx
 obtain ⟨u,rfl,ru⟩:=rv.one
 obtain ⟨z,its,n,r,hl,e⟩:=I.lstM hH
 refine call_meets F.slot_list_append ⟨_,e,rfl⟩ F.entry_list_append (F.args_list_append_2 _ _) (PySem.list_append l its.toArray n u (by rw [wj]; omega)) ⟨e,?_⟩
 refine ⟨.non,_,I.lset (its':=its++[u]) hH e (by simp) (r.append (.cons ru .nil)) ?_,rfl,q⟩
 rw [wx,yY]
 omega
noncomputable def Zcd:V->List V->Hp->VK->Prop:=λx vs H Q=>∃ l xs,x=.ref l/\vs=[]/\H l=some (.lst xs)/\Q .non (upd H l (.lst xs.reverse))
theorem ZmD:MtM X "list.reverse" Zcd:=by
 intro pins s σ H x vs v us Q I rx rv h
 obtain ⟨l,xs,rfl,rfl,hH,q⟩:=h
 cases rx
 have hus:=rv.zero
 subst hus
 obtain ⟨z,its,n,r,hl,e⟩:=I.lstM hH
 refine call_meets F.slot_list_reverse ⟨_,e,rfl⟩ F.entry_list_reverse (F.args_list_reverse_1 _) (AutoSeq1.list_reverse_list_0 l its.toArray n (by rw [wj]; omega)) ⟨e,?_⟩
 refine ⟨.non,_,I.lset (its':=its.reverse) hH e (by simp) r.reverse ?_,rfl,q⟩
 rw [ya]
 omega
noncomputable def Zct:R2:=λx y H Q=>∃ l b xs zs,x=.ref l/\y=.ref b/\H l=some (.lst xs)/\H b=some (.lst zs)/\xs.length+zs.length<=sizeLine/\∀ p,H p=none->Q (.ref p) (upd H p (.lst (xs++zs)))
theorem Zmc:OpR X (binaryOp .Add) Zct:=by
 intro pins s σ H x y v u Q I rx ry h
 obtain ⟨l,b,xs,zs,rfl,rfl,hH,hB,hz,q⟩:=h
 cases rx
 cases ry
 obtain ⟨z,its,n,r,hl,e⟩:=I.lstM hH
 obtain ⟨z2,its2,n2,r2,hl2,e2⟩:=I.lstM hB
 refine PySem.P.add_list e e2 ?_ (by rw [wj,wj]; omega)
 have ea:its.toArray++its2.toArray=(its++its2).toArray:=by simp
 rw [ea]
 exact ⟨.ref _,_,I.lnew (t':=s.toks) (r.append r2) (by rw [wx]; omega),rfl,q _ I.fresh⟩
noncomputable def sX:R2:=λx y H Q=>∃ l k xs,x=.ref l/\y=.int k/\H l=some (.lst xs)/\-(2 ^ 63)<=k/\k < 2 ^ 63/\xs.length * k.toNat<=sizeLine /\
 ∀ p,H p=none->Q (.ref p) (upd H p (.lst (List.replicate k.toNat xs).flatten))
theorem Zm9 {α:Type} (xs:List α) (k:Nat):(List.replicate k xs).flatten.length=k * xs.length:=by
 induction k with
 | zero=>simp
 | succ k ih=>rw [wF,w6,wx,ih,yb,yx]
theorem ZcT:OpR X (binaryOp .Mult) sX:=by
 intro pins s σ H x y v u Q I rx ry h
 obtain ⟨l,k,xs,rfl,rfl,hH,h1,h2,hz,q⟩:=h
 cases rx
 obtain ⟨t,rfl⟩:=ry
 obtain ⟨z,its,n,r,hl,e⟩:=I.lstM hH
 have hlen:its.toArray.size * k.toNat<=sizeLine:=by rw [wj,<- hl]; exact hz
 have hcap:¬ its.toArray.size * k.toNat > (2 ^ 63 - 1) / 8:=by
  have:(sizeLine:Nat)<=(2 ^ 63 - 1) / 8:=by decide
  omega
 have hfit:¬ (!Builtin.List.listFitsIndex k)=true:=by
  rw [fitsIndex_both h1 h2]
  exact wn
 have hlong:¬ Builtin.List.listTooLong (its.toArray.size * k.toNat)=true:=by
  rw [Zmr hlen]
  exact wn
 have hnew:List.foldl (λx1 x2=>x1++x2) #[] (List.replicate (if its.toArray.isEmpty=true then 0 else k.toNat) its.toArray)=(List.replicate k.toNat its).flatten.toArray:=by
  have f0:∀ m:Nat,List.foldl (λx1 x2=>x1++x2) #[] (List.replicate m its.toArray)=(List.replicate m its).flatten.toArray:=λm=>by
   have:=ZeE its m []
   rw [xK] at this
   exact this
  rw [f0]
  cases its with
  | nil=>simp
  | cons a r'=>rw [if_neg (by simp)]
 refine wpAny_binaryOp_repeat_ref (T:="list") (U:="int") (by decide) ⟨_,e,rfl⟩ (λs'=>typeIs_int s' k t) noFill_list_mul F.fills_int_mul F.slot_int_rmul repeat_list F.slot_int_index.lookup
  (call_meets F.slot_int_rmul (typeIs_int s k t) F.entry_int_rmul (F.args_int_rmul_2 _ _) (int___rmul___int_list k t l its.toArray n)
   ⟨e,rfl,⟨_,e,rfl⟩,call_meets F.slot_list_mul ⟨_,e,rfl⟩ F.entry_list_mul (F.args_list_mul_2 _ _) (AutoListH.list___mul___list_int_3 l its.toArray n k t hfit hcap hlong) ⟨e,?_⟩⟩)
 rw [hnew]
 exact ⟨.ref _,_,I.lnew (t':=s.toks) (r.rep k.toNat) (by rw [Zm9,Nat.mul_comm]; exact hz),rfl,q _ I.fresh⟩
end
section
variable {prog:Program} {w:World} {A:Around} {E:Ah} {s:Shared}
end
section
variable {X:Cx}
end
section
variable {κ:Type} [DecidableEq κ]
noncomputable def eK (kvs:List (κ×V)) (k:κ):Option V:=(kvs.find? λkv=>decide (kv.1=k)).map (·.2)
noncomputable def dt (kvs:List (κ×V)) (k:κ) (v:V):List (κ×V) :=
 if (kvs.any λkv=>decide (kv.1=k))=true then kvs.map (λkv=>if kv.1=k then (kv.1,v) else kv) else kvs++[(k,v)]
theorem jW {p:κ×V} {r:List (κ×V)} {k:κ} (e:p.1=k):eK (p::r) k=some p.2:=by simp [eK,xL,e]
theorem jX {p:κ×V} {r:List (κ×V)} {k:κ} (e:¬ p.1=k):eK (p::r) k=eK r k:=by simp [eK,xL,e]
theorem nQ (k:κ):∀ kvs:List (κ×V),(kvs.any λkv=>decide (kv.1=k))=(eK kvs k).isSome
 | []=>rfl
 | p::r=>by
  rw [zW]
  by_cases e:p.1=k
  ·simp only [jW e,decide_eq_true e,Bool.true_or,Option.isSome_some]
  ·rw [jX e,decide_eq_false e,Bool.false_or]; exact nQ k r
theorem t6 (kvs:List (κ×V)) (k:κ) (v:V):(dt kvs k v).length<=kvs.length+1:=by
 unfold dt
 split
 ·rw [v7]; omega
 ·rw [wx,wl,xo]; omega
theorem RelO.isSome_eq {o:Option V} {u:Option Value} (r:RelO o u):o.isSome=u.isSome:=by
 cases o with
 | none=>cases u with
  | none=>rfl
  | some _=>exact (show False from r).elim
 | some _=>cases u with
  | none=>exact (show False from r).elim
  | some _=>rfl
theorem KV.val {kvs:List (κ×V)} {vs:List (κ×Value)} (r:KV kvs vs) (k:κ):RelO (eK kvs k) (valueAt vs k):=by
 unfold KV at r
 induction r with
 | nil=>exact True.intro
 | @cons p q ps qs h t ih =>
  obtain ⟨h1,h2⟩:=h
  by_cases e:p.1=k
  ·have e':q.1=k:=h1.symm.trans e
   have b:valueAt (q::qs) k=some q.2:=by simp [valueAt,xL,e']
   rw [jW e,b]; exact h2
  ·have e':¬ q.1=k:=λz=>e (h1.trans z)
   have b:valueAt (q::qs) k=valueAt qs k:=by simp [valueAt,xL,e']
   rw [jX e,b]; exact ih
theorem KV.any {kvs:List (κ×V)} {vs:List (κ×Value)} (r:KV kvs vs) (k:κ):(kvs.any λkv=>decide (kv.1=k))=vs.any λkv=>decide (kv.1=k):=by
 unfold KV at r
 induction r with
 | nil=>rfl
 | cons h t ih=>rw [zW,zW,ih,h.1]
theorem KV.repl {kvs:List (κ×V)} {vs:List (κ×Value)} (r:KV kvs vs) (k:κ) {y:V} {u:Value} (ry:RelV y u) :
  KV (kvs.map λkv=>if kv.1=k then (kv.1,y) else kv) (vs.map λkv=>if kv.1=k then (kv.1,u) else kv):=by
 unfold KV at r ⊢
 induction r with
 | nil=>exact .nil
 | @cons p q ps qs h t ih =>
  rw [wf,wf]
  refine .cons ?_ ih
  obtain ⟨h1,h2⟩:=h
  by_cases e:p.1=k
  ·rw [if_pos e,if_pos (h1.symm.trans e)]; exact ⟨h1,ry⟩
  ·rw [if_neg e,if_neg (λz=>e (h1.trans z))]; exact ⟨h1,h2⟩
theorem KV.put {kvs:List (κ×V)} {vs:List (κ×Value)} (r:KV kvs vs) (k:κ) {y:V} {u:Value} (ry:RelV y u):KV (dt kvs k y) (stored vs k u):=by
 unfold dt stored
 rw [r.any k]
 by_cases e:(vs.any λkv=>decide (kv.1=k))=true
 ·rw [if_pos e,if_pos e]; exact r.repl k ry
 ·rw [if_neg e,if_neg e]; exact Paired.snoc r ⟨rfl,ry⟩
theorem KV.length {kvs:List (κ×V)} {vs:List (κ×Value)} (r:KV kvs vs):kvs.length=vs.length:=zt r
end
theorem pH {P:Program} {w:World} {k:aO} {u:Value} (r:RelV (kV k) u):(dQ P w).is k u=true:=by
 cases k with
 | inl i=>obtain ⟨t,e⟩:=(show ∃ t,u=Value.int i t from r); subst e; exact ZmH P w i t
 | inr x=>obtain ⟨t,e⟩:=(show ∃ t,u=Value.str x t from r); subst e; exact ZmG P w x t
theorem Zd7 {P:Program} {w:World}:∀ {ks:List aO} {us:Ak},Vals (ks.map kV) us->ItemsAre (dQ P w) ks us
 | [],_,r=>by rw [xv] at r; cases r; exact .nil
 | k::ks,_,r=>by
  rw [wf] at r
  cases r with
  | cons h t=>exact .cons (pH h) (Zd7 t)
noncomputable abbrev KT (H:Hp):List (List aO×V)->List (List aO×Addr×Value)->Prop:=Paired λp q=>p.1=q.1/\H q.2.1=some (.tup (p.1.map kV))/\RelV p.2 q.2.2
theorem KT.val {H:Hp} {kvs:List (List aO×V)} {xs:List (List aO×Addr×Value)} (r:KT H kvs xs) (k:List aO):RelO (eK kvs k) ((atKey xs k).map (·.2)):=by
 induction r with
 | nil=>exact True.intro
 | @cons p q ps qs h t ih =>
  obtain ⟨h1,_,h2⟩:=h
  by_cases e:p.1=k
  ·have e':q.1=k:=h1.symm.trans e
   have b:atKey (q::qs) k=some q.2:=by simp [atKey,xL,e']
   rw [jW e,b]; exact h2
  ·have e':¬ q.1=k:=λz=>e (h1.trans z)
   have b:atKey (q::qs) k=atKey qs k:=by simp [atKey,xL,e']
   rw [jX e,b]; exact ih
theorem KT.repl {H:Hp} {kvs:List (List aO×V)} {xs:List (List aO×Addr×Value)} (r:KT H kvs xs) (k:List aO) {y:V} {u:Value} (ry:RelV y u) :
  KT H (kvs.map λkv=>if kv.1=k then (kv.1,y) else kv) (xs.map (putAt k u)):=by
 induction r with
 | nil=>exact .nil
 | @cons p q ps qs h t ih =>
  rw [wf,wf]
  refine .cons ?_ ih
  obtain ⟨h1,h2,h3⟩:=h
  unfold putAt
  by_cases e:p.1=k
  ·rw [if_pos e,if_pos (h1.symm.trans e)]; exact ⟨h1,h2,ry⟩
  ·rw [if_neg e,if_neg (λz=>e (h1.trans z))]; exact ⟨h1,h2,h3⟩
theorem KT.put {H:Hp} {kvs:List (List aO×V)} {xs:List (List aO×Addr×Value)} (r:KT H kvs xs) (k:List aO) {b:Addr} {y:V} {u:Value} (hb:H b=some (.tup (k.map kV))) (ry:RelV y u) :
  KT H (dt kvs k y) (storedH xs k b u):=by
 have e:(kvs.any λkv=>decide (kv.1=k))=(atKey xs k).isSome:=by
  rw [nQ,(r.val k).isSome_eq,Option.isSome_map]
 unfold dt storedH
 rw [e]
 by_cases q:(atKey xs k).isSome=true
 ·rw [if_pos q,if_pos q]; exact r.repl k ry
 ·rw [if_neg q,if_neg q]; exact Paired.snoc r ⟨rfl,hb,ry⟩
theorem KT.keeps {H H':Hp} {kvs:List (List aO×V)} {xs:List (List aO×Addr×Value)} (r:KT H kvs xs) (ht:∀ b ys,H b=some (.tup ys)->H' b=some (.tup ys)):KT H' kvs xs :=
 Paired.mapP r λ_ _ z=>⟨z.1,ht _ _ z.2.1,z.2.2⟩
section
variable {P:Program} {w:World} {H:Hp} {h:Heap} {a:Addr}
theorem Zb7 {u:HO} (ok:HOk P w H h) (e:Rd H a u):ObjOk P w H h a u:=e.ok ok
theorem uQ {kvs:List (aO×V)} (ok:HOk P w H h) (e:Rd H a (.dK kvs)):kvs.length<=sizeLine/\(a == sysModules)=false/\∃ vs,KV kvs vs/\h.DictOf (dQ P w) a vs :=
 show ObjOk P w H h a (.dK kvs) from Zb7 ok e
theorem Zh7 {kvs:List (aO×V)} (ok:HOk P w H h) (e:H a=some (.dK kvs)):kvs.length<=sizeLine/\(a == sysModules)=false/\∃ vs,KV kvs vs/\h.DictOf (dQ P w) a vs:=uQ ok (.inl e)
theorem ur {ks:List aO} (ok:HOk P w H h) (e:H a=some (.tup (ks.map kV))):(tupleKind (dQ P w)).is h ks a:=by
 obtain ⟨_,its,r,o,h1,h2,n,h3⟩:=(show ObjOk P w H h a (.tup (ks.map kV)) from ok a _ e)
 exact ⟨o,its.toArray,n,h1,h2,h3,by simpa using Zd7 r⟩
theorem uP {kvs:List (List aO×V)} (ok:HOk P w H h) (e:Rd H a (.dT kvs)):kvs.length<=sizeLine/\(a == sysModules)=false /\
  ∃ xs,KT H kvs xs/\h.DictOfH (tupleKind (dQ P w)) a xs:=by
 obtain ⟨z,y,xs,r,o,es,ep,h1,h2,h3,h4,h5⟩:=(show ObjOk P w H h a (.dT kvs) from Zb7 ok e)
 refine ⟨z,y,xs,r,o,es,ep,h1,h2,h3,h4,λx hx=>?_,h5⟩
 have all:∀ {l:List (List aO×V)} {m:List (List aO×Addr×Value)},KT H l m->∀ x∈m,(tupleKind (dQ P w)).is h x.1 x.2.1:=by
  intro l m q
  induction q with
  | nil=>intro x hx; exact nomatch hx
  | @cons p q ps qs hq t ih =>
   intro x hx
   rcases wt.mp hx with e | hx
   ·subst e
    exact ur ok (by rw [<- hq.1]; exact hq.2.1)
   ·exact ih x hx
 exact all r x hx
theorem Zos {kvs:List (List aO×V)} (ok:HOk P w H h) (e:H a=some (.dT kvs)):kvs.length<=sizeLine/\(a == sysModules)=false /\
  ∃ xs,KT H kvs xs/\h.DictOfH (tupleKind (dQ P w)) a xs:=uP ok (.inl e)
end
noncomputable def DGet (H:Hp) (a:Addr) (y:V) (r:Option V):Prop :=
 (∃ kvs k,Rd H a (.dK kvs)/\y=kV k/\r=eK kvs k)\/∃ kvs k b,Rd H a (.dT kvs)/\y=.ref b/\H b=some (.tup (k.map kV))/\r=eK kvs k
noncomputable def DPut (H:Hp) (a:Addr) (y v:V) (H':Hp):Prop :=
 (∃ kvs k,H a=some (.dK kvs)/\y=kV k/\kvs.length < sizeLine/\H'=upd H a (.dK (dt kvs k v))) \/
 ∃ kvs k b,H a=some (.dT kvs)/\y=.ref b/\H b=some (.tup (k.map kV))/\kvs.length < sizeLine/\H'=upd H a (.dT (dt kvs k v))
theorem DGet.k {H:Hp} {a:Addr} {kvs:List (aO×V)} {k:aO} (e:H a=some (.dK kvs)):DGet H a (kV k) (eK kvs k):=.inl ⟨kvs,k,.inl e,rfl,rfl⟩
theorem DPut.k {H:Hp} {a:Addr} {kvs:List (aO×V)} {k:aO} {v:V} (e:H a=some (.dK kvs)) (hl:kvs.length < sizeLine):DPut H a (kV k) v (upd H a (.dK (dt kvs k v))):=.inl ⟨kvs,k,e,rfl,hl,rfl⟩
section
variable {X:Cx} {pins:List (Addr×Obj)} {σ:St} {H:Hp} {s:Shared} {a:Addr} {y v:V} {u r:Value} {o:Option V} {A:Around} {E:Ah}
theorem Inv.big (I:Inv X pins σ H s):sysModules < s.heap.objs.size:=by
 have h:mainGlobals < s.heap.objs.size:=(I.mod.glob.keeps I.bk).lt
 exact Nat.lt_trans (by decide) h
theorem Zo2 {Q:Ah} (hu:A.units+1 < cLine) (I:Inv X pins σ H s) (g:DGet H a y (some v)) (ry:RelV y u) (h:∀ w' s',Inv X pins σ H s'->RelV v w'->Q w' s') :
  wpAny (model X.prog X.w) A (getItem (.ref a) u) Q E s:=by
 rcases g with ⟨kvs,k,e,ey,l⟩ | ⟨kvs,k,b,e,ey,eb,l⟩
 ·subst ey
  obtain ⟨z,hd,vs,rel,dd⟩:=uQ I.hok e
  obtain ⟨w',hw,rw'⟩:=RelO.some_of (v:=v) (o:=valueAt vs k) (by rw [l]; exact rel.val k)
  exact wpAny_getItem_of (pH ry) dd.mapOf hw (h w' _ (I.tok _) rw')
 ·subst ey
  cases (show u=Value.ref b from ry)
  obtain ⟨z,hd,xs,rel,dd⟩:=uP I.hok e
  obtain ⟨w',hw,rw'⟩:=RelO.some_of (v:=v) (o:=(atKey xs k).map (·.2)) (by rw [l]; exact rel.val k)
  obtain ⟨p,hp,hp2⟩:=yS.mp hw
  refine wpAny_getItem_heap (tupleKind_room_in1 hu) (ur I.hok eb) dd hp ?_
  rw [hp2]
  exact h w' _ (I.tok _) rw'
theorem uT {h':Heap} {t':Nat} {ob:HO} (I:Inv X pins σ H s) (mu:nH (H a)) (hs:Heap.SameBut a s.heap h') (he:∃ q,h'.get? a=some q) (new:ObjOk X.prog X.w (upd H a ob) h' a ob) :
  Inv X pins σ (upd H a ob) { s with heap:=h',toks:=t' } :=
 I.write (x:=a) (e:=a) mu (.inl rfl) (λb q hb z=>(hs.2 b hb).trans z) he new
theorem Zh8 {P:Program} {w:World} {H':Hp} {h':Heap} {kvs:List (aO×V)} {vs:List (aO×Value)} (z:kvs.length<=sizeLine) (hd:(a == sysModules)=false) (rel:KV kvs vs) (dd:h'.DictOf (dQ P w) a vs) :
  ObjOk P w H' h' a (.dK kvs):=⟨z,hd,vs,rel,dd⟩
theorem ZoF {H':Hp} {Q:Unit->Shared->Prop} (hu:A.units+1 < cLine) (I:Inv X pins σ H s) (g:DPut H a y v H') (ry:RelV y u) (rv:RelV v r) (h:∀ s',Inv X pins σ H' s'->Q () s') :
  wpAny (model X.prog X.w) A (setItem (.ref a) u r) Q E s:=by
 rcases g with ⟨kvs,k,e,ey,l,eH⟩ | ⟨kvs,k,b,e,ey,eb,l,eH⟩
 ·subst ey eH
  obtain ⟨z,hd,vs,rel,dd⟩:=Zh7 I.hok e
  have hz:vs.length<=sizeLine:=by rw [<- rel.length]; exact z
  have hl:(dt kvs k v).length<=sizeLine:=by have:=t6 kvs k v; omega
  refine wpAny_setItem_pairs (hsz:=hz) (pH ry) dd λh' dd' hs=>h _ ?_
  have he:∃ q,h'.get? a=some q:=let ⟨q,_,_,hq,_⟩:=dd'; ⟨q,hq⟩
  exact uT I (by rw [e]; exact True.intro) hs he (Zh8 hl hd (rel.put k rv) dd')
 ·subst ey eH
  cases (show u=Value.ref b from ry)
  obtain ⟨z,hd,xs,rel,dd⟩:=Zos I.hok e
  have hz:xs.length<=sizeLine:=by rw [<- zt rel]; exact z
  have hl:(dt kvs k v).length<=sizeLine:=by have:=t6 kvs k v; omega
  refine wpAny_setItem_heap (hsz:=hz) (tupleKind_room_in1 hu) (ur I.hok eb) dd λh' dd' hs=>h _ ?_
  obtain ⟨q,es,ep,hq,h2,h3,h4,_,h5⟩:=dd'
  refine uT I (by rw [e]; exact True.intro) hs ⟨q,hq⟩ ⟨hl,hd,_,(rel.put k eb rv).keeps λc ys ec=>?_,q,es,ep,hq,h2,h3,h4,h5⟩
  rw [bc (mr ec e (λz=>nomatch z))]
  exact ec
end
section
variable {X:Cx} {pins:List (Addr×Obj)} {σ:St} {H:Hp} {s:Shared} {a:Addr} {kvs:List (aO×V)} {k:aO} {u:Value} {A:Around} {E:Ah}
end
def Zi9 (i:Expr):Prop:=∀ ov iv,subscripted i false ov iv=operate [ov,iv] (getItem ov iv)
theorem Zkh {prog:Program} {w:World} {A:Around} {E:Ah} {s:Shared} {env:Env} {value slice:Expr} {pos:Pos} {T id:String} {Q:Ah}
  (hl:typeLookup (.type T) "__getitem__"=pure (some (.builtin id))) (hs:Zi9 slice)
  (h:wpAny (model prog w) A (eval value env) (λo s₁=>wpAny (model prog w) A (eval slice env) (λi s₂=>s₂.TypeIs o T/\wpAny (model prog w) A (getItem o i) Q E s₂) E s₁) E s) :
  wpAny (model prog w) A (eval (.Subscript value slice pos) env) Q E s:=by
 refine Subscript_ (wpAny_mono h (λo s₁ h₁=>wpAny_mono h₁ (λi s₂ h₂=>?_) λ_ _ x=>x) λ_ _ x=>x)
 obtain ⟨hT,h₂⟩:=h₂
 unfold subscriptTail
 refine wpAny_bind ?_
 rw [getitemInPython_of_ne hT.not_modules]
 refine wpAny_bind (wpAny_specialOf hT hl ?_)
 have fin:wpAny (model prog w) A (subscripted slice false o i) (λr s₃=>wpAny (model prog w) A (letTemporaryGo value o r >>= λ_=>pure r) Q E s₃) E s₂:=by
  rw [hs o i]
  exact wpAny_operating (wpAny_mono h₂ (λr s₃ h₃=>wpAny_bind (wpAny_letTemporaryGo (wpAny_pure h₃))) λ_ _ x=>x)
 first
  | exact wpAny_pure (wpAny_bind fin)
  | exact wpAny_bind (wpAny_pure (wpAny_bind fin))
  | exact wpAny_bind fin
theorem Zox {X:Cx} {pins:List (Addr×Obj)} {σ:St} {H:Hp} {s:Shared} {a:Addr} {y:V} {o:Option V} (I:Inv X pins σ H s) (g:DGet H a y o):s.TypeIs (.ref a) "dict":=by
 rcases g with ⟨kvs,k,e,_,_⟩ | ⟨kvs,k,b,e,_,_,_⟩
 ·obtain ⟨_,_,vs,_,dd⟩:=uQ I.hok e
  exact dd.typeIs
 ·obtain ⟨_,_,xs,_,dd⟩:=uP I.hok e
  exact dd.typeIs
def Zj7 (td ty:TE):TE:=λσ H Q=>td σ H λx H1=>ty σ H1 λy H2=>∃ a v,x=.ref a/\DGet H2 a y (some v)/\Q v H2
def ZkO (td ty tv:TE):TS:=λD σ H=>tv σ H λv H1=>td σ H1 λx H2=>ty σ H2 λy H3=>∃ a H4,x=.ref a/\DPut H3 a y v H4/\D.nx σ H4
section
variable {X:Cx} {o i e value:Expr} {pos pos' tpos:Pos} {td ty tv:TE}
theorem iD (hu:X.A.units+1 < cLine) (ho:PE X o td) (hi:PE X i ty) (hs:Zi9 i):PE X (.Subscript o i pos) (Zj7 td ty):=by
 intro pins s σ H Q I h
 refine Zkh PySem.F.slot_dict_getitem.lookup hs (thn (ho pins s σ H _ I h) λu s1 ⟨x,H1,I1,rx,q1⟩=>thn (hi pins s1 σ H1 _ I1 q1) λiv s2 hz0=>?_)
 obtain ⟨y,H2,I2,ry,a,v,ex,g,q2⟩:=hz0
 subst ex
 obtain rfl:u=Value.ref a:=rx
 exact ⟨Zox I2 g,Zo2 hu I2 g ry λw' s3 I3 rw'=>⟨v,H2,I3,rw',q2⟩⟩
theorem tz (hu:X.A.units+1 < cLine) (ho:PE X o td) (hi:PE X i ty) (hv:PE X value tv) (hs:swapsWith value (some (.Subscript o i pos')) pos.line X.env=pure false) :
  PS X (.Assign [.Subscript o i pos'] value pos) (ZkO td ty tv):=by
 intro pins s σ H D I h
 refine wpAny_Assign_Subscript (thn (hv pins s σ H _ I h) λr s1 ⟨v,H1,I1,rv,q1⟩=>thn (ho pins s1 σ H1 _ I1 q1) λu s2 ⟨x,H2,I2,rx,q2⟩=>thn (hi pins s2 σ H2 _ I2 q2) λiv s3 hz0=>?_) hs
 obtain ⟨y,H3,I3,ry,a,H4,ex,g,q3⟩:=hz0
 subst ex
 obtain rfl:u=Value.ref a:=rx
 exact ZoF hu I3 g ry rv λs4 I4=>⟨σ,H4,I4,q3⟩
end
theorem Zow {P:Program} {w:World} {H:Hp} (h:Heap) (hb:sysModules < h.objs.size):ObjOk P w H (h.push { cls:=.type "dict",data:=.dict #[] }) h.objs.size (.dK []) :=
 ⟨xz _,beq_eq_false_iff_ne.mpr (Ne.symm (wz hb)),[],.nil,Heap.DictOf.new h⟩
section
variable {X:Cx} {pos:Pos}
end
noncomputable def rE:List (TE×TE)->St->Hp->(List (V×V)->Hp->Prop)->Prop
 | [],_,H,Q=>Q [] H
 | (tk,tv)::r,σ,H,Q=>tk σ H λx H1=>tv σ H1 λy H2=>rE r σ H2 λps H3=>Q ((x,y)::ps) H3
noncomputable abbrev VV:List (V×V)->List (Value×Value)->Prop:=Paired λp q=>RelV p.1 q.1/\RelV p.2 q.2
noncomputable def qQ (X:Cx) (pos:Pos) (keys:List (Option Expr)) (values:List Expr) (trs:List (TE×TE)):Prop :=
 ∀ (pins:List (Addr×Obj)) (s:Shared) (σ:St) (H:Hp) (Q:List (V×V)->Hp->Prop),Inv X pins σ H s->rE trs σ H Q ->
  wpAny (model X.prog X.w) X.A (evalPairs (pairTrees keys values X.env pos)) (λvs s'=>∃ ps H',Inv X pins σ H' s'/\VV ps vs/\Q ps H') X.xe s
theorem Zlw {X:Cx} {pos:Pos}:qQ X pos [] [] []:=λpins s σ H Q I h=>pairTrees_nil_walk ⟨[],H,I,.nil,h⟩
theorem tE {X:Cx} {pos:Pos} {k v:Expr} {ks:List (Option Expr)} {vs:List Expr} {tk tv:TE} {trs:List (TE×TE)} (hk:PE X k tk) (hv:PE X v tv) (hr:qQ X pos ks vs trs) :
  qQ X pos (some k::ks) (v::vs) ((tk,tv)::trs):=λpins s σ H Q I h =>
 pairTrees_cons_walk (thn (hk pins s σ H _ I h) λu s1 ⟨x,H1,I1,rx,q1⟩=>thn (hv pins s1 σ H1 _ I1 q1) λw2 s2 ⟨y,H2,I2,ry,q2⟩ =>
  thn (hr pins s2 σ H2 _ I2 q2) λws s3 ⟨ps,H3,I3,rel,q3⟩=>⟨(x,y)::ps,H3,I3,.cons ⟨rx,ry⟩ rel,q3⟩)
noncomputable def mx (kvs more:List (aO×V)):List (aO×V):=more.foldl (λacc kv=>dt acc kv.1 kv.2) kvs
theorem KV.merge:∀ {more:List (aO×V)} {rs:List (aO×Value)} {kvs:List (aO×V)} {vs:List (aO×Value)},KV more rs->KV kvs vs->KV (mx kvs more) (merged vs rs):=by
 intro more rs kvs vs r
 unfold KV at r
 induction r generalizing kvs vs with
 | nil=>intro q; exact q
 | @cons p q ps qs h t ih =>
  intro r0
  have e:KV (dt kvs p.1 p.2) (stored vs q.1 q.2):=by
   have:=r0.put p.1 h.2
   rw [<- h.1]; exact this
  exact ih e
theorem ZdO:∀ (more kvs:List (aO×V)),(mx kvs more).length<=kvs.length+more.length
 | [],kvs=>by show kvs.length<=kvs.length+0; omega
 | p::r,kvs=>by
  have h1:=ZdO r (dt kvs p.1 p.2)
  have h2:=t6 kvs p.1 p.2
  show (mx (dt kvs p.1 p.2) r).length<=_
  rw [wl]; omega
theorem Zip {P:Program} {w:World}:∀ {kvs:List (aO×V)} {ws:List (Value×Value)},VV (kvs.map λkv=>(kV kv.1,kv.2)) ws->∃ rs,Carries (dQ P w) ws rs/\KV kvs rs
 | [],_,r=>by rw [xv] at r; cases r; exact ⟨[],True.intro,.nil⟩
 | p::kvs,_,r=>by
  rw [wf] at r
  cases r with
  | @cons a b as bs h t =>
   obtain ⟨rs,c,q⟩:=Zip (P:=P) (w:=w) t
   obtain ⟨b1,b2⟩:=b
   exact ⟨(p.1,b2)::rs,⟨pH h.1,rfl,c⟩,.cons ⟨rfl,h.2⟩ q⟩
def Zj6 (trs:List (TE×TE)):TE:=λσ H Q=>∀ p,H p=none->rE trs σ (upd H p (.dK [])) λps H2=>H2 p=some (.dK [])/\∃ kvs:List (aO×V),ps=kvs.map (λkv=>(kV kv.1,kv.2))/\kvs.length<=15/\Q (.ref p) (upd H2 p (.dK (mx [] kvs)))
theorem ZlP {X:Cx} {pos:Pos} {keys:List (Option Expr)} {values:List Expr} {trs:List (TE×TE)} (h:qQ X pos keys values trs) (hall:keys.all (·.isSome)=true) (hl:keys.length=values.length) (h0:keys≠[])
  (h15:keys.length<=15):PE X (.Dict keys values pos) (Zj6 trs):=by
 intro pins s σ H Q I q
 have hn:=I.hok.fresh (wa s.heap.objs.size)
 have I1:=I.laid (a:=s.heap.objs.size) (o:=.dK []) (h':=s.heap.push { cls:=.type "dict",data:=.dict #[] }) (t':=s.toks) (λ_ _ q=>v6 _ q) (wa _) (Zow s.heap I.big)
 refine wpAny_Dict_walk (knd:=dQ X.prog X.w) hall hl h0 h15 (thn (h pins _ σ _ _ I1 (q _ hn)) λws s2 hz0=>?_)
 obtain ⟨ps,H2,I2,rel,e,kvs,ep,lk,q2⟩:=hz0
 subst ep
 obtain ⟨rs,c,rk⟩:=Zip (P:=X.prog) (w:=X.w) rel
 obtain ⟨z,hd,vs0,r0,dd⟩:=Zh7 I2.hok e
 cases r0
 refine ⟨rs,c,dd,λh' dd' hs=>⟨.ref s.heap.objs.size,_,?_,rfl,q2⟩⟩
 have hz:(mx [] kvs).length<=sizeLine:=by
  have h1:=ZdO kvs []
  rw [xo] at h1
  rw [sizeLine_eq]; omega
 have he:∃ q,h'.get? s.heap.objs.size=some q:=let ⟨q,_,_,hq,_⟩:=dd'; ⟨q,hq⟩
 exact uT I2 (by rw [e]; exact True.intro) hs he (Zh8 hz hd (rk.merge .nil) dd')
section
variable {X:Cx} {pins:List (Addr×Obj)} {σ:St} {H:Hp} {s:Shared} {a:Addr} {y d:V} {u r:Value} {o:Option V} {A:Around} {E:Ah}
end
section
variable {X:Cx} {o e f:Expr} {apos cpos:Pos} {td ty tx:TE}
end
section
variable {X:Cx} {pins:List (Addr×Obj)} {σ:St} {H:Hp} {s:Shared} {a:Addr} {kvs:List (aO×V)} {A:Around} {E:Ah}
end
section
variable {X:Cx} {pins:List (Addr×Obj)} {σ:St} {H:Hp} {s:Shared} {a:Addr} {y:V} {u:Value} {A:Around} {E:Ah}
end
end L2
namespace Att
open PySem.W PySem.Calls
theorem ints_of_wellAll {P:Params} {h:Heap}:∀ (ns:Aj) (vs:Ak),WellAll P h vs (ns.map WData.int)->IntsAre vs ns:=by
 intro ns
 induction ns with
 | nil =>
  intro vs w
  rw [xv] at w
  cases w
  exact .nil
 | cons n ns ih =>
  intro vs w
  rw [wf] at w
  cases w with
  | cons a b =>
   cases a
   exact .cons _ _ (ih _ b)
theorem script_of {l:OpenLaw} {n:Nat} (hn:l.most=some n) {P:Params} {h:Heap} {args:List WData} {vals:Ak}
  (hpre:l.row.toRowW.claim.pre args=true) (hwl:WellAll P h vals args) :
  ∃ a vs ns,vals=[Value.ref a]/\args=[WData.list (ns.map WData.int)]/\h.get? a=some { cls:=.type "list",data:=.seq vs.toArray }/\IntsAre vs ns/\ns.length<=n:=by
 have hsh:WShape.hasAll [] args [.list .int]=true:=(pre_splitW hpre).1
 have hc:l.pre.holds [] { args:=args }=true:=(pre_splitW hpre).2
 obtain ⟨d,r,rfl,h1,h2⟩:=hasAllW_cons hsh
 obtain rfl:=hasAllW_nil h2
 obtain ⟨xs,rfl,h3⟩:=hasW_list h1
 obtain ⟨ns,rfl⟩:=items_int h3
 have hlen:ns.length<=n:=by
  unfold OpenLaw.pre at hc
  have h4:(WTm.not (.lt (.lit (.int (n:Int))) (.len (.arg 0)))).holds [] { args:=[.list (ns.map .int)] }=true:=by
   have h4:=(holds_andW hc).1
   rw [hn] at h4
   exact h4
  have h5:=condW_of h4 (w_not (w_lt w_lit (w_len_list (w_arg rfl))))
  rw [v7] at h5
  refine yq λq=>?_
  have q':(n:Int) < ((ns.length:Nat):Int):=by omega
  first
   | (rw [decide_eq_true q'] at h5; exact absurd h5 (by decide))
   | (simp at h5; omega)
 cases hwl with
 | cons w1 w2 =>
  cases w2
  cases w1 with
  | list ho hall=>exact ⟨_,_,ns,rfl,rfl,ho,ints_of_wellAll ns _ hall,hlen⟩
theorem post_true (l:OpenLaw) (args:List WData):l.row.toRowW.claim.post args (.bool true) args=true :=
 postW_of (r:=l.row.toRowW) (X:=(true == true))
  (show WShape.has [] (.bool true) .bool=true by first | rfl | decide | simp [WShape.has,WShape.arms,WShape.armsAll])
  (show (WTm.eq .res (.lit (.bool true))).value [] { args:=args,res:=some (.bool true),after:=args }=some (.bool (true == true)) from w_eq_bool (w_res rfl) w_lit) rfl
theorem attach_call {l:OpenLaw} {n:Nat} {q:Program} {loose:Am} {XP:Ao->Heap->Prop} {YP:World->Heap->Prop} {d:DefRec}
  (hn:l.most=some n) (hdf:d.params.defaults=[])
  (call:∀ (w:World) (s₀ s₁:Shared) (mg mb:Ao) (fa:Addr) (o:Obj) (pm cd doc:Value) (a:Addr) (vs:Ak) (ns:Aj),
   Ground q loose [] XP w s₀ mg mb s₁.heap->YP w s₁.heap ->
   s₁.heap.get? fa=some o->o.data=.func (docDef d.name d.params d.body d.scope pm cd doc)->s₁.heap.CodeRec cd d.name->mg d.name=some (.ref fa) ->
   s₁.heap.get? a=some { cls:=.type "list",data:=.seq vs.toArray }->IntsAre vs ns->ns.length<=n->s₁.gens=#[] ->
   codeAny (model l.prog w) callerA (.call (.ref fa) ⟨[.ref a],[]⟩) (λr s'=>r=.ok (.ret (.bool true))/\OldK s₁.heap s'.heap/\s'.os=s₁.os/\AllBare s'.gens) s₁) :
  WalkO q loose XP YP l.row.toRowW d [] (λf vs=>PySem.call f vs):=by
 intro w s₀ s₁ mg mb G Y fa o pm cd doc dV kV ho hd hcd hD hmg hg args vals as hpre hlay hrd hwl hlo
 obtain rfl:dV=.none:=Dflts.none hD hdf
 obtain rfl:kV=.none:=Dflts.noKw hD
 obtain ⟨a,vs,ns,rfl,rfl,hobj,hints,hlen⟩:=script_of hn hpre hwl
 refine enter_call (codeAny_mono (call w s₀ s₁ mg mb fa o pm cd doc a vs ns G Y ho (fd_plain hd) hcd hmg hobj hints hlen hg) λr s' hq=>?_)
 obtain ⟨rfl,h2,h3,h4⟩:=hq
 exact ⟨.inl ⟨.bool true,.bool true,[],rfl,λ_=>rfl,.bool true,post_true l _,λ_=>⟨List.Pairwise.nil,λ_ hm=>(nomatch hm)⟩⟩,h2,h3,h4⟩
section
variable {prog:Program} {w:World} {A:Around} {E:Ah} {s:Shared} {K:Frag}
end
end Att
namespace L2
theorem Zjw {vs:Ak} {ns:Aj} (h:IntsAre vs ns):Vals (ns.map V.int) vs:=by
 induction h with
 | nil=>exact .nil
 | cons n t h ih=>exact .cons ⟨t,rfl⟩ ih
def qS (H:Hp):Prop:=∀ b,H b=none\/∃ o xs,H b=some (.frz o (.lst xs))
theorem Znf {P:Program} {w:World} {K:zZ} {mg mb:Ao} {CX:fw} {k:Nat} {fa a:Addr} {fd:FuncData} {x:Str} {sp:Sp} {s₁:Shared} {vs:Ak} {ns:Aj}
  (KX:K.In s₁.heap) (hns:s₁.heap.Ns mainGlobals mg) (hb:s₁.heap.Ns builtinsNs mb) (hbb:∀ x:Str,x≠"__name__"->mb x=bootBuiltins x) (hlim:s₁.heap.NoLimit) (hdig:s₁.heap.NoDigits) (hg:s₁.gens=#[])
  (ha:s₁.heap.get? a=some { cls:=.type "list",data:=.seq vs.toArray }) (hi:IntsAre vs ns) (hl:ns.length<=sizeLine) (hr:Room k callerA)
  (F:∀ base:Heap,K.In base->base.Ns mainGlobals mg->FnOk P w K mg base CX k fa fd [x] sp) (hbind:∀ (s:Shared) (u:Value),BindsTo s fd ⟨[u],[]⟩ [(x,u)])
  (hsp:∀ H:Hp,qS H->SqL K H a (ns.map V.int)->sp [.ref a] H (λv _=>v=.bl true) λ_ _ _=>False)
  (hCX:∀ H e s',CX [] H s₁ (λ_ _ _=>False) e s'->False) :
  codeAny (model P w) callerA (.call (.ref fa) ⟨[.ref a],[]⟩) (λr s'=>r=.ok (.ret (.bool true))/\OldK s₁.heap s'.heap/\s'.os=s₁.os/\AllBare s'.gens) s₁:=by
 have rv:=Zjw hi
 have lenV:=hi.length
 -- from an abstract heap in which nothing but the script may be tracked
 have core:∀ H:Hp,qS H->SqL K H a (ns.map V.int)->HOk P w H s₁.heap->(∀ b,H b≠none->b=a)->(H a≠none->K.lookup a=none) ->
   codeAny (model P w) callerA (.call (.ref fa) ⟨[.ref a],[]⟩) (λr s'=>r=.ok (.ret (.bool true))/\OldK s₁.heap s'.heap/\s'.os=s₁.os/\AllBare s'.gens) s₁:=by
  intro H hO hS hok hA hK
  have base_of:∀ {b:Addr} {o:Obj},s₁.heap.get? b=some o->H b=none->(h8 s₁.heap H).get? b=some o:=λe n=>ZnE e n
  have noA:∀ {b:Addr} {o:Obj} {es:Array DictEntry} {ep:Nat},s₁.heap.get? b=some o->o.data=.dict es ep->H b=none:=λ{b o es ep} e d=>by
   cases q:H b with
   | none=>rfl
   | some u =>
    have e':b=a:=hA b (by rw [q]; simp)
    subst e'
    rw [ha] at e; cases e
    have d':Data.seq vs.toArray _=Data.dict es ep:=d
    cases d'
  have nsK:∀ {b:Addr} {m:Ao},s₁.heap.Ns b m->(h8 s₁.heap H).Ns b m:=λ{b m} hz0=>by
   obtain ⟨o,es,ep,e,d,r⟩:=hz0
   exact ⟨o,es,ep,base_of e (noA e d),d,r⟩
  have hKb:K.In (h8 s₁.heap H):=λb o e=>base_of (KX b o e) (by
   cases q:H b with
   | none=>rfl
   | some u =>
    have e':b=a:=hA b (by rw [q]; simp)
    subst e'
    rw [hK (by rw [q]; simp)] at e; cases e)
  have hM:Mod K mg (h8 s₁.heap H):=⟨hKb,nsK hns,⟨mb,nsK hb,hbb⟩,let ⟨mc,h1,h2⟩:=hlim; ⟨mc,nsK h1,h2⟩,let ⟨mc,h1,h2⟩:=hdig; ⟨mc,nsK h1,h2⟩⟩
  have e0:Env0 P w K mg (h8 s₁.heap H) callerA [] s₁ H:=⟨rfl,hM,λb o e=>Zmm e,Nat.le_of_eq (ZnD _ _),trivial,λb hb=>absurd (show b∈([]:List Addr) from hb) (by simp),hok,.of_eq hg⟩
  refine codeAny_mono ((F _ hKb (nsK hns)).run callerA [] s₁ H ⟨[.ref a],[]⟩ [.ref a] [.ref a] _ _ hr e0 (hbind s₁ (.ref a)) (.cons rfl .nil) (hsp H hO hS)) λr s' h=>?_
  cases r with
  | error e=>exact (hCX H e s' h).elim
  | ok fl =>
   cases fl with
   | next=>exact False.elim h
   | brk=>exact False.elim h
   | cont=>exact False.elim h
   | ret u =>
    obtain ⟨v,H',os,bare,un,hok',r',q⟩:=h
    have q':v=.bl true:=q
    subst q'
    obtain rfl:u=Value.bool true:=r'
    refine ⟨rfl,OldK.of_keep λb o e=>?_,os,bare⟩
    cases q:H b with
    | none=>exact un.keep b o e q (by intro z; exact absurd (show b∈([]:List Addr) from z) (by simp)) (by simp)
    | some u =>
     rcases hO b with z | ⟨ob,xs,z⟩
     ·rw [q] at z; cases z
     ·have z2:=un.frzs b ob _ z
      obtain ⟨e1,_⟩:=hok b _ z
      obtain ⟨e2,_⟩:=hok' b _ z2
      rw [e] at e1; cases e1
      exact e2
 cases hk:K.lookup a with
 | some o =>
  -- the script is one of the module's own objects
  have e:=KX a o hk
  rw [ha] at e
  cases e
  refine core (λ_=>none) (λ_=>.inl rfl) (.inr ⟨_,vs.toArray,_,hk,rfl,rfl,rfl,by rw [wj,lenV]; exact hl,by simpa using rv⟩) (λb u z=>by have z':(none:Option HO)=some u:=z; cases z') (λb z=>absurd rfl z) λz=>absurd rfl z
 | none =>
  refine core (λb=>if b=a then some (.frz { cls:=.type "list",data:=.seq vs.toArray } (.lst (ns.map V.int))) else none) (λb=>?_) (.inl (.inr ⟨{ cls:=.type "list",data:=.seq vs.toArray },if_pos rfl⟩)) (λb u z=>?_) (λb z=>?_) λ_=>hk
  ·by_cases hb:b=a
   ·exact .inr ⟨_,_,if_pos hb⟩
   ·exact .inl (if_neg hb)
  ·by_cases hb:b=a
   ·have z':=(if_pos hb).symm.trans z
    cases z'
    subst hb
    exact ⟨ha,by rw [v7]; exact hl,vs,_,rv,ha⟩
   ·have z':=(if_neg hb).symm.trans z
    cases z'
  ·by_cases hb:b=a
   ·exact hb
   ·exact absurd (if_neg hb) z
noncomputable abbrev KOf {K:zZ} {h:Heap} (_:K.In h):zZ:=K
theorem Zjn {l:PySem.W.OpenLaw} {n k:Nat} {q:Program} {loose:Am} {XP:Ao->Heap->Prop} {YP:World->Heap->Prop} {d:DefRec} {K:Params->zZ} {CX:World->fw} {sp:World->Sp} {x:Str}
  (hn:l.most=some n) (hn2:n<=sizeLine) (hdf:d.params.defaults=[]) (hr:Room k callerA)
  (hY:∀ (w:World) (h:Heap),YP w h->(K w.params).In h)
  (F:∀ (w:World) (mg:Ao) (fa:Addr) (h:Heap),(K w.params).In h->h.Ns mainGlobals mg->mg d.name=some (.ref fa) ->
   ∃ fd:FuncData,(∀ (s:Shared) (u:Value),BindsTo s fd ⟨[u],[]⟩ [(x,u)]) /\
    ∀ base:Heap,(K w.params).In base->base.Ns mainGlobals mg->FnOk l.prog w (K w.params) mg base (CX w) k fa fd [x] (sp w))
  (hsp:∀ (w:World) (H:Hp) (a:Addr) (ns:Aj),ns.length<=n->qS H->SqL (K w.params) H a (ns.map V.int)->sp w [.ref a] H (λv _=>v=.bl true) λ_ _ _=>False)
  (hCX:∀ (w:World) (H:Hp) (s:Shared) (e:Value) (s':Shared),CX w [] H s (λ_ _ _=>False) e s'->False) :
  PySem.W.WalkO q loose XP YP l.row.toRowW d [] (λf vs=>PySem.call f vs):=by
 refine Att.attach_call hn hdf λw s₀ s₁ mg mb fa o pm cd doc a vs ns G Y ho hd hcd hmg hobj hints hlen hg=>?_
 have KX:=hY w _ Y
 obtain ⟨fd,hb,hF⟩:=F w mg fa _ KX G.T.g hmg
 exact Znf KX G.T.g G.T.b G.T.builtins G.T.nolimit G.T.nodigits hg hobj hints (ww hlen hn2) hr hF hb (λH hO hS=>hsp w H a ns hlen hO hS) λH e s'=>hCX w H s₁ e s'
theorem Zjm {l:PySem.W.OpenLaw} {n k:Nat} {q:Program} {loose:Am} {XP:Ao->Heap->Prop} {YP:World->Heap->Prop} {d:DefRec} {K:Params->zZ} {CX:fw} {sp:zZ->Sp} {x:Str}
  (hn:l.most=some n) (hn2:n<=sizeLine) (hdf:d.params.defaults=[]) (hr:Room k callerA)
  (hY:∀ (w:World) (h:Heap),YP w h->(K w.params).In h)
  (F:∀ (w:World) (mg:Ao) (fa:Addr) (h:Heap),(K w.params).In h->h.Ns mainGlobals mg->mg d.name=some (.ref fa) ->
   ∃ fd:FuncData,(∀ (s:Shared) (u:Value),BindsTo s fd ⟨[u],[]⟩ [(x,u)]) /\
    ∀ base:Heap,(K w.params).In base->base.Ns mainGlobals mg->FnOk l.prog w (K w.params) mg base CX k fa fd [x] (sp (K w.params)))
  (hsp:∀ (K:zZ) (H:Hp) (a:Addr) (ns:Aj),ns.length<=n->qS H->SqL K H a (ns.map V.int)->sp K [.ref a] H (λv _=>v=.bl true) λ_ _ _=>False)
  (hCX:∀ (H:Hp) (s:Shared) (e:Value) (s':Shared),CX [] H s (λ_ _ _=>False) e s'->False) :
  PySem.W.WalkO q loose XP YP l.row.toRowW d [] (λf vs=>PySem.call f vs) :=
 Zjn (K:=K) (CX:=λ_=>CX) (sp:=λw=>sp (K w.params)) hn hn2 hdf hr hY F (λw H a ns h1 h2 h3=>hsp (K w.params) H a ns h1 h2 h3) λ_ H s e s'=>hCX H s e s'
noncomputable def lf (s:Stmt):Arguments:=match s with
 | .FunctionDef _ a _ _ _ _ _ _ _ _=>a
 | _=>{ posonlyargs:=[],args:=[],vararg:=none,kwonlyargs:=[],kw_defaults:=[],kwarg:=none,defaults:=[] }
noncomputable def gJ (s:Stmt):List Stmt:=match s with
 | .FunctionDef _ _ b _ _ _ _ _ _ _=>b
 | _=>[]
noncomputable def aP (s:Stmt):Scope:=match s with
 | .FunctionDef _ _ _ _ _ _ sc _ _ _=>sc
 | _=>{ kind:=.function,names:=[],isGenerator:=false,isCoroutine:=false }
noncomputable abbrev iq:fw:=λ_ _ _ _ _ _=>False
noncomputable abbrev E0:XK:=λ_ _ _=>False
theorem ZlZ {X:Cx}:vW iq X E0:=λ_ _ _ _ _ _ _ h=>h.elim
structure Fun (K:zZ) (x qual:Str) (st:Stmt) (f:Addr) (fd:FuncData):Prop where
 ex:∃ (oc:Value) (od:Option Addr) (kV doc pm:Value) (an:Option Addr) (cdv ct:Value) (osl:Array (Option Value)),
  fd=PySem.W.fnOf x qual (lf st) (gJ st) (aP st) .none kV doc pm an cdv ct/\K.lookup f=some ⟨oc,od,.func fd,osl⟩/\PySem.W.codeIn K cdv qual=true
 kp:PySem.W.keepIn K (.ref f)=true
section
variable {P:Program} {w:World} {K:zZ} {mg:Ao} {base:Heap}
theorem Fun.ok {x qual:Str} {st:Stmt} {f:Addr} {fd:FuncData} {N ps:Am} {k:Nat} {sp:Sp} (F:Fun K x qual st f fd) (S:FnScope N ps (aP st)) (len:∀ vs H Q E,sp vs H Q E->vs.length=ps.length)
  (hbody:∀ (cdv:Value) (A:Around) (outer:List Env) (s:Shared) (H:Hp) (vs:An) (Q:VK) (E:XK),Room k (A.deeper (envOfC qual (aP st) s.heap.objs.size f cdv))->sp vs H Q E ->
   ∃ t,PSs (ie iq P w K mg base N qual (aP st) f cdv A outer s H E).nox (gJ st) t/\t { nx:=λ_ H'=>Q .non H',rt:=Q } (start N vs) H):FnOk P w K mg base iq (k+1) f fd ps sp:=by
 obtain ⟨oc,od,kV,doc,pm,an,cdv,ct,osl,rfl,lk,hcd⟩:=F.ex
 refine ZnV lk hcd S len λA outer s H vs Q E hr hsp=>?_
 obtain ⟨t,h,q⟩:=hbody cdv A outer s H vs Q E hr hsp
 exact ⟨t,h.nox,q⟩
theorem Fun.binds {x qual:Str} {st:Stmt} {f:Addr} {fd:FuncData} {ps:Am} (F:Fun K x qual st f fd)
  (h:∀ (kV doc pm:Value) (an:Option Addr) (cdv ct:Value) (us:Ak),us.length=ps.length->bindArgs (PySem.W.fnOf x qual (lf st) (gJ st) (aP st) .none kV doc pm an cdv ct) ⟨us,[]⟩=pure (ps.zip us)):Binds K fd ps []:=by
 obtain ⟨oc,od,kV,doc,pm,an,cdv,ct,osl,rfl,lk,hcd⟩:=F.ex
 exact .all (h kV doc pm an cdv ct)
theorem ZnU {x qual:Str} {st:Stmt} {f:Addr} {oc:Value} {od an:Option Addr} {osl:Array (Option Value)} {kV doc pm cdv ct:Value} (l:K.lookup f=some ⟨oc,od,.func (PySem.W.fnOf x qual (lf st) (gJ st) (aP st) .none kV doc pm an cdv ct),osl⟩)
  (c:PySem.W.codeIn K cdv qual=true) (k:PySem.W.keepIn K (.ref f)=true):Fun K x qual st f (PySem.W.fnOf x qual (lf st) (gJ st) (aP st) .none kV doc pm an cdv ct):=⟨⟨oc,od,kV,doc,pm,an,cdv,ct,osl,rfl,l,c⟩,k⟩
end
theorem pM {A:Around} {k:Nat} (hr:Room k A):A.units+1 < cLine:=xE (Nat.add_le_add_left (by decide:1<=64) _) hr.units
section
variable {X:Cx}
theorem pv (i:Nat) {x:Str} {pos:Pos} (hN:X.N[i]?=some x:=by rfl) (hv:qM X.env.scope x:=by first | exact Or.inl rfl | exact Or.inr (.inl rfl) | exact Or.inr (.inr rfl)) (hd:(x == ("__debug__":Str))=false:=by decide)
  (hcd:(x == ("__classdict__":Str))=false:=by decide):PE X (.Name x pos) (fA i):=ZlH hN hv hd hcd
end
theorem pI {c A B:Prop} [Decidable c] (h1:c->A) (h2:¬ c->B):if c then A else B:=by
 by_cases h:c
 ·rw [if_pos h]
  exact h1 h
 ·rw [if_neg h]
  exact h2 h
def Same (H H':Hp):Prop:=∀ b o,H b=some o->H' b=some o
theorem Same.refl (H:Hp):Same H H:=λ_ _ h=>h
theorem Same.seq {K:zZ} {H H':Hp} {a:Addr} {xs:An} (e:Same H H') (h:SqL K H a xs):SqL K H' a xs:=by
 rcases h with (h | ⟨o,h⟩) | h
 ·exact .inl (.inl (e _ _ h))
 ·exact .inl (.inr ⟨o,e _ _ h⟩)
 ·exact .inr h
structure Blk where
 cl:List (Str×Addr)
 C:Addr
 s:Shared
 H:Hp
 fp:List Addr
 pn:List (Addr×Obj)
noncomputable def bU (X:Cx) (N:Am) (scope:Scope) (b:Blk):Cx where
 prog:=X.prog
 w:=X.w
 K:=X.K
 mg:=X.mg
 base:=X.base
 A:=X.A
 N:=N
 s₀:=b.s
 H₀:=b.H
 env:=compEnvC scope b.cl b.C X.env
 outer:=X.stack
 stack:=X.stack
 ex:=b.fp
 fn:=λx=>scope.names.lookup x == some .cell
 calm:=X.calm
 pn:=b.pn
 xe:=λ_ _=>False
def bN (Nx ts:Am) (ix:List Nat):Am:=ts++ix.map λj=>(Nx[j]?).getD Str.empty
noncomputable def dL (n:Nat) (ix:List Nat) (σ:St):St:=List.replicate n none++ix.map λj=>(σ[j]?).getD none
structure BlkOk (Nx:Am) (sc scope:Scope) (ix:List Nat):Prop where
 kind:scope.kind=.function
 cells:∀ y∈scope.names,y.2=.cell->scope.names.lookup y.1=some .cell
 locs:∀ y∈scope.names,y.2=.local->scope.names.lookup y.1=some .local
 frees:∀ y∈scope.names,y.2=.free->sc.names.lookup y.1=some .cell\/sc.names.lookup y.1=some .free
 caps:∀ j∈ix,j < Nx.length/\scope.names.lookup ((Nx[j]?).getD Str.empty)=some .free
theorem uE {env:Env} {f:Str×NameKind->List (Str×Addr)->Sem (ForInStep (List (Str×Addr)))}
  (h1:∀ n k r,k≠NameKind.free->f (n,k) r=pure (.yield r)) (h2:∀ n r c,env.cells.lookup n=some c->f (n,NameKind.free) r=pure (.yield ((n,c)::r))) :
  ∀ (names:List (Str×NameKind)) (acc:List (Str×Addr)),(∀ y∈names,y.2=.free->∃ c,env.cells.lookup y.1=some c)->(∀ x c,acc.lookup x=some c->env.cells.lookup x=some c) ->
   ∃ cl,forIn names acc f=pure cl/\(∀ x c,cl.lookup x=some c->env.cells.lookup x=some c)/\(∀ y∈names,y.2=.free->∃ c,cl.lookup y.1=some c)/\∀ x c,acc.lookup x=some c->∃ c',cl.lookup x=some c'
 | [],acc,_,ha=>⟨acc,rfl,ha,(λ_ h=>nomatch h),λx c h=>⟨c,h⟩⟩
 | (n,k)::names,acc,hn,ha=>by
  have hn':∀ y∈names,y.2=.free->∃ c,env.cells.lookup y.1=some c:=λy hy=>hn y (v8 _ hy)
  by_cases hk:k=.free
  ·subst hk
   obtain ⟨c,hc⟩:=hn (n,.free) w8 rfl
   have ha':∀ x d,((n,c)::acc).lookup x=some d->env.cells.lookup x=some d:=λx d e=>by
    rw [wO] at e
    cases hx:x == n with
    | true =>
     rw [hx] at e
     have hxn:x=n:=by simpa using hx
     subst hxn
     cases e
     exact hc
    | false =>
     rw [hx] at e
     exact ha x d e
   obtain ⟨cl,e,p1,p2,p3⟩:=uE h1 h2 names ((n,c)::acc) hn' ha'
   refine ⟨cl,?_,p1,λy hy hf=>?_,λx d hx=>?_⟩
   ·rw [y4,h2 n acc c hc,pure_bind]
    exact e
   ·rcases wt.mp hy with rfl | hy
    ·exact p3 n c (by simp)
    ·exact p2 y hy hf
   ·by_cases e1:x=n
    ·subst e1
     exact p3 x c (by simp)
    ·exact p3 x d (by rw [wO,beq_false_of_ne e1]; exact hx)
  ·obtain ⟨cl,e,p1,p2,p3⟩:=uE h1 h2 names acc hn' ha
   refine ⟨cl,?_,p1,λy hy hf=>?_,p3⟩
   ·rw [y4,h1 n k acc hk,pure_bind]
    exact e
   ·rcases wt.mp hy with rfl | hy
    ·exact absurd hf hk
    ·exact p2 y hy hf
theorem qc {scope:Scope} {env:Env} (hn:∀ y∈scope.names,y.2=.free->∃ c,env.cells.lookup y.1=some c) :
  ∃ cl,closureFor scope env=pure cl/\(∀ x c,cl.lookup x=some c->env.cells.lookup x=some c)/\∀ y∈scope.names,y.2=.free->∃ c,cl.lookup y.1=some c:=by
 unfold closureFor
 have key:=uE (env:=env) (f:=λ(x:Str×NameKind) (r:List (Str×Addr))=>match x with
  | (name,kind)=>if (kind == NameKind.free)=true then (do let a <- cellOf env name; pure (ForInStep.yield ((name,a)::r))) else pure (ForInStep.yield r))
  (λn k r hk=>by
   have hb:(k == NameKind.free)=false:=by simpa using hk
   show (if (k == NameKind.free)=true then _ else _)=_
   rw [hb]
   rfl)
  (λn r c hc=>by
   show (do let a <- cellOf env n; pure (ForInStep.yield ((n,a)::r)))=_
   unfold cellOf
   rw [hc]
   rfl) scope.names [] hn (λx c h=>by simp at h)
 obtain ⟨cl,e,p1,p2,_⟩:=key
 refine ⟨cl,?_,p1,p2⟩
 show (forIn scope.names [] _ >>= λr=>pure r)=pure cl
 exact (congrArg (λt=>t >>= λr=>pure r) e).trans (pure_bind _ _)
section
variable {X:Cx} {pins:List (Addr×Obj)} {σ:St} {H:Hp} {s:Shared}
theorem Zk7 {scope:Scope} {env:Env} {x:Str} (h:scope.names.lookup x=some .free):(relabel scope env).names.lookup x=some .cell\/(relabel scope env).names.lookup x=some .free:=by
 unfold relabel
 show List.lookup x (scope.names.map _)=_\/List.lookup x (scope.names.map _)=_
 generalize scope.names=l at h
 induction l with
 | nil=>simp at h
 | cons p r ih =>
  obtain ⟨n,k⟩:=p
  rw [wf]
  cases hx:x == n with
  | true =>
   rw [wO,hx] at h
   have hk:k=.free:=by simpa using h
   subst hk
   by_cases hc:(NameKind.free == NameKind.free && env.scope.kind == .function && env.kindOf n == some .cell)=true
   ·refine .inl ?_
    show List.lookup x ((if (NameKind.free == NameKind.free && env.scope.kind == .function && env.kindOf n == some .cell)=true then (n,NameKind.cell) else (n,NameKind.free))::_)=_
    rw [if_pos hc,wO,hx]
   ·refine .inr ?_
    show List.lookup x ((if (NameKind.free == NameKind.free && env.scope.kind == .function && env.kindOf n == some .cell)=true then (n,NameKind.cell) else (n,NameKind.free))::_)=_
    rw [if_neg hc,wO,hx]
  | false =>
   rw [wO,hx] at h
   have key:∀ q:Str×NameKind,(q=(n,NameKind.cell)\/q=(n,k))->∀ l',List.lookup x (q::l')=List.lookup x l':=λq hq l'=>by
    rcases hq with rfl | rfl <;> rw [wO,hx]
   have hq:(if (k == NameKind.free && env.scope.kind == .function && env.kindOf n == some .cell)=true then (n,NameKind.cell) else (n,k))=(n,NameKind.cell)\/(if (k == NameKind.free && env.scope.kind == .function && env.kindOf n == some .cell)=true then (n,NameKind.cell) else (n,k))=(n,k):=by
    split
    ·exact .inl rfl
    ·exact .inr rfl
   rcases ih h with z | z
   ·exact .inl ((key _ hq _).trans z)
   ·exact .inr ((key _ hq _).trans z)
theorem Zk8 {scope:Scope} {env:Env} {x:Str} (h:(relabel scope env).names.lookup x=some .cell\/(relabel scope env).names.lookup x=some .free):∃ y∈scope.names,y.1=x/\(y.2=.free\/y.2=.cell):=by
 unfold relabel at h
 have h':List.lookup x (scope.names.map λ(n,k)=>if (k == .free && env.scope.kind == .function && env.kindOf n == some .cell) then (n,NameKind.cell) else (n,k))=some .cell\/List.lookup x (scope.names.map λ(n,k)=>if (k == .free && env.scope.kind == .function && env.kindOf n == some .cell) then (n,NameKind.cell) else (n,k))=some .free:=h
 clear h
 generalize scope.names=l at h'
 induction l with
 | nil=>simp at h'
 | cons p r ih =>
  obtain ⟨n,k⟩:=p
  rw [wf] at h'
  cases hx:x == n with
  | true =>
   have hxn:x=n:=by simpa using hx
   by_cases hk:k=.free
   ·exact ⟨(n,k),w8,hxn.symm,.inl hk⟩
   ·
    have hb:(k == NameKind.free)=false:=by simpa using hk
    have e:(if (k == NameKind.free && env.scope.kind == .function && env.kindOf n == some .cell)=true then (n,NameKind.cell) else (n,k))=(n,k):=by
     rw [hb]
     rfl
    have h2:List.lookup x ((n,k)::r.map λ(n,k)=>if (k == .free && env.scope.kind == .function && env.kindOf n == some .cell) then (n,NameKind.cell) else (n,k))=some .cell\/List.lookup x ((n,k)::r.map λ(n,k)=>if (k == .free && env.scope.kind == .function && env.kindOf n == some .cell) then (n,NameKind.cell) else (n,k))=some .free:=by
     rw [<- e]
     exact h'
    rw [wO,hx] at h2
    rcases h2 with z | z
    ·exact ⟨(n,k),w8,hxn.symm,.inr (wJ z)⟩
    ·exact absurd (wJ z) hk
  | false =>
   have hq:∀ q:Str×NameKind,(q=(n,NameKind.cell)\/q=(n,k))->∀ l',List.lookup x (q::l')=List.lookup x l':=λq hq l'=>by
    rcases hq with rfl | rfl <;> rw [wO,hx]
   have hqq:(if (k == NameKind.free && env.scope.kind == .function && env.kindOf n == some .cell)=true then (n,NameKind.cell) else (n,k))=(n,NameKind.cell)\/(if (k == NameKind.free && env.scope.kind == .function && env.kindOf n == some .cell)=true then (n,NameKind.cell) else (n,k))=(n,k):=by
    split
    ·exact .inl rfl
    ·exact .inr rfl
   obtain ⟨y,hy,e⟩:=ih (by
    rcases h' with z | z
    ·exact .inl ((hq _ hqq _).symm.trans z)
    ·exact .inr ((hq _ hqq _).symm.trans z))
   exact ⟨y,v8 _ hy,e⟩
theorem Zim:∀ (names:List (Str×NameKind)) (h:Heap) (acc:List (Str×Addr)),
  (∀ x c,(cellsFrom h.objs.size names acc).lookup x=some c->acc.lookup x=some c\/(h.objs.size<=c/\(pushCells h names).IsCell c none/\(x,NameKind.cell)∈names)) /\
  (∀ x,((x,NameKind.cell)∈names\/∃ c,acc.lookup x=some c)->∃ c,(cellsFrom h.objs.size names acc).lookup x=some c) /\
  (∀ x c,(x,NameKind.cell)∈names->(cellsFrom h.objs.size names acc).lookup x=some c->h.objs.size<=c) /\
  ((∀ x c,acc.lookup x=some c->c < h.objs.size)->(∀ x y c,acc.lookup x=some c->acc.lookup y=some c->x=y)->∀ x y c,(cellsFrom h.objs.size names acc).lookup x=some c->(cellsFrom h.objs.size names acc).lookup y=some c->x=y):=by
 intro names
 induction names with
 | nil=>intro h acc; exact ⟨λx c e=>.inl e,λx e=>by rcases e with e | e; cases e; exact e,λx c e=>(by cases e),λ_ i=>i⟩
 | cons p r ih =>
  obtain ⟨name,kind⟩:=p
  intro h acc
  unfold cellsFrom pushCells
  by_cases hk:kind=.cell
  ·subst hk
   have hk':((NameKind.cell == NameKind.cell)=true):=rfl
   rw [if_pos hk',if_pos hk']
   have ih':=ih (h.push { cls:=.type "cell",data:=.cell none }) ((name,h.objs.size)::acc)
   rw [wX] at ih'
   obtain ⟨i1,i2,i4,i3⟩:=ih'
   refine ⟨λx c e=>?_,λx e=>?_,λx c e1 e2=>?_,λhb hi=>i3 (λx c e=>?_) λx y c e1 e2=>?_⟩
   ·rcases i1 x c e with z | ⟨z1,z2,z3⟩
    ·rw [wO] at z
     cases hx:x == name with
     | true =>
      rw [hx] at z
      have hxn:x=name:=by simpa using hx
      cases z
      exact .inr ⟨wa _,⟨_,pushCells_keeps _ _ _ _ (wc _ rfl),rfl⟩,by rw [hxn]; exact w8⟩
     | false=>rw [hx] at z; exact .inl z
    ·exact .inr ⟨by omega,z2,v8 _ z3⟩
   ·refine i2 x ?_
    by_cases hx:x=name
    ·exact .inr ⟨h.objs.size,by rw [wO,hx]; simp⟩
    ·rcases e with e | ⟨c,e⟩
     ·rcases wt.mp e with q | q
      ·exact absurd (congrArg Prod.fst q) hx
      ·exact .inl q
     ·exact .inr ⟨c,by rw [wO,beq_false_of_ne hx]; exact e⟩
   ·rcases i1 x c e2 with z | ⟨z,_,_⟩
    ·rw [wO] at z
     cases hx:x == name with
     | true=>rw [hx] at z; cases z; exact wa _
     | false =>
      have hxn:x≠name:=by simpa using hx
      rcases wt.mp e1 with q | q
      ·exact absurd (congrArg Prod.fst q) hxn
      ·exact yD (i4 x c q e2)
    ·exact yD z
   ·rw [wO] at e
    cases hx:x == name with
    | true=>rw [hx] at e; cases e; exact yp _
    | false=>rw [hx] at e; exact xZ (hb x c e)
   ·rw [wO] at e1 e2
    cases hx:x == name with
    | true =>
     have hxn:x=name:=by simpa using hx
     rw [hx] at e1
     cases e1
     cases hy:y == name with
     | true =>
      have hyn:y=name:=by simpa using hy
      rw [hxn,hyn]
     | false=>rw [hy] at e2; exact absurd (hb y _ e2) (wH _)
    | false =>
     rw [hx] at e1
     cases hy:y == name with
     | true=>rw [hy] at e2; cases e2; exact absurd (hb x _ e1) (wH _)
     | false=>rw [hy] at e2; exact hi x y c e1 e2
  ·have hk':¬ ((kind == NameKind.cell)=true):=by simpa using hk
   rw [if_neg hk',if_neg hk']
   obtain ⟨i1,i2,i4,i3⟩:=ih h acc
   refine ⟨λx c e=>?_,λx e=>i2 x ?_,λx c e1 e2=>?_,i3⟩
   ·rcases i1 x c e with z | ⟨z1,z2,z3⟩
    ·exact .inl z
    ·exact .inr ⟨z1,z2,v8 _ z3⟩
   ·rcases e with e | e
    ·rcases wt.mp e with q | q
     ·exact absurd (congrArg Prod.snd q).symm hk
     ·exact .inl q
    ·exact .inr e
   ·rcases wt.mp e1 with q | q
    ·exact absurd (congrArg Prod.snd q).symm hk
    ·exact i4 x c q e2
theorem Zaj {M:Model} {A:Around} {E:Ah} {s:Shared} {scope:Scope} {globals:Addr} {cl:List (Str×Addr)} {qual:Str} {outer:Env} {Q:Env->Shared->Prop}
  (h:Q { scope:=scope,locals:=s.heap.objs.size,globals:=globals,cells:=cellsFrom (s.heap.objs.size+1) scope.names cl,qual:=qual,func:=none,code:=outer.code,frame:=outer.frame,builtins:=outer.builtins } { s with heap:=pushCells (s.heap.push { cls:=.type "dict",data:=.dict #[] }) scope.names }) :
  wpAny M A (newFunctionEnv scope globals cl [] qual none .none (some outer)) Q E s:=by
 simp only [newFunctionEnv,Option.isSome_some,if_true]
 refine wpAny_bind (wpAny_alloc ?_)
 refine wpAny_bind (wpAny_layCells _ (λname kind cells=>by cases hkc:kind == NameKind.cell <;> simp [hkc]) _ _ _ _ ?_)
 rw [show ({ s with heap:=s.heap.push { cls:=.type "dict",data:=.dict #[] } }:Shared).heap.objs.size=s.heap.objs.size+1 from wX ..]
 rw [zN]
 exact wpAny_bind (wpAny_pure (wpAny_pure h))
theorem Zqb {Nx ts:Am} {ix:List Nat} {i:Nat} {x:Str} (h:(bN Nx ts ix)[i]?=some x) (hi:ts.length<=i):∃ j,ix[i - ts.length]?=some j/\x=(Nx[j]?).getD Str.empty:=by
 unfold bN at h
 rw [wM hi,v9] at h
 cases e:ix[i - ts.length]? with
 | none=>rw [e] at h; cases h
 | some j=>rw [e] at h; exact ⟨j,rfl,(wJ h).symm⟩
theorem Zec {scope:Scope} {cl:List (Str×Addr)} {fp:List Addr} {C:Addr} {h3:Heap} {tk:Nat} {m:Ao} {Nx ts:Am} {ix:List Nat}
  (I:Inv X pins σ H s) (hNx:X.N=Nx) (ok:BlkOk Nx X.env.scope scope ix) (cs1:∀ x c,cl.lookup x=some c->X.env.cells.lookup x=some c\/(C < c/\h3.IsCell c none/\(x,NameKind.cell)∈scope.names)) (csI:∀ x y c,cl.lookup x=some c->cl.lookup y=some c->x=y) (cl2:∀ y∈scope.names,(y.2=.free\/y.2=.cell)->∃ c,cl.lookup y.1=some c) (csA:∀ x c,(x,NameKind.cell)∈scope.names->cl.lookup x=some c->C<=c)
  (hf:∀ b∈fp,gg X pins H b) (hfs:∀ b∈fp,b < s.heap.objs.size) (hC:s.heap.objs.size<=C) (kp:∀ b o,s.heap.get? b=some o->h3.get? b=some o) (hns:h3.Ns C m) :
  Inv (bU X (bN Nx ts ix) scope ⟨cl,C,s,H,fp,X.pn++pins⟩) [] (dL ts.length ix σ) H { s with heap:=h3,toks:=tk }:=by
 have below:∀ {b:Addr},b < s.heap.objs.size->b≠C:=λhb=>wz (wk hb hC)
 have nstk:∀ b,b≠X.env.locals->b ∉ X.fs->b ∉ frs X.stack:=λb h1 h2 hb=>by
  rcases wt.mp (I.stkSub b hb) with z | z
  ·exact h1 z
  ·exact h2 z
 refine ⟨⟨I.ok.mod,?_,I.ok.glob,I.ok.blt,hC,csI,λx hx=>?_,λx c hfn e=>ww hC (csA x c (xm (eq_of_beq hfn)) e),I.ok.hd,I.ok.frames,.inl rfl,λb hb=>⟨below (hfs b hb),λx c e=>by
  rcases cs1 x c e with z | ⟨z,_,_⟩
  ·exact (hf b hb).2.2.2.2.1 x c z
  ·exact xb (wk (hfs b hb) (ww hC (yl z)))⟩,I.bs,ww I.ok.bsz I.sz,λb o e hb=>?_,λb hb=>nstk b (hf b hb).2.1 (hf b hb).2.2.1,I.stack,I.stkFree⟩,
  rfl,I.bare,Un.kept kp,⟨m,hns,λi x v h1 h2 h3'=>?_⟩,λx c e=>?_,I.hok.fresh hC,λx c e=>by
  rcases cs1 x c e with z | ⟨z,_,_⟩
  ·exact I.freeC x c z
  ·exact I.hok.fresh (ww hC (yl z)),λp hp=>?_,I.hok.kept kp,?_⟩
 ·exact ok.kind
 ·have hx':(relabel scope X.env).names.lookup x=some .cell\/(relabel scope X.env).names.lookup x=some .free:=hx
  obtain ⟨y,hy,e1,e2⟩:=Zk8 hx'
  obtain ⟨c,hc⟩:=cl2 y hy e2
  exact ⟨c,by rw [<- e1]; exact hc⟩
 ·rcases (hf b hb).2.2.2.1 with z | z
  ·exact I.ok.noex b o e z
  ·exact absurd (wk (wq e) (ww I.ok.bsz z)) (wH _)
 ·have hi:ts.length<=i:=by
   rcases Nat.lt_or_ge i ts.length with z | z
   ·exfalso
    have h2':(dL ts.length ix σ)[i]?=some (some v):=h2
    unfold dL at h2'
    rw [wS (by simpa using z),wN] at h2'
    split at h2' <;> cases h2'
   ·exact z
  obtain ⟨j,hj,ex⟩:=Zqb h1 hi
  have h2':(dL ts.length ix σ)[i]?=some (some v):=h2
  unfold dL at h2'
  rw [wM (by simpa using hi),v9,xU,hj] at h2'
  have hσ:σ[j]?=some (some v):=by
   have q:(σ[j]?).getD none=some v:=wJ h2'
   cases e:σ[j]? with
   | none=>rw [e] at q; cases q
   | some w=>rw [e] at q; exact congrArg some q
  obtain ⟨hjl,hfree⟩:=ok.caps j (xI hj)
  have hNj:X.N[j]?=some x:=by
   rw [hNx,ex,wp hjl]
   rfl
  rw [<- ex] at hfree
  obtain ⟨c,hc⟩:=cl2 (x,.free) (xm hfree) (.inl rfl)
  have cl1:X.env.cells.lookup x=some c:=by
   rcases cs1 x c hc with z | ⟨_,_,z⟩
   ·exact z
   ·have:=ok.cells _ z rfl
    rw [hfree] at this
    cases this
  have kx:=ok.frees (x,.free) (xm hfree) rfl
  obtain ⟨m0,hn0,hl0⟩:=I.loc
  obtain ⟨u,ru,look⟩:=hl0 j x v hNj hσ (by rcases kx with z | z; exact .inr (.inl z); exact .inr (.inr z))
  refine ⟨u,ru,.inr ⟨Zk7 hfree,c,hc,?_⟩⟩
  rcases look with ⟨k1,_⟩ | ⟨_,c',hc',z⟩
  ·have k1':X.env.scope.names.lookup x=some .local:=k1
   rcases kx with z | z
   ·rw [k1'] at z; cases z
   ·rw [k1'] at z; cases z
  ·have e:=cl1
   rw [hc'] at e
   cases e
   obtain ⟨o,ho,hd⟩:=z
   exact ⟨o,kp _ _ ho,hd⟩
 ·rcases cs1 x c e with z | ⟨_,z,_⟩
  ·obtain ⟨v,o,ho,hd⟩:=I.cell x c z
   exact ⟨v,o,kp _ _ ho,hd⟩
  ·exact ⟨_,z⟩
 ·have hp':p∈X.pn++pins:=by simpa [bU] using hp
  obtain ⟨e,n,ne,nf,d⟩:=I.pin p hp'
  exact ⟨kp _ _ e,n,below (wq e),nstk _ ne nf,d⟩
 ·show (dL ts.length ix σ).length=(bN Nx ts ix).length
  unfold dL bN
  simp
theorem Inv.track {D:Addr} {ys:An} {its:Ak} {n:Nat} (I:Inv X pins σ H s) (hD:H D=none) (ho:s.heap.get? D=some { cls:=.type "list",data:=.seq its.toArray n }) (r:Vals ys its) (hz:ys.length<=sizeLine)
  (hL:D≠X.env.locals) (hs0:X.s₀.heap.objs.size<=D) (hc:∀ x c,X.env.cells.lookup x=some c->c≠D) (hp:∀ p∈X.pn++pins,p.1≠D):Inv X pins σ (upd H D (.lst ys)) s:=by
 have ne:∀ {b:Addr} {o:HO},H b=some o->b≠D:=λe=>de e hD
 refine I.step (g':=s.gens) (d':=s.drawn) (t':=s.toks) (h':=s.heap) (ch:=[D]) (λb hb=>?_) (λb o _ _ _ e _=>e) (λb o _ _ _ e _=>⟨o.slots,e⟩) (λb o hb e n=>?_) (λb o _ e=>⟨o,e⟩)
  (λb xs e=>by rw [bc (ne e)]; exact e) (λb o u e=>by rw [bc (ne e)]; exact e) (λb ps e=>⟨#[],by rw [bc (ne e),e]; simp⟩) (λm hm=>hm) (λb u e=>?_) I.bare
 ·have e:b=D:=by simpa using hb
  subst e
  exact ⟨.inr hs0,hL,hc,hp⟩
 ·have hb':b≠D:=by simpa using hb
  rw [bc hb']
  exact n
 ·by_cases hb:b=D
  ·subst hb
   rw [cA] at e
   cases e
   exact ⟨hz,its,n,r,ho⟩
  ·rw [bc hb] at e
   exact (I.hok b u e).stay (λc v _ q=>q) (λc q=>by rw [bc (ne q)]; exact q) λc xs q=>by rw [bc (ne q)]; exact q
end
theorem Zpr {prog:Program} {w:World} {A:Around} {R:Result->Shared->Prop} {s:Shared} {elt target iter:Expr} {scope:Scope} {pos:Pos} {it acc:Value} {env:Env} (J:Nat->Shared->Prop)
  (step:∀ k s0,J k s0->wpAny (model prog w) A (pyNext it) (λgot s1=>match got with
   | none=>R (.ok .next) s1
   | some v=>wpAny (model prog w) A (letOwnedTupleGo target it v) (λ_ s2=>wpAny (model prog w) A (assign target env v) (λ_ s3=>wpAny (model prog w) A (eval elt env) (λy s4 =>
     wpAny (model prog w) A (call (.builtin "list.append") [acc,y]) (λ_ s5=>∃ j,j < k/\J j s5) (λ_ _=>False) s4) (λ_ _=>False) s3) (λ_ _=>False) s2) (λ_ _=>False) s1) (λ_ _=>False) s0)
  (k:Nat) (h:J k s):codeAny (model prog w) A (.compLoop (.ListComp elt [⟨target,iter,[],0⟩] scope pos) 0 it acc env) R s:=by
 refine codeAny_loop rfl J (λk0 s0 hJ=>?_) k h
 show wpAny _ _ ((compTurn (.ListComp elt [⟨target,iter,[],0⟩] scope pos) 0 it acc env).onRaise (λx=>do noteFrame x env; theTreesLotGoes x)) _ _ s0
 apply wpAny_noted
 rw [compTurn_list1]
 refine wpAny_bind (wpAny_standAt (wpAny_bind (wpAny_mono (step k0 s0 hJ) (λgot s1 h1=>?_) λ_ _ z=>z.elim)))
 cases got with
 | none=>exact wpAny_pure h1
 | some v =>
  refine wpAny_bind (wpAny_mono h1 (λ_ s2 h2=>?_) λ_ _ z=>z.elim)
  refine wpAny_bind (wpAny_mono h2 (λ_ s3 h3=>?_) λ_ _ z=>z.elim)
  refine wpAny_bind (wpAny_bind (wpAny_mono h3 (λy s4 h4=>?_) λ_ _ z=>z.elim))
  exact wpAny_bind (wpAny_mono h4 (λ_ s5 h5=>wpAny_pure (wpAny_pure ⟨rfl,h5⟩)) λ_ _ z=>z.elim)
def lO (wi:TI) (n:Nat) (ix:List Nat) (g:Blk->TG) (te:Blk->TE):TE:=λσ H Q=>wi σ H λJ H1=>∀ b:Blk,∃ W:Nat->Nat->St->List V->Hp->Prop,(∃ m,W 0 m (dL n ix σ) [] H1)/\∀ i m τ ys H2,W i m τ ys H2 ->
 (J.stop i H2/\∀ p v H',H2 p=none->v=V.ref p->H'=upd H2 p (.lst ys)->Q v H') \/
 (J.go i H2/\ys.length < sizeLine/\∀ x H3,J.yld i H2 x H3->g b x τ H3 λτ2 H4=>te b τ2 H4 λy H5=>∃ m',m' < m/\W (i+1) m' τ2 (ys++[y]) H5)
section
variable {X:Cx} {pins:List (Addr×Obj)} {σ:St} {H:Hp} {s:Shared}
theorem ZdX {elt target iter:Expr} {scope:Scope} {pos:Pos} {Nx ts:Am} {ix:List Nat} {g:Blk->TG} {te:Blk->TE} {cl:List (Str×Addr)} {s2:Shared} {itv:Value} {R:Value->Addr->Result->Shared->Prop}
  {E:Ah} {Q:VK}
  (hc:X.calm=true) (hg:∀ b,PG (bU X (bN Nx ts ix) scope b) target (g b)) (he:∀ b,PE (bU X (bN Nx ts ix) scope b) elt (te b))
  (hNx:X.N=Nx) (ok:BlkOk Nx X.env.scope scope ix) (cl1:∀ x c,cl.lookup x=some c->X.env.cells.lookup x=some c) (cl2:∀ y∈scope.names,y.2=.free->∃ c,cl.lookup y.1=some c)
  (h2:qR X pins σ target (λJ H1=>∀ b:Blk,∃ W:Nat->Nat->St->List V->Hp->Prop,(∃ m,W 0 m (dL ts.length ix σ) [] H1)/\∀ i m τ ys H2,W i m τ ys H2 ->
   (J.stop i H2/\∀ p v H',H2 p=none->v=V.ref p->H'=upd H2 p (.lst ys)->Q v H') \/
   (J.go i H2/\ys.length < sizeLine/\∀ x H3,J.yld i H2 x H3->g b x τ H3 λτ2 H4=>te b τ2 H4 λy H5=>∃ m',m' < m/\W (i+1) m' τ2 (ys++[y]) H5)) itv s2)
  (hR:∀ (D C:Addr) (H':Hp) (s':Shared) (v:V),Inv X pins σ H' s'->v=.ref D->Q v H'->(∃ m,s'.heap.Ns C m)->H' C=none->C≠X.env.locals->X.s₀.heap.objs.size<=C->(∀ x c,X.env.cells.lookup x=some c->c≠C)->(∀ p∈X.pn++pins,p.1≠C) ->
   R (.ref D) C (.ok .next) s') :
  wpAny (model X.prog X.w) X.A (newList []) (λacc s₃=>wpAny (model X.prog X.w) X.A (newFunctionEnv scope X.env.globals cl [] X.env.qual none .none (some X.env)) (λcenv s₄ =>
   codeAny (model X.prog X.w) X.A (.compStart (.ListComp elt [⟨target,iter,[],0⟩] scope pos) 0 itv acc { cenv with scope:=relabel scope X.env }) (R acc cenv.locals) s₄) E s₃) E s2:=by
 obtain ⟨it,fp,tn,J,H1,e,I2,T,st2,f2,q2⟩:=h2
 subst e
 refine wpAny_newObj_type (Zaj ?_)
 dsimp only
 generalize hG:s2.heap.push { cls:=.type "list",dict:=none,data:=.seq ([]:Ak).toArray }=G
 have hGs:G.objs.size=s2.heap.objs.size+1:=by rw [<- hG,wX]
 have hfs:∀ b∈fp,b < s2.heap.objs.size:=λb hb=>let ⟨o,e,_⟩:=T.obj _ _ st2 b hb; wq e
 have kpG:∀ b o,G.get? b=some o->(pushCells (G.push { cls:=.type "dict",data:=.dict #[] }) scope.names).get? b=some o:=λb o e=>pushCells_keeps _ _ _ _ (v6 _ e)
 have hns3:(pushCells (G.push { cls:=.type "dict",data:=.dict #[] }) scope.names).Ns G.objs.size (λ_=>none):=(Heap.Ns.new G (.type "dict")).keeps (pushCells_keeps _ _)
 obtain ⟨sp1,sp2,sp4,sp3⟩:=Zim scope.names (G.push { cls:=.type "dict",data:=.dict #[] }) cl
 rw [wX] at sp1 sp2 sp3 sp4
 generalize hh3:pushCells (G.push { cls:=.type "dict",data:=.dict #[] }) scope.names=h3 at kpG hns3 sp1 ⊢
 have kp:∀ b o,s2.heap.get? b=some o->h3.get? b=some o:=λb o e=>kpG b o (by rw [<- hG]; exact v6 _ e)
 have hD3:h3.get? s2.heap.objs.size=some { cls:=.type "list",data:=.seq ([]:Ak).toArray }:=kpG _ _ (by rw [<- hG]; exact wc _ rfl)
 have clB:∀ x c,cl.lookup x=some c->c < G.objs.size+1:=λx c e=>by
  obtain ⟨v,q⟩:=I2.cell x c (cl1 x c e)
  exact xZ (wk q.lt (by rw [hGs]; exact Nat.le_succ _))
 have csI:=sp3 clB λx y c e1 e2=>I2.ok.inj x y c (cl1 x c e1) (cl1 y c e2)
 have cs1:∀ x c,(cellsFrom (G.objs.size+1) scope.names cl).lookup x=some c->X.env.cells.lookup x=some c\/(G.objs.size < c/\h3.IsCell c none/\(x,NameKind.cell)∈scope.names):=λx c e=>by
  rcases sp1 x c e with z | ⟨z1,z2,z3⟩
  ·exact .inl (cl1 x c z)
  ·exact .inr ⟨by omega,z2,z3⟩
 have cs2:∀ y∈scope.names,(y.2=.free\/y.2=.cell)->∃ c,(cellsFrom (G.objs.size+1) scope.names cl).lookup y.1=some c:=λy hy hk=>by
  refine sp2 y.1 ?_
  rcases hk with z | z
  ·exact .inr (cl2 y hy z)
  ·exact .inl (by rw [<- z]; exact hy)
 have csA:∀ x c,(x,NameKind.cell)∈scope.names->(cellsFrom (G.objs.size+1) scope.names cl).lookup x=some c->G.objs.size<=c:=λx c e1 e2=>yD (sp4 x c e1 e2)
 generalize hcs:cellsFrom (G.objs.size+1) scope.names cl=cs at csI cs1 cs2 csA ⊢
 generalize hCe:G.objs.size=C at hns3 cs1 csA ⊢
 have hC:s2.heap.objs.size<=C:=by omega
 have hDC:s2.heap.objs.size≠C:=by omega
 let B:Blk:=⟨cs,C,s2,H1,fp,X.pn++pins⟩
 have I3:Inv (bU X (bN Nx ts ix) scope B) [] (dL ts.length ix σ) H1 { s2 with heap:=h3 }:=Zec I2 hNx ok cs1 csI cs2 csA f2 hfs hC kp hns3
 have fC:H1 s2.heap.objs.size=none:=I2.hok.fresh (wa _)
 have cellIn:∀ x c,cs.lookup x=some c->c≠s2.heap.objs.size:=λx c e=>by
  rcases cs1 x c e with z | ⟨z,_,_⟩
  ·obtain ⟨v,q⟩:=I2.cell x c z
   exact wz q.lt
  ·exact xb (xE hC z)
 have pinIn:∀ p∈X.pn++pins,p.1 < s2.heap.objs.size:=λp hp=>wq (I2.pin p hp).1
 have nofrs:s2.heap.objs.size ∉ frs X.stack:=λhb=>by
  rcases wt.mp (I2.stkSub _ hb) with z | z
  ·exact absurd I2.lt (by rw [<- z]; exact wH _)
  ·exact I2.nofs (wa _) z
 -- a state with the list at its place,pinned
 have pinD:∀ {τ:St} {H':Hp} {s':Shared} {ob:Obj},Inv (bU X (bN Nx ts ix) scope B) [] τ H' s'->s'.heap.get? s2.heap.objs.size=some ob->H' s2.heap.objs.size=none->(∀ v,ob.data≠.cell v)->Inv (bU X (bN Nx ts ix) scope B) [(s2.heap.objs.size,ob)] τ H' s' :=
  λ{τ H' s' ob} I' ho hn hd=>I'.pins_of λp hp=>by
   have e:p=(s2.heap.objs.size,ob):=by simpa using hp
   subst e
   exact ⟨ho,hn,hDC,nofrs,hd⟩
 obtain ⟨W,⟨m0,w0⟩,turn⟩:=q2 B
 have stat:∀ {H':Hp} {ob:Obj},(∀ b∈fp,H' b=none)->∀ b∈fp,gg (bU X (bN Nx ts ix) scope B) [(s2.heap.objs.size,ob)] H' b:=λ{H' ob} hn b hb=>by
  refine ⟨hn b hb,wz (wk (hfs b hb) hC),λz=>?_,.inl hb,λx c e=>by
   rcases cs1 x c e with z | ⟨z,_,_⟩
   ·exact (f2 b hb).2.2.2.2.1 x c z
   ·exact xb (wk (hfs b hb) (ww hC (yl z))),λp hp=>?_⟩
  ·rcases wt.mp (I2.stkSub _ z) with q | q
   ·exact (f2 b hb).2.1 q
   ·exact (f2 b hb).2.2.1 q
  ·rcases xT.mp hp with z | z
   ·exact (f2 b hb).2.2.2.2.2 p z
   ·have e:p=(s2.heap.objs.size,ob):=by simpa using z
    subst e
    exact xb (hfs b hb)
 have loop:∀ s4:Shared,s4={ s2 with heap:=h3 } ->
   codeAny (model X.prog X.w) X.A (.compLoop (.ListComp elt [⟨target,iter,[],0⟩] scope pos) 0 (.ref it) (.ref s2.heap.objs.size) (compEnvC scope cs C X.env)) (R (.ref s2.heap.objs.size) C) s4:=by
  rintro s4 rfl
  refine Zpr (λk s'=>∃ i τ ys its n H',Inv (bU X (bN Nx ts ix) scope B) [(s2.heap.objs.size,({ cls:=.type "list",data:=.seq (List.toArray its) n }:Obj))] τ H' s'/\tn i s'.heap/\(∀ b∈fp,H' b=none)/\Vals ys its/\ys.length<=sizeLine/\W i k τ ys H') ?_ m0
   ⟨0,_,[],[],_,H1,pinD I3 hD3 fC (λv z=>by cases z),T.keep _ _ _ st2 λb hb o e=>kp b o e,λb hb=>(f2 b hb).1,.nil,xz _,w0⟩
  rintro k s5 ⟨i,τ,ys,its,n,H5,I5,st5,fr5,rv,hz,w5⟩
  rcases turn i k τ ys H5 w5 with ⟨stop,qn⟩ | ⟨go,hlt,step⟩
  ·refine thn (T.done (bU X (bN Nx ts ix) scope B) rfl rfl rfl hc i _ s5 τ H5 _ I5 (stat fr5) st5 stop) λgot s6 hz0=>?_
   obtain ⟨hr,I6⟩:=hz0
   subst hr
   obtain ⟨ho,hn,_,_,_⟩:=I6.pin (s2.heap.objs.size,({ cls:=.type "list",data:=.seq (List.toArray its) n }:Obj)) (wo _ (by simp))
   have I7:Inv X pins σ H5 s6:=I2.call' (ch:=fp) (H':=H5) (by exact I6.os) I6.base I6.hok I6.bare λb hb=>⟨(f2 b hb).2.2.2.1,(f2 b hb).2.1,(f2 b hb).2.2.2.2.1,(f2 b hb).2.2.2.2.2⟩
   have hs0:X.s₀.heap.objs.size<=s2.heap.objs.size:=I2.sz
   have I8:=I7.track hn ho rv hz (xb I2.lt) hs0 (λx c e z=>by
    obtain ⟨v,q⟩:=I2.cell x c e
    exact absurd q.lt (by rw [z]; exact wH _)) (λp hp=>wz (pinIn p hp))
   obtain ⟨m6,hm6,_⟩:=I6.loc
   refine hR _ C _ s6 _ I8 rfl (qn _ _ _ hn rfl rfl) ⟨m6,hm6⟩ ?_ (λz=>?_) (ww hs0 hC) (λx c e z=>?_) λp hp=>wz (wk (pinIn p hp) hC)
   ·rw [bc (Ne.symm hDC)]
    exact I6.free
   ·exact absurd (wk I2.lt hC) (by rw [z]; exact wH _)
   ·obtain ⟨v,q⟩:=I2.cell x c e
    exact absurd (wk q.lt hC) (by rw [z]; exact wH _)
  ·refine thn (T.item (bU X (bN Nx ts ix) scope B) rfl rfl rfl hc i _ s5 τ H5 _ I5 (stat fr5) st5 go) λgot s6 hz0=>?_
   obtain ⟨u,hr,h6⟩:=hz0
   subst hr
   refine thn h6 λ_ s7 hz0=>?_
   obtain ⟨x,H7,I7,r7,y7,st7,fr7⟩:=hz0
   have I7':=I7.pinned (stat fr7) (T.obj _ _ st7)
   refine thn (hg B _ s7 τ H7 x u _ I7' r7 (step x H7 y7)) λ_ s8 hz0=>?_
   obtain ⟨τ8,H8,I8,q8⟩:=hz0
   refine thn (he B _ s8 τ8 H8 _ I8 q8) λy s9 hz0=>?_
   obtain ⟨vy,H9,I9,r9,m',hm',w9⟩:=hz0
   obtain ⟨ho,hn,_,_,_⟩:=I9.pin (s2.heap.objs.size,({ cls:=.type "list",data:=.seq (List.toArray its) n }:Obj)) (wo _ (x8 _ (by simp)))
   have lenv:=rv.length
   refine wpAny_list_append_plain (l:=s2.heap.objs.size) ⟨n,ho⟩ (λh' hpl hsb=>?_) (by rw [wj]; omega)
   obtain ⟨n',ho'⟩:=hpl
   have eobj:(its.toArray.push y)=List.toArray (its++[y]):=by simp
   rw [eobj] at ho'
   have I9':Inv (bU X (bN Nx ts ix) scope B) [] τ8 H9 s9:=I9.pins_of λp hp=>absurd hp (by simp)
   have I10:Inv (bU X (bN Nx ts ix) scope B) [] τ8 H9 { s9 with heap:=h' }:=I9'.turned (it:=s2.heap.objs.size) (t':=s9.toks) (λb o hb e=>(hsb.2 b hb).trans e) hn hDC (.inr (wa _)) cellIn (λp hp=>by
    have hp':p∈(X.pn++pins)++[]:=hp
    rw [wZ] at hp'
    exact wz (pinIn p hp'))
   refine ⟨m',hm',i+1,τ8,ys++[vy],its++[y],n',H9,pinD I10 ho' hn (λv z=>by cases z),?_,λb hb=>?_,rv.append (.cons r9 .nil),by rw [wx]; show ys.length+1<=_; omega,w9⟩
   ·refine T.keep _ _ _ st7 λb hb o e=>?_
    have q:=(I9.pin (b,o) (wo _ (wo _ (iN hb e)))).1
    exact (hsb.2 b (wz (hfs b hb))).trans q
   ·obtain ⟨o,e,d⟩:=T.obj _ _ st7 b hb
    exact (I9.pin (b,o) (wo _ (wo _ (iN hb e)))).2.1
 exact codeAny_compStart_list (loop _ rfl) (T.self X.A 0 _ _ _ (T.keep _ _ _ st2 λb hb o e=>kp b o e) (loop _ rfl))
theorem fG {elt target iter:Expr} {scope:Scope} {pos:Pos} {wi:TI} {g:Blk->TG} {te:Blk->TE} (Nx:Am) (ts:Am) (ix:List Nat)
  (hc:X.calm=true) (hi:PI X target iter wi) (hg:∀ b,PG (bU X (bN Nx ts ix) scope b) target (g b)) (he:∀ b,PE (bU X (bN Nx ts ix) scope b) elt (te b))
  (hNx:X.N=Nx) (ok:BlkOk Nx X.env.scope scope ix) (hs:∀ x,foldedSetIterable iter X.env x=pure x:=by intro _; rfl) :
  PE X (.ListComp elt [⟨target,iter,[],0⟩] scope pos) (lO wi ts.length ix g te):=by
 intro pins s σ H Q I h
 obtain ⟨cl,hcl,cl1,cl2⟩:=qc (scope:=scope) (env:=X.env) λy hy hf=>I.ok.has y.1 (ok.frees y hy hf)
 rw [eval_ListComp]
 refine wpAny_comprehension_free (use:=none) rfl hs hcl ok.kind ok.locs (thn (hi pins s σ H _ I h) λv s1 h1=>thn h1 λitv s2 h2=>?_)
 refine ZdX (R:=λacc C=>compPost (model X.prog X.w) X.A X.xe none (EP X pins σ Q) acc C) hc hg he hNx ok cl1 cl2 h2 ?_
 rintro D C H' s' v I' rfl q ⟨m,hm⟩ hn hL h0 hcl' hp
 exact ⟨m,hm,λh' hsb=>⟨.ref D,H',I'.turned (it:=C) (t':=s'.toks) (λb o hb e=>(hsb.2 b hb).trans e) hn hL (.inr h0) hcl' hp,rfl,q⟩⟩
theorem tw {elt target iter:Expr} {scope:Scope} {pos pos' spos:Pos} {wi:TI} {g:Blk->TG} {te:Blk->TE} {i:Nat} {x:Str} (Nx:Am) (ts:Am) (ix:List Nat)
  (hc:X.calm=true) (hN:X.N.Nodup) (hix:X.N[i]?=some x) (hx:X.env.scope.names.lookup x=some .local) (hi:PI X target iter wi) (hg:∀ b,PG (bU X (bN Nx ts ix) scope b) target (g b)) (he:∀ b,PE (bU X (bN Nx ts ix) scope b) elt (te b))
  (hNx:X.N=Nx) (ok:BlkOk Nx X.env.scope scope ix) (hsw:swapsWith (.ListComp elt [⟨target,iter,[],0⟩] scope pos) (some (.Name x pos')) spos.line X.env=pure true) (hs:∀ x,foldedSetIterable iter X.env x=pure x:=by intro _; rfl) :
  PS X (.Assign [.Name x pos'] (.ListComp elt [⟨target,iter,[],0⟩] scope pos) spos) (fg (lO wi ts.length ix g te) (fq i)):=by
 intro pins s σ H D0 I h
 obtain ⟨cl,hcl,cl1,cl2⟩:=qc (scope:=scope) (env:=X.env) λy hy hf=>I.ok.has y.1 (ok.frees y hy hf)
 rw [exec_Assign_Name_used _ _ _ _ hsw]
 refine wpAny_bind (wpAny_standAt (wpAny_bind ?_))
 show wpAny _ X.A (do let _ <- comprehension (.ListComp elt [⟨target,iter,[],0⟩] scope pos) scope X.env _ (newList []) false (eval iter X.env) (some (assign (.Name x pos') X.env))) _ _ s
 refine wpAny_bind (thn (wpAny_comprehension_free (use:=some (assign (.Name x pos') X.env)) (Q:=λ_ s'=>SP X pins D0 .next s') rfl hs hcl ok.kind ok.locs (thn (hi pins s σ H _ I h) λv s1 h1=>thn h1 λitv s2 h2=>?_)) λ_ s' hq=>wpAny_pure (wpAny_pure hq))
 refine ZdX (R:=λacc C=>compPost (model X.prog X.w) X.A X.xe (some (assign (.Name x pos') X.env)) (λ_ s'=>SP X pins D0 .next s') acc C) (Q:=λx H1=>fq i x σ H1 D0.nx) hc hg he hNx ok cl1 cl2 h2 ?_
 rintro D C H' s' v I' rfl q ⟨m,hm⟩ hn hL h0 hcl' hp
 show wpAny _ X.A (assign (.Name x pos') X.env (.ref D)) _ _ _
 refine wpAny_assign_Name (rK I' hN hix (.inl hx) (show RelV (.ref D) (.ref D) from rfl) (λs'' I'' hch=>?_) (.inr hx))
 obtain ⟨a,hsb,ha⟩:=hch
 have haC:C≠a:=by
  rcases ha with z | z
  ·rw [z]; exact hL
  ·exact λe=>hcl' _ _ z e.symm
 exact ⟨m,hm.sameBut hsb haC,λh'' hs''=>⟨_,H',I''.turned (it:=C) (t':=s''.toks) (λb o hb e=>(hs''.2 b hb).trans e) hn hL (.inr h0) hcl' hp,q⟩⟩
end
mutual
/-- the value bears the datum -/
inductive Dn (H:Hp):V->PyData->Prop
 | non:Dn H .non .none
 | bl (b:Bool):Dn H (.bl b) (.bool b)
 | int (i:Int):Dn H (.int i) (.int i)
 | str (x:Str):Dn H (.str x) (.str x)
 | tup {a:Addr} {xs:An} {ds:Ai}:H a=some (.tup xs)->DnAll H xs ds->Dn H (.ref a) (.tuple ds)
 | lst {a:Addr} {xs:An} {ds:Ai}:H a=some (.lst xs)->DnAll H xs ds->Dn H (.ref a) (.list ds)
 | dct {a:Addr} {ks:List (aO×V)} {ds:Ai}:Rd H a (.dK ks)->DnAll H (ks.map (·.2)) ds->Dn H (.ref a) (.dict ((ks.map λk=>match k.1 with | .inl i=>PyData.int i | .inr x=>PyData.str x).zip ds))
inductive DnAll (H:Hp):List V->List PyData->Prop
 | nil:DnAll H [] []
 | cons {v:V} {vs:An} {d:PyData} {ds:Ai}:Dn H v d->DnAll H vs ds->DnAll H (v::vs) (d::ds)
end
mutual
theorem Dn.mono {H H':Hp} (e:∀ b o,H b=some o->H' b=some o):∀ {v:V} {d:PyData},Dn H v d->Dn H' v d
 | _,_,.non=>.non
 | _,_,.bl b=>.bl b
 | _,_,.int i=>.int i
 | _,_,.str x=>.str x
 | _,_,.tup h r=>.tup (e _ _ h) (DnAll.mono e r)
 | _,_,.lst h r=>.lst (e _ _ h) (DnAll.mono e r)
 | _,_,.dct h r=>.dct (h.imp (e _ _) λ⟨o,h⟩=>⟨o,e _ _ h⟩) (DnAll.mono e r)
theorem DnAll.mono {H H':Hp} (e:∀ b o,H b=some o->H' b=some o):∀ {vs:An} {ds:Ai},DnAll H vs ds->DnAll H' vs ds
 | _,_,.nil=>.nil
 | _,_,.cons r t=>.cons (Dn.mono e r) (DnAll.mono e t)
end
theorem DnAll.ints {H:Hp}:∀ ns:Aj,DnAll H (ns.map V.int) (ns.map PyData.int)
 | []=>.nil
 | n::ns=>.cons (.int n) (DnAll.ints ns)
theorem DnAll.length {H:Hp} {vs:An} {ds:Ai} (h:DnAll H vs ds):vs.length=ds.length:=by
 induction vs generalizing ds with
 | nil=>cases h; rfl
 | cons v vs ih=>cases h with | cons r t=>exact congrArg (·+1) (ih t)
theorem DnAll.append {H:Hp} {vs ws:An} {ds es:Ai} (h:DnAll H vs ds) (s:DnAll H ws es):DnAll H (vs++ws) (ds++es):=by
 induction vs generalizing ds with
 | nil=>cases h; exact s
 | cons v vs ih=>cases h with | cons r t=>exact .cons r (ih t)
mutual
/-- data without dicts -/
theorem Dn.reads {P:Program} {w:World} {H:Hp} {h:Heap} (ok:HOk P w H h):∀ {v:V} {d:PyData} {u:Value},Dn H v d->d.hasDict=false->RelV v u->∃ as,Reads h u d as
 | _,_,_,.non,_,r=>by cases r; exact ⟨_,.none⟩
 | _,_,_,.bl b,_,r=>by cases r; exact ⟨_,.bool b⟩
 | _,_,_,.int i,_,r=>by obtain ⟨t,rfl⟩:=r; exact ⟨_,.int i t⟩
 | _,_,_,.str x,_,r=>by obtain ⟨t,rfl⟩:=r; exact ⟨_,.str x t⟩
 | _,_,_,.tup e rs,hd,r=>by
  cases r
  obtain ⟨z,its,rv,o,h1,h2,n,h3⟩:=ok _ _ e
  obtain ⟨as,q⟩:=DnAll.reads ok rs (by simpa [PyData.hasDict] using hd) rv
  exact ⟨_,.tuple h1 h2 h3 (by simpa using q)⟩
 | _,_,_,.lst e rs,hd,r=>by
  cases r
  obtain ⟨z,its,n,rv,h1⟩:=ok _ _ e
  obtain ⟨as,q⟩:=DnAll.reads ok rs (by simpa [PyData.hasDict] using hd) rv
  exact ⟨_,.list h1 rfl rfl (by simpa using q)⟩
 | _,_,_,.dct e rs,hd,r=>by simp [PyData.hasDict] at hd
theorem DnAll.reads {P:Program} {w:World} {H:Hp} {h:Heap} (ok:HOk P w H h):∀ {vs:An} {ds:Ai} {us:Ak},DnAll H vs ds->PyData.hasDictAll ds=false->Vals vs us->∃ as,ReadsAll h us ds as
 | _,_,_,.nil,_,r=>by cases r; exact ⟨_,.nil⟩
 | _,_,_,.cons p t,hd,r=>by
  cases r with
  | cons r1 r2 =>
   simp only [PyData.hasDictAll,Bool.or_eq_false_iff] at hd
   obtain ⟨as,q⟩:=Dn.reads ok p hd.1 r1
   obtain ⟨bs,q2⟩:=DnAll.reads ok t hd.2 r2
   exact ⟨_,.cons q q2⟩
end
section
variable {X:Cx}
theorem qf {k:Nat} (hr:Room k X.A):dM X (.builtin "repr") (λxs H Q=>∃ v d,xs=[v]/\Dn H v d/\d.hasDict=false/\d.showable=true/\d.depth<=32/\d.shown.length<=sizeLine/\Q (.str d.shown) H):=by
 intro pins s σ H xs us Q I r h
 obtain ⟨v,d,rfl,hd,hn,hs,hdp,hz,q⟩:=h
 obtain ⟨u,rfl,ru⟩:=eJ r
 have hun:=hr.units
 have viaRef:∀ {a:Addr} {as:List Addr},Reads s.heap (.ref a) d as->wpAny (model X.prog X.w) X.A (call (.builtin "repr") [.ref a]) (EP X pins σ Q) X.xe s:=λ{a as} rd =>
  repr_of_reads' rd hs (PyData.noDict_hsm hn) hr.gd (by omega) (λ_ _ e=>e) (λh' u' tk hk=>⟨.str d.shown,H,I.kept hk,⟨_,rfl⟩,q⟩) hz
 obtain ⟨as,rd⟩:=Dn.reads I.hok hd hn ru
 cases rd with
 | none=>exact PySem.P.repr_of_none ⟨.str "None",H,I.tok _,⟨_,rfl⟩,q⟩
 | bool b=>exact PySem.P.repr_of_bool ⟨.str (if b then "True" else "False"),H,I.tok _,⟨_,rfl⟩,q⟩
 | int i t=>exact PySem.P.repr_of_int (by simpa [PyData.showable] using hs) ⟨.str (toString i),H,I.tok _,⟨_,rfl⟩,q⟩
 | str x t=>exact PySem.P.repr_of_str ⟨.str (reprText x),H,I.tok _,⟨_,rfl⟩,q⟩ hz
 | list h1 h2 h3 h4=>exact viaRef (.list h1 h2 h3 h4)
 | tuple h1 h2 h3 h4=>exact viaRef (.tuple h1 h2 h3 h4)
 | dict h1 h2 h3 h4 h5=>simp [PyData.hasDict] at hn
theorem Zl8 {k:Nat} (hr:Room k X.A):OpR X (compareOp .Eq) (λx y H Q=>∃ d e,Dn H x d/\Dn H y e/\SeqAt.shaped d=true/\SeqAt.shaped e=true/\Q (.bl (PyData.eqv d e)) H):=by
 intro pins s σ H x y v u Q I rx ry h
 obtain ⟨d,e,hd,he,sd,se,q⟩:=h
 obtain ⟨as,r1⟩:=Dn.reads I.hok hd (yh _ (yt sd)) rx
 obtain ⟨bs,r2⟩:=Dn.reads I.hok he (yh _ (yt se)) ry
 exact SeqAt.compareEq_shaped r1 r2 sd se hr.units ⟨.bl _,H,I,rfl,q⟩
theorem Zl3 {k:Nat} (hr:Room k X.A):OpR X (compareOp .NotEq) (λx y H Q=>∃ d e,Dn H x d/\Dn H y e/\SeqAt.shaped d=true/\SeqAt.shaped e=true/\Q (.bl (!PyData.eqv d e)) H):=by
 intro pins s σ H x y v u Q I rx ry h
 obtain ⟨d,e,hd,he,sd,se,q⟩:=h
 obtain ⟨as,r1⟩:=Dn.reads I.hok hd (yh _ (yt sd)) rx
 obtain ⟨bs,r2⟩:=Dn.reads I.hok he (yh _ (yt se)) ry
 exact SeqAt.compareNe_shaped r1 r2 sd se hr.units ⟨.bl _,H,I,rfl,q⟩
theorem uY:dM X (.type "range") (λxs H Q=>∃ i j:Int,xs=[.int i,.int j]/\∀ p,H p=none->Q (.ref p) (upd H p (.rng i j))):=by
 intro pins s σ H xs us Q I r h
 obtain ⟨i,j,rfl,q⟩:=h
 cases r with
 | cons r1 rr =>
  cases rr with
  | cons r2 rr =>
   cases rr
   obtain ⟨t,rfl⟩:=r1
   obtain ⟨u,rfl⟩:=r2
   refine call_range_2 ?_
   exact ⟨.ref s.heap.objs.size,_,I.laid (t':=s.toks+1) (λb o e=>v6 _ e) (wa _) (show ObjOk X.prog X.w _ _ _ (.rng i j) from ⟨t,u,s.toks,wc _ rfl⟩),rfl,q _ (I.hok.fresh (wa _))⟩
noncomputable def fV (lo:Int) (n:Nat):An:=(List.range n).map λ(k:Nat)=>V.int (lo+(k:Int))
theorem Zjv (lo:Int):∀ (n:Nat) (l:Ak),l.length=n->(∀ (j:Nat) (v:Value),l[j]?=some v->∃ t,v=Value.int (lo+(j:Int)) t)->Vals (fV lo n) l:=by
 intro n
 unfold fV
 induction n with
 | zero =>
  intro l hl _
  have e:l=[]:=List.length_eq_zero_iff.mp hl
  subst e
  exact .nil
 | succ n ih =>
  intro l hl hl2
  obtain ⟨l',x,rfl⟩:∃ l' x,l=l'++[x]:=⟨l.dropLast,l.getLast (by intro e; rw [e] at hl; cases hl),(List.dropLast_concat_getLast _).symm⟩
  have hl':l'.length=n:=by rw [wx] at hl; simpa using hl
  rw [xS,wT]
  refine Vals.append (ih l' hl' λj v hv=>hl2 j v (by rw [wS (we.mp hv).1]; exact hv)) (.cons ?_ .nil)
  obtain ⟨t,e⟩:=hl2 n x (by rw [wM (by omega),hl',Nat.sub_self]; rfl)
  exact ⟨t,e⟩
end
end L2
set_option Elab.async false
set_option linter.all false
set_option maxRecDepth 100000
namespace L2
structure Def (K:zZ) (mg:Ao) (x:Str) (st:Stmt) (ps:Am):Prop where
 ex:∃ f fd,Fun K x x st f fd/\mg x=some (.ref f)/\Binds K fd ps []
structure Callee (P:Program) (w:World) (K:zZ) (mg:Ao) (base:Heap) (x:Str) (k:Nat) (ps:Am) (sp:Sp):Prop where
 ex:∃ f fd,FnOk P w K mg base iq k f fd ps sp/\mg x=some (.ref f)/\PySem.W.keepIn K (.ref f)=true/\Binds K fd ps []
section
variable {P:Program} {w:World} {K:zZ} {mg:Ao} {base:Heap}
theorem Def.ok {x:Str} {st:Stmt} {N ps:Am} {k:Nat} {sp:Sp} (D:Def K mg x st ps) (S:FnScope N ps (aP st)) (len:∀ vs H Q E,sp vs H Q E->vs.length=ps.length)
  (hbody:∀ (f:Addr) (cdv:Value) (A:Around) (outer:List Env) (s:Shared) (H:Hp) (vs:An) (Q:VK) (E:XK),Room k (A.deeper (envOfC x (aP st) s.heap.objs.size f cdv))->sp vs H Q E ->
   ∃ t,PSs (ie iq P w K mg base N x (aP st) f cdv A outer s H E).nox (gJ st) t/\t { nx:=λ_ H'=>Q .non H',rt:=Q } (start N vs) H):Callee P w K mg base x (k+1) ps sp:=by
 obtain ⟨f,fd,F,hm,hb⟩:=D.ex
 exact ⟨f,fd,F.ok S len λcdv A outer s H vs Q E hr h=>hbody f cdv A outer s H vs Q E hr h,hm,F.kp,hb⟩
theorem Zoz {x:Str} {st:Stmt} {ps:Am} {h:Heap} {f:Addr} {oc:Value} {od an:Option Addr} {osl:Array (Option Value)} {kV doc pm cdv ct:Value} (X:K.In h) (G:h.Ns mainGlobals mg)
  (a:PySem.W.nsIn K mainGlobals x=some (some (.ref f))) (l:K.lookup f=some ⟨oc,od,.func (PySem.W.fnOf x x (lf st) (gJ st) (aP st) .none kV doc pm an cdv ct),osl⟩)
  (c:PySem.W.codeIn K cdv x=true) (k:PySem.W.keepIn K (.ref f)=true)
  (hb:∀ (kV doc pm:Value) (an:Option Addr) (cdv ct:Value) (us:Ak),us.length=ps.length->bindArgs (PySem.W.fnOf x x (lf st) (gJ st) (aP st) .none kV doc pm an cdv ct) ⟨us,[]⟩=pure (ps.zip us)):Def K mg x st ps:=by
 have F:=ZnU (st:=st) l c k
 exact ⟨f,_,F,PySem.W.mg_of X G a,F.binds hb⟩
end
section
variable {X:Cx} {x:Str} {k:Nat} {ps:Am} {sp:Sp} {e:Expr} {es:List Expr} {t:TA} {p pos:Pos}
theorem oE (C:Callee X.prog X.w X.K X.mg X.base x k ps sp) (hr:Room k X.A) (hg:Gl X x) (ha:PA X (e::es) t) (hdb:(x == ("__debug__":Str))=false:=by decide)
  (he:starEach (e::es) X.env=(false,eval e X.env)::starEach es X.env:=by rfl) (hpl:(backTo pos (starEach es X.env)).any (·.1)=false:=by rfl):PE X (.Call (.Name x p) (e::es) [] pos) (Zaz sp [] E0 t):=by
 obtain ⟨f,fd,F,hm,hk,hb⟩:=C.ex
 exact ZlS F hr hg hm hk hb .nil ZlZ ha hdb he hpl
theorem ZlO {i:Int} (hg:Gl X x) (h:∃ t,X.mg x=some (.int i t)) (hd:(x == ("__debug__":Str))=false:=by decide):PE X (.Name x pos) (tC (.int i)):=by
 obtain ⟨t,e⟩:=h
 exact ZlN hg e ⟨t,rfl⟩ hd
end
def Zj2 (t:TS):TS:=λD σ H=>∃ J:St->Hp->Prop,t { D with nx:=J } σ H/\∀ σ' H',J σ' H'->D.nx σ' H'
def Zj1 (t:TT):TT:=λσ H Q=>∃ J:Bool->Hp->Prop,t σ H J/\∀ b H',J b H'->Q b H'
section
variable {X:Cx} {st:Stmt} {e:Expr}
theorem PS.join {t:TS} (h:PS X st t):PS X st (Zj2 t):=by
 rintro pins s σ H D I ⟨J,q,hJ⟩
 refine thn (h pins s σ H _ I q) λf s' z=>?_
 cases f with
 | next=>obtain ⟨σ',H',I',q'⟩:=z; exact ⟨σ',H',I',hJ _ _ q'⟩
 | brk=>exact z
 | cont=>exact z
 | ret u=>exact z
theorem PT.join {t:TT} (h:PT X e t):PT X e (Zj1 t):=by
 rintro pins s σ H Q I ⟨J,q,hJ⟩
 refine thn (h pins s σ H _ I q) λb s' ⟨H',I',q'⟩=>⟨H',I',hJ _ _ q'⟩
end
theorem ne1:¬ ((Sum.inr ("script":Str):aO)=(Sum.inr ("at":Str):aO)):=by trivial
section
variable {H:Hp} {p c:Addr} {a l b:Int}
end
def Kept (p:Addr) (H H':Hp):Prop:=∀ b o,H b=some o->b≠p->H' b=some o
theorem Kept.refl {p:Addr} {H:Hp}:Kept p H H:=λ_ _ h _=>h
theorem Kept.pen {p:Addr} {H H':Hp} {o:HO} (a:Kept p H H'):Kept p H (upd H' p o):=λc u h n=>by
 rw [bc n]
 exact a c u h n
theorem Same.new {q:Addr} {H H':Hp} {o:HO} (a:Same H H') (hq:H' q=none):Same H (upd H' q o):=λc u h=>by
 have e:=a c u h
 rw [bc (de e hq)]
 exact e
theorem j3 (ns:Aj):SeqAt.shaped (.list (ns.map PyData.int))=true:=by
 have h1:PyData.canLayAll0 (ns.map PyData.int)=true:=by
  induction ns with
  | nil=>rfl
  | cons n r ih=>simp [PyData.canLayAll0,PyData.canLay0,ih]
 have h2:PyData.depthAll (ns.map PyData.int)=0:=by
  induction ns with
  | nil=>rfl
  | cons n r ih=>simp [PyData.depthAll,PyData.depth]; exact ih (by
    have:=h1
    simp [PyData.canLayAll0] at this
    exact this.2)
 simp [SeqAt.shaped,PyData.canLay0,PyData.depth,h1,h2]
end L2
set_option Elab.async false
set_option linter.all false
set_option maxRecDepth 100000
namespace L2
section
variable {prog:Program} {w:World} {A:Around} {E:Ah} {s:Shared} {r:Addr} {a b c:Int} {t u v:Tok} {n:Nat}
theorem Zps {Q:List Value->Shared->Prop} (hh:A.handled=none) (hr:IsRange s.heap r a b c t u v) (hs:Builtin.Range.small a b c=true) (hn:Builtin.Range.rangeSize a b c=n) (hl:n<=2 ^ 24)
  (hQ:∀ (h':Heap) (tk:Nat) (acc:Array Value),(∀ b o,s.heap.get? b=some o->h'.get? b=some o)->ItemsOf (λi v=>∃ t,v=.int (a+i * c) t) acc n->Q acc.toList { s with heap:=h',toks:=tk }):wpAny (model prog w) A (collect (.ref r)) Q E s:=by
 unfold collect; apply wpAny_bind; apply wpAny_runValue; refine codeAny_builtin F.entry_proto_collect ?_
 rw [xA F.plain_proto_collect _]
 show wpAny _ A.in1 (newList [] >>= λz=>again (.builtin "list.__iadd__" ⟨[z,.ref r],[]⟩)) _ _ s
 refine wpAny_bind (wpAny_newObj_type (wpAny_pure ⟨plainId_quiet F.plain_list_iadd _,codeAny_builtin F.entry_list_iadd ?_⟩))
 rw [xA F.plain_list_iadd _]
 show wpAny _ A.in1 (Builtin.List.listExtendWith (.ref s.heap.objs.size) (.ref r) (.ref s.heap.objs.size)) _ _ { s with heap:=s.heap.push { cls:=.type "list",data:=.seq ([]:Ak).toArray } }
 let R:Result->Shared->Prop:=λz s'=>match z with
  | .ok (.ret v)=>wpAny (model prog w) A (match v with
   | .ref q=>(do match (<- load q).data with
    | .seq xs _=>pure xs.toList
    | _=>unsupported "internal:collect")
   | _=>unsupported "internal:collect") Q E s'
  | .ok _=>False
  | .error e=>E e s'
 refine wpAny_extend_range (R:=R) (s:={ s with heap:=s.heap.push { cls:=.type "list",data:=.seq ([]:Ak).toArray } }) hh (v6 _ hr) hs hn hl _ _ _ (show (s.heap.push { cls:=.type "list",data:=.seq ([]:Ak).toArray }).get? s.heap.objs.size=some { cls:=.type "list",data:=.seq #[] } from wc _ rfl) λh' tk acc c' hk hS hacc=>?_
 show wpAny _ A (load s.heap.objs.size >>= _) _ _ { s with heap:=h',toks:=tk }
 exact wpAny_bind (wpAny_load hS (wpAny_pure (hQ h' tk acc (λb o e=>hk b o (wz (wq e)) (v6 _ e)) hacc)))
theorem ZjF {Q:Ah} (hh:A.handled=none) (hr:IsRange s.heap r a b c t u v) (hs:Builtin.Range.small a b c=true) (hn:Builtin.Range.rangeSize a b c=n) (hl:n<=2 ^ 24)
  (hQ:∀ (h':Heap) (tk:Nat) (acc:Array Value),(∀ b o,s.heap.get? b=some o->h'.get? b=some o)->ItemsOf (λi v=>∃ t,v=.int (a+i * c) t) acc n->Q (.ref h'.objs.size) { s with heap:=h'.push { cls:=.type "tuple",data:=.seq acc },toks:=tk }) :
  wpAny (model prog w) A (call (.type "tuple") [.ref r]) Q E s:=by
 refine callType_codes (Q₁:=λz s1=>s1.TypeIs z "tuple"/\Q z s1) F.called_tuple (F.typeCall_tuple_1 _) F.entry_object_init ?_ λz s1 h1=>?_
 ·apply codeAny_of_tree
  show wpAny _ A.in1.in1 (do checkBuiltinCall "tuple.__new__" ⟨[.type "tuple",.ref r],[]⟩; again (.builtin "tuple.__new__" ⟨[.type "tuple",.ref r],[]⟩)) _ _ s
  refine wpAny_bind (wpAny_of_eq (F.newCall_tuple_1 _) (wpAny_pure ⟨plainId_quiet F.plain_tuple_new _,codeAny_builtin F.entry_tuple_new ?_⟩))
  rw [xA F.plain_tuple_new _]
  have f1:=sub_tuple_self; have f2:=init_tuple_lookup; have f3:=madeHere_tuple
  have fT:s.TypeIs (.ref r) "range":=⟨_,hr,rfl⟩
  wp_walk using wpAny_typeOf fT,Zps (A:=A.in1.in1) hh hr hs hn hl
  intro h' tk acc hk hacc
  show wpAny _ _ (Builtin.Tuple.tupleExact acc.toList.toArray >>= λz=>ret z) _ _ _
  unfold Builtin.Tuple.tupleExact
  have e:acc.toList.toArray=acc:=by simp
  rw [e]
  refine wpAny_bind (wpAny_newObj_type (wpAny_pure ⟨⟨_,wc _ rfl,rfl⟩,hQ h' tk acc hk hacc⟩) ?_)
  show acc.size<=sizeLine
  rw [hacc.1,sizeLine_eq]
  exact hl
 ·exact ⟨h1.1,zm z _,object_init_meets F.called_tuple.init.lookup F.called_tuple.made (by decide) prog w A.in1 _ s1 ⟨h1.1,rfl,h1.2⟩⟩
end
section
variable {X:Cx}
theorem ZpC (hh:X.A.handled=none):dM X (.type "tuple") (λxs H Q=>∃ a lo hi,xs=[.ref a]/\H a=some (.rng lo hi)/\-(2 ^ 62)<=lo/\lo < 2 ^ 62/\-(2 ^ 62)<=hi/\hi < 2 ^ 62/\(hi - lo).toNat<=1000/\∀ p,H p=none->Q (.ref p) (upd H p (.tup (fV lo (hi - lo).toNat)))):=by
 intro pins s σ H xs us Q I r h
 obtain ⟨a,lo,hi,rfl,ha,b1,b2,b3,b4,hn,q⟩:=h
 obtain ⟨u,rfl,ru⟩:=eJ r
 cases ru
 obtain ⟨t,u,v,e⟩:=I.hok a _ ha
 have hsz:Builtin.Range.rangeSize lo hi 1=(((hi - lo).toNat:Nat):Int):=by rw [rangeSize_one]; split <;> omega
 refine ZjF hh (r:=a) (t:=t) (u:=u) (v:=v) e (small_one b1 b2 b3 b4) hsz (by omega) λh' tk acc hk hacc=>?_
 have I1:Inv X pins σ H { s with heap:=h',toks:=tk }:=I.kept hk
 have hv:Vals (fV lo (hi - lo).toNat) acc.toList:=Zjv lo _ _ (by simpa using hacc.1) λj v hv=>by
  obtain ⟨t,e⟩:=hacc.2 j v (by simpa using hv)
  exact ⟨t,by rw [e,yK]⟩
 have hz:(fV lo (hi - lo).toNat).length<=sizeLine:=by
  unfold fV
  rw [v7,wI]
  exact ww hn (by decide)
 refine ⟨.ref h'.objs.size,_,I1.laid (h':=h'.push { cls:=.type "tuple",data:=.seq acc }) (t':=tk) (λb o e=>v6 _ e) (wa _) (show ObjOk X.prog X.w _ _ _ (.tup (fV lo (hi - lo).toNat)) from ⟨hz,acc.toList,hv,⟨_,wc _ rfl,rfl,0,by simp⟩⟩),rfl,q _ (I1.hok.fresh (wa _))⟩
theorem tR:fillsNumberSlot (.type "tuple") "mul"=pure false :=
 PySem.fillsNumberSlot_seq (id:="tuple.__mul__") (r:=some (.builtin "tuple.__rmul__")) PySem.F.slot_tuple_mul.lookup (by trivial) PySem.F.slot_tuple_rmul.lookup (by trivial)
theorem sS:seqRepeat? (.type "tuple")=pure (some (.builtin "tuple.__mul__")):=by
 unfold seqRepeat?
 rw [PySem.seqSlot_of (T:="tuple") (name:="__mul__") (id:="tuple.__mul__") PySem.F.slot_tuple_mul.lookup (by trivial),PySem.seqSlot_of (T:="tuple") (name:="__rmul__") (id:="tuple.__rmul__") PySem.F.slot_tuple_rmul.lookup (by trivial)]; rfl
theorem sP (x:Int) (t:Tok) (l:Addr) (items:Array Value) (n:Nat) (dd:Option Addr) (sl:Array (Option Value)) :
  Meets (Builtin.«int.__rmul__» ⟨[.int x t,.ref l],[]⟩) (λ_ R s=>s.heap.get? l=some { cls:=.type "tuple",dict:=dd,data:=.seq items n,slots:=sl }/\R (.ok (.ret Value.notImplemented)) s):=by
 refine .of_wp λprog w A R s h=>?_
 obtain ⟨hp,g,d,tk,os⟩:=s
 obtain ⟨hl,h⟩:=h
 wp_walk
 exact ⟨_,rfl,h⟩
theorem ZmC (x:Int) (t:Tok) (l:Addr) (items:Array Value) (n:Nat) (dd:Option Addr) (sl:Array (Option Value)) (h1:1 < x) (h2:x<=1000) (h3:items.isEmpty=false) (h4:items.size<=1000) :
  Meets (Builtin.«tuple.__mul__» ⟨[.ref l,.int x t],[]⟩) (λ_ R s=>s.heap.get? l=some { cls:=.type "tuple",dict:=dd,data:=.seq items n,slots:=sl } /\
   R (.ok (.ret (.ref s.heap.objs.size))) { s with heap:=s.heap.push { cls:=.type "tuple",data:=.seq ((List.replicate x.toNat items).foldl (·++·) #[]) } }):=by
 refine .of_wp λprog w A R s h=>?_
 obtain ⟨hp,g,d,tk,os⟩:=s
 obtain ⟨hl,h⟩:=h
 have hp0:0<=(items.size:Int) * x:=wW (by omega) (by omega)
 have hp1:(items.size:Int) * x<=1000 * 1000:=yk (by omega) h2 (by omega) (by omega)
 have hne:items.size≠0:=λe=>by simp [Array.isEmpty,e] at h3
 wp_walk
 refine wpAny_ite_split (λz=>absurd z (by simp; omega)) (λ_=>?_)
 refine wpAny_bind ?_
 unfold Builtin.Tuple.tupleItemsOf
 refine wpAny_bind (wpAny_seqItems hl rfl (wpAny_pure ?_))
 refine wpAny_ite_split (λz=>absurd z (by rw [h3]; simp; omega)) (λ_=>?_)
 refine wpAny_ite_split (λz=>absurd z (by rw [h3]; simp; omega)) (λ_=>?_)
 refine wpAny_ite_split (λz=>absurd z (by omega)) (λ_=>?_)
 refine wpAny_ite_split (λz=>absurd z (by unfold Builtin.Tuple.tupleTooMany; rw [sizeLine_eq]; simp; omega)) (λ_=>?_)
 unfold Builtin.Tuple.tupleExact
 have hlen:∀ k:Nat,((List.replicate k items).foldl (·++·) #[]).size=k * items.size:=λk=>by
  have key:∀ (k:Nat) (acc:Array Value),((List.replicate k items).foldl (·++·) acc).size=acc.size+k * items.size:=by
   intro k
   induction k with
   | zero=>intro acc; simp
   | succ k ih =>
    intro acc
    rw [wF,zw,ih,Array.size_append,yb]
    omega
  simpa using key k #[]
 refine wpAny_bind (wpAny_newObj_type (wpAny_pure ⟨_,rfl,h⟩) ?_)
 show ((List.replicate x.toNat items).foldl (·++·) #[]).size<=sizeLine
 rw [hlen,sizeLine_eq]
 have hx:x.toNat<=1000:=by omega
 exact ww (zJ hx h4) (by decide)
noncomputable def sW (K:zZ):R2:=λx y H Q=>∃ a k xs,x=.ref a/\y=.int k/\SqT K H a xs/\1 < k/\k<=1000/\xs≠[]/\xs.length<=1000/\∀ p,H p=none->Q (.ref p) (upd H p (.tup (List.replicate k.toNat xs).flatten))
theorem Zar {xs:An} {us:Ak} (r:Vals xs us):∀ k:Nat,Vals (List.replicate k xs).flatten (List.replicate k us).flatten
 | 0=>.nil
 | k+1=>by
  rw [wF,wF,w6,w6]
  exact r.append (Zar r k)
theorem ZcS:OpR X (binaryOp .Mult) (sW X.K):=by
 intro pins s σ H x y v u Q I rx ry h
 obtain ⟨a,k,xs,rfl,rfl,hq,h1,h2,hne,hl,q⟩:=h
 cases rx
 obtain ⟨t,rfl⟩:=ry
 obtain ⟨its,rv,p,hz⟩:=I.tuple hq
 obtain ⟨o,ho,hc,n,hd⟩:=p
 obtain ⟨oc,od,odd,osl⟩:=o
 have hc':oc=.type "tuple":=hc
 have hd':odd=.seq its.toArray n:=hd
 subst hc' hd'
 have hlen:=rv.length
 have hemp:its.toArray.isEmpty=false:=by
  cases its with
  | nil=>cases rv; exact absurd rfl hne
  | cons i r=>rfl
 have efl:(List.replicate k.toNat its.toArray).foldl (·++·) #[]=(List.replicate k.toNat its).flatten.toArray:=by
  have key:∀ (k:Nat) (acc:Array Value),(List.replicate k its.toArray).foldl (·++·) acc=acc++(List.replicate k its).flatten.toArray:=by
   intro k
   induction k with
   | zero=>intro acc; simp
   | succ k ih =>
    intro acc
    rw [wF,zw,ih,wF,w6]
    simp
  simpa using key k.toNat #[]
 refine wpAny_binaryOp_repeat_ref (T:="tuple") (U:="int") (by decide) ⟨_,ho,rfl⟩ (λs'=>typeIs_int s' k t) tR yT xD sS PySem.F.slot_int_index.lookup ?_
 refine call_meets xD (typeIs_int s k t) yR (yI _ _) (sP k t a its.toArray n od osl) ⟨ho,rfl,⟨_,ho,rfl⟩,?_⟩
 refine call_meets yP ⟨_,ho,rfl⟩ yG (yB _ _) (ZmC k t a its.toArray n od osl h1 h2 hemp (by rw [wj]; omega)) ⟨ho,?_⟩
 rw [efl]
 have hzz:(List.replicate k.toNat xs).flatten.length<=sizeLine:=by
  have hx:k.toNat<=1000:=by omega
  have e:(List.replicate k.toNat xs).flatten.length=k.toNat * xs.length:=by simp
  rw [e,sizeLine_eq]
  exact ww (zJ hx hl) (by decide)
 exact ⟨.ref s.heap.objs.size,_,I.laid (t':=s.toks) (λb o e=>v6 _ e) (wa _) (show ObjOk X.prog X.w _ _ _ (.tup (List.replicate k.toNat xs).flatten) from ⟨hzz,_,Zar rv k.toNat,IsTup.new _ _⟩),rfl,q _ (I.hok.fresh (wa _))⟩
end
end L2
set_option Elab.async false
set_option linter.all false
set_option maxRecDepth 100000
namespace L2
theorem ZdG {n:Nat} (h:n < 2 ^ 1900):n.log2 < 1900:=by
 by_cases h0:n=0
 ·rw [h0]; decide
 ·exact (Nat.log2_lt h0).mpr h
theorem Zks {i:Int} (h:i.natAbs < 2 ^ 1900):(PyData.int i).shown.length<=1901:=by
 have e:=int_text_length_le (k:=1900) (by decide) (ZdG h)
 have q:(Str.ofString (toString i)).length<=1901:=by rw [PySem.ofString_length]; exact e
 simpa [PyData.shown] using q
theorem Za8:∀ (ns:Aj),(∀ n∈ns,n.natAbs < 2 ^ 1900)->((PyData.shownAll (ns.map PyData.int)).map (·.length)).sum<=ns.length * 1901/\(PyData.shownAll (ns.map PyData.int)).length=ns.length
 | [],_=>⟨by simp [PyData.shownAll],rfl⟩
 | n::r,h=>by
  obtain ⟨h1,h2⟩:=Za8 r λx hx=>h x (v8 _ hx)
  have h3:=Zks (h n w8)
  rw [wf,PyData.shownAll,wf,xu,wl,wl,h2,yb]
  exact ⟨by omega,rfl⟩
theorem Za9:∀ (ns:Aj),(∀ n∈ns,n.natAbs < 2 ^ 1900)->PyData.showableAll (ns.map PyData.int)=true
 | [],_=>rfl
 | n::r,h=>by
  rw [wf,PyData.showableAll,Za9 r λx hx=>h x (v8 _ hx),zi]
  have q:=ZdG (h n w8)
  simp only [PyData.showable,decide_eq_true_eq]
  omega
noncomputable def ak (lo:Int) (n:Nat):Aj:=(List.range n).map λ(k:Nat)=>lo+(k:Int)
theorem Zlb (lo:Int) (n:Nat):fV lo n=(ak lo n).map V.int:=by
 unfold fV ak
 rw [wu]
 rfl
theorem dU (lo:Int) (n:Nat):(ak lo n).length=n:=by
 unfold ak
 rw [v7,wI]
theorem fj {lo x:Int} {n:Nat} (h:x∈ak lo n):lo<=x/\x < lo+n:=by
 unfold ak at h
 obtain ⟨k,hk,rfl⟩:=wL.mp h
 have:=wQ.mp hk
 omega
end L2
set_option Elab.async false
set_option linter.all false
set_option maxRecDepth 100000
namespace L2
def CMulG (i j:Int):Prop:=i.natAbs < 2 ^ 8000/\j.natAbs < 2 ^ 8000
def Zjh (i j:Int):Prop:=j≠0/\j.natAbs < 2 ^ 8000
theorem ZiI {x:Int} (h:x.natAbs < 2 ^ 8000):Builtin.Int.intBits x<=8000:=by
 unfold Builtin.Int.intBits
 split
 ·exact xz _
 ·rename_i hx
  have h0:x.natAbs≠0:=by
   intro z
   have e:x=0:=Int.natAbs_eq_zero.mp z
   rw [e] at hx
   exact hx rfl
  exact (Nat.log2_lt h0).mpr h
theorem CMulG.ok {i j:Int} (h:CMulG i j):IntMulOk i j:=by
 have h1:=ZiI h.1
 have h2:=ZiI h.2
 unfold IntMulOk
 have e:Builtin.Int.intTooBig ((Builtin.Int.intBits i+Builtin.Int.intBits j:Nat):Int)=false:=by
  unfold Builtin.Int.intTooBig
  refine decide_eq_false ?_
  have hb:((16000:Nat):Int)<=(bitsLine:Int):=by decide
  omega
 intro z
 rw [wD] at z
 have z2:Builtin.Int.intTooBig ((Builtin.Int.intBits i+Builtin.Int.intBits j:Nat):Int)=true:=z.2
 rw [e] at z2
 cases z2
section
variable {X:Cx}
theorem Zl5:OpR X (binaryOp .Mult) (rI CMulG λi j=>.int (i * j)):=iH λ_ _ _ _ _ _ _ hc q=>mul_int q hc.ok
theorem iF:OpR X (binaryOp .FloorDiv) (rI Zjh λi j=>.int (i.fdiv j)):=iH λi j _ _ _ _ _ hc q=>by
 refine floordiv_int hc.1 q (.inl (PyProof.noPylong_of_log2 ?_))
 by_cases h0:j.natAbs=0
 ·exact absurd (Int.natAbs_eq_zero.mp h0) hc.1
 ·exact Nat.lt_trans ((Nat.log2_lt h0).mpr hc.2) (by decide)
theorem Zl6:OpR X (compareOp .IsNot) (λx y H Q=>∃ a b,x=.bl a/\y=.bl b/\Q (.bl (!(a == b))) H):=by
 intro pins s σ H x y v u Q I rx ry h
 obtain ⟨a,b,rfl,rfl,q⟩:=h
 cases rx
 cases ry
 refine wpAny_isNot_plain rfl ⟨.bl (!(a == b)),H,I,?_,q⟩
 cases a <;> cases b <;> rfl
theorem lh:dM X (.builtin "isinstance") (λxs H Q=>∃ x T t b,xs=[x,.ty T]/\TyOf X.K H x t/\PySem.W.kitOne X.K t (.type T)=some b/\Q (.bl b) H):=by
 intro pins s σ H xs us Q I r h
 obtain ⟨x,T,t,b,rfl,ty,e,q⟩:=h
 obtain ⟨u,c,rfl,ru,rc⟩:=nP r
 cases rc
 exact Znu I ru ty e λtk=>⟨.bl b,H,I.tok tk,rfl,q⟩
end
end L2
set_option Elab.async false
set_option linter.all false
set_option maxRecDepth 100000
namespace Gc
noncomputable def iV (a b:Int):Int:=((Nat.gcd a.natAbs b.natAbs:Nat):Int)
noncomputable def den (t b:Int):Int:=if b < 0 then -iV t b else iV t b
noncomputable def cm (t b:Int):Int:=t.fdiv (den t b)
noncomputable def b9 (t b:Int):Int:=b.fdiv (den t b)
theorem uA {t b:Int} (h:b≠0):0 < Nat.gcd t.natAbs b.natAbs:=zP _ (by omega)
theorem mX {t b:Int} (h:b≠0):den t b≠0:=by
 have:=uA (t:=t) h
 unfold den iV
 split <;> omega
theorem uS (t b:Int):(den t b).natAbs=Nat.gcd t.natAbs b.natAbs:=by
 unfold den iV
 split <;> omega
theorem mK {t b:Int} (h:b≠0):t=den t b * cm t b/\b=den t b * b9 t b/\0 < b9 t b/\Nat.gcd (cm t b).natAbs (b9 t b).natAbs=1:=by
 have hd:=mX (t:=t) h
 have ha:=uS t b
 have hg:=uA (t:=t) h
 have d1:den t b ∣ t:=Int.natAbs_dvd_natAbs.mp (by rw [ha]; exact Nat.gcd_dvd_left _ _)
 have d2:den t b ∣ b:=Int.natAbs_dvd_natAbs.mp (by rw [ha]; exact Nat.gcd_dvd_right _ _)
 obtain ⟨x,hx⟩:=d1
 obtain ⟨y,hy⟩:=d2
 have e1:cm t b=x:=by
  show t.fdiv (den t b)=x
  generalize den t b=d at hd hx
  rw [hx]
  exact zT _ hd
 have e2:b9 t b=y:=by
  show b.fdiv (den t b)=y
  generalize den t b=d at hd hy
  rw [hy]
  exact zT _ hd
 rw [e1,e2]
 refine ⟨hx,hy,?_,?_⟩
 ·have hb:(0 < b/\0 < den t b)\/(b < 0/\den t b < 0):=by
   unfold den iV
   split <;> omega
  rcases hb with ⟨p,q⟩ | ⟨p,q⟩
  ·rcases (show 0 < y\/y<=0 by omega) with z | z
   ·exact z
   ·exfalso
    have:=wW (wy q) (show 0<=-y by omega)
    rw [Int.mul_neg,<- hy] at this
    omega
  ·rcases (show 0 < y\/y<=0 by omega) with z | z
   ·exact z
   ·exfalso
    have:=wW (show 0<=-den t b by omega) (show 0<=-y by omega)
    rw [Int.neg_mul_neg,<- hy] at this
    omega
 ·have h1:t.natAbs=Nat.gcd t.natAbs b.natAbs * x.natAbs:=by
   have:=congrArg Int.natAbs hx
   rw [xG,ha] at this
   exact this
  have h2:b.natAbs=Nat.gcd t.natAbs b.natAbs * y.natAbs:=by
   have:=congrArg Int.natAbs hy
   rw [xG,ha] at this
   exact this
  have h3:Nat.gcd t.natAbs b.natAbs=Nat.gcd t.natAbs b.natAbs * Nat.gcd x.natAbs y.natAbs:=by
   rw [<- Nat.gcd_mul_left,<- h1,<- h2]
  have h4:Nat.gcd t.natAbs b.natAbs * 1=Nat.gcd t.natAbs b.natAbs * Nat.gcd x.natAbs y.natAbs:=by rw [Nat.mul_one]; exact h3
  exact (Nat.eq_of_mul_eq_mul_left hg h4).symm
theorem ZmY {t b:Int} (h:b≠0):(cm t b).natAbs<=t.natAbs/\(b9 t b).natAbs<=b.natAbs:=by
 obtain ⟨h1,h2,_,_⟩:=mK (t:=t) h
 have hg:=uA (t:=t) h
 have ha:=uS t b
 constructor
 ·have e:=congrArg Int.natAbs h1
  rw [xG,ha] at e
  rw [e]
  exact Nat.le_mul_of_pos_left _ hg
 ·have e:=congrArg Int.natAbs h2
  rw [xG,ha] at e
  rw [e]
  exact Nat.le_mul_of_pos_left _ hg
theorem ZmX {t b u c:Int} (hb:0 < b) (hc:0 < c) (g1:Nat.gcd t.natAbs b.natAbs=1) (g2:Nat.gcd u.natAbs c.natAbs=1) (h:t * c=u * b):t=u/\b=c:=by
 have k1:b.natAbs ∣ c.natAbs:=by
  have d:b.natAbs ∣ t.natAbs * c.natAbs:=⟨u.natAbs,by rw [<- xG,h,xG,Nat.mul_comm]⟩
  exact zl (show Nat.Coprime b.natAbs t.natAbs by unfold Nat.Coprime; rw [yV]; exact g1) d
 have k2:c.natAbs ∣ b.natAbs:=by
  have d:c.natAbs ∣ u.natAbs * b.natAbs:=⟨t.natAbs,by rw [<- xG,<- h,xG,Nat.mul_comm]⟩
  exact zl (show Nat.Coprime c.natAbs u.natAbs by unfold Nat.Coprime; rw [yV]; exact g2) d
 have e:b=c:=by
  have:=Nat.dvd_antisymm k1 k2
  omega
 subst e
 exact ⟨xf (by omega) h,rfl⟩
end Gc
set_option Elab.async false
set_option linter.all false
set_option maxRecDepth 100000
namespace L2
end L2
set_option Elab.async false
set_option linter.all false
set_option maxRecDepth 100000
namespace L2
end L2
set_option Elab.async false
set_option linter.all false
set_option maxRecDepth 100000
namespace L2
inductive Tr (α:Type) where
 | ret (a:α)
 | draw (n:Int) (k:Int->Tr α)
 | fail
namespace Tr
variable {α β γ:Type}
noncomputable def bind:Tr α->(α->Tr β)->Tr β
 | .ret a,f=>f a
 | .draw n k,f=>.draw n λr=>(k r).bind f
 | .fail,_=>.fail
@[simp] theorem ret_bind (a:α) (f:α->Tr β):(Tr.ret a).bind f=f a:=rfl
@[simp] theorem draw_bind (n:Int) (k:Int->Tr α) (f:α->Tr β):(Tr.draw n k).bind f=.draw n λr=>(k r).bind f:=rfl
@[simp] theorem fail_bind (f:α->Tr β):(Tr.fail:Tr α).bind f=.fail:=rfl
@[simp] theorem bind_assoc:∀ (t:Tr α) (f:α->Tr β) (g:β->Tr γ),(t.bind f).bind g=t.bind λa=>(f a).bind g
 | .ret a,f,g=>rfl
 | .draw n k,f,g=>by simp only [draw_bind]; congr 1; funext r; exact bind_assoc (k r) f g
 | .fail,f,g=>rfl
noncomputable def of:Option α->Tr α
 | some a=>.ret a
 | none=>.fail
@[simp] theorem of_some (a:α):Tr.of (some a)=.ret a:=rfl
@[simp] theorem of_none:Tr.of (none:Option α)=.fail:=rfl
noncomputable def ok:Tr α->Nat->(Nat->α->Prop)->Prop
 | .ret a,m,Q=>Q m a
 | .draw n k,m,Q=>m < 400000/\0 < n/\n < 1073741824/\∀ r,0<=r->r < n->(k r).ok (m+1) Q
 | .fail,_,_=>False
theorem ok_mono:∀ {t:Tr α} {m:Nat} {Q Q':Nat->α->Prop},t.ok m Q->(∀ m a,Q m a->Q' m a)->t.ok m Q'
 | .ret a,m,_,_,h,hq=>hq m a h
 | .draw n k,m,_,_,⟨h1,h2,h3,h⟩,hq=>⟨h1,h2,h3,λr h0 h1=>ok_mono (h r h0 h1) hq⟩
theorem ok_bind:∀ {t:Tr α} {f:α->Tr β} {m:Nat} {Q:Nat->β->Prop},(t.bind f).ok m Q ↔ t.ok m λm' a=>(f a).ok m' Q
 | .ret a,f,m,Q=>Iff.rfl
 | .draw n k,f,m,Q=>by
  show (_/\_/\_/\∀ r,_) ↔ (_/\_/\_/\∀ r,_)
  refine and_congr_right λ_=>and_congr_right λ_=>and_congr_right λ_=>forall_congr' λr=>forall_congr' λ_=>forall_congr' λ_=>ok_bind
 | .fail,f,m,Q=>Iff.rfl
theorem ok_of {o:Option α} {m:Nat} {Q:Nat->α->Prop} (h:(Tr.of o).ok m Q):∃ a,o=some a/\Q m a:=by
 cases o with
 | none=>exact h.elim
 | some a=>exact ⟨a,rfl,h⟩
noncomputable def all:Tr α->Nat->(α->Prop)->Prop
 | .ret a,_,P=>P a
 | .draw w k,n+1,P=>0 < w/\w < 1073741824/\∀ r,0<=r->r < w->(k r).all n P
 | .draw _ _,0,_=>False
 | .fail,_,_=>False
theorem all_ok:∀ {t:Tr α} {n m:Nat} {P:α->Prop},t.all n P->m+n<=400000->t.ok m λm' a=>m'<=m+n/\P a
 | .ret a,n,m,P,h,hm=>⟨by omega,h⟩
 | .draw w k,n+1,m,P,⟨h1,h2,h⟩,hm=>⟨by omega,h1,h2,λr a b=>ok_mono (all_ok (h r a b) (by omega)) λm' x hz0=>by
  obtain ⟨p,q⟩:=hz0
  exact ⟨by omega,q⟩⟩
theorem all_mono:∀ {t:Tr α} {n n':Nat} {P P':α->Prop},t.all n P->n<=n'->(∀ a,P a->P' a)->t.all n' P'
 | .ret a,n,n',P,P',h,hn,hp=>hp a h
 | .draw w k,n+1,n'+1,P,P',⟨h1,h2,h⟩,hn,hp=>⟨h1,h2,λr a b=>all_mono (h r a b) (by omega) hp⟩
 | .draw w k,n+1,0,P,P',h,hn,hp=>by omega
theorem all_bind:∀ {t:Tr α} {f:α->Tr β} {n n':Nat} {P:α->Prop} {P':β->Prop},t.all n P->(∀ a,P a->(f a).all n' P')->(t.bind f).all (n+n') P'
 | .ret a,f,n,n',P,P',h,hf=>all_mono (hf a h) (by omega) λ_ x=>x
 | .draw w k,f,n+1,n',P,P',⟨h1,h2,h⟩,hf=>by
  have e:n+1+n'=(n+n')+1:=by omega
  rw [e]
  exact ⟨h1,h2,λr a b=>all_bind (h r a b) hf⟩
end Tr
abbrev Sub (G H:Hp):Prop:=∀ b o,G b=some o->H b=some o
structure Pk where
 is:HO->Hp->Nat->Prop
 mono:∀ {o:HO} {G G':Hp} {m:Nat},Sub G G'->is o G m->is o G' m
structure Wd (PK:Pk) (pa:Addr) (m:Nat) (G H:Hp):Prop where
 sub:Sub G H
 gpa:G pa=none
 pen:∃ o,H pa=some o/\PK.is o G m
structure Stp (pa:Addr) (G H G' H':Hp):Prop where
 gs:Sub G G'
 gn:∀ b o,G' b=some o->G b=some o\/H b=none
 hk:∀ b o,H b=some o->b≠pa->H' b=some o
theorem Stp.refl {pa:Addr} {G H:Hp}:Stp pa G H G H:=⟨λ_ _ h=>h,λ_ _ h=>.inl h,λ_ _ h _=>h⟩
theorem Stp.trans {pa:Addr} {G H G1 H1 G2 H2:Hp} (a:Stp pa G H G1 H1) (b:Stp pa G1 H1 G2 H2) (hp:∃ o,H1 pa=some o):Stp pa G H G2 H2:=by
 refine ⟨λc o h=>b.gs c o (a.gs c o h),λc o h=>?_,λc o h n=>b.hk c o (a.hk c o h n) n⟩
 rcases b.gn c o h with z | z
 ·exact a.gn c o z
 ·refine .inr ?_
  cases e:H c with
  | none=>rfl
  | some u =>
   by_cases hc:c=pa
   ·subst hc
    obtain ⟨o',z'⟩:=hp
    rw [z'] at z; cases z
   ·rw [a.hk c u e hc] at z; cases z
section
variable {PK:Pk} {pa:Addr} {m:Nat} {G H:Hp}
theorem Wd.some (w:Wd PK pa m G H):∃ o,H pa=some o:=let ⟨o,h,_⟩:=w.pen; ⟨o,h⟩
theorem Wd.ne (w:Wd PK pa m G H) {p:Addr} (hp:H p=none):pa≠p:=λe=>by
 obtain ⟨o,h⟩:=w.some
 rw [e,hp] at h; cases h
theorem Sub.new {p:Addr} {o:HO} (hp:G p=none):Sub G (upd G p o):=λb u h=>by rw [bc (de h hp)]; exact h
theorem Wd.gnone (w:Wd PK pa m G H) {p:Addr} (hp:H p=none):G p=none:=by
 cases e:G p with
 | none=>rfl
 | some o=>rw [w.sub p o e] at hp; cases hp
theorem Sub.upd2 {p:Addr} {o:HO} (s:Sub G H):Sub (upd G p o) (upd H p o):=λb u h=>by
 by_cases e:b=p
 ·subst e; rw [cA] at h ⊢; exact h
 ·rw [bc e] at h ⊢; exact s b u h
theorem Wd.new (w:Wd PK pa m G H) {p:Addr} {o:HO} (hp:H p=none):Wd PK pa m (upd G p o) (upd H p o)/\Stp pa G H (upd G p o) (upd H p o):=by
 have hg:=w.gnone hp
 have hne:=w.ne hp
 refine ⟨⟨w.sub.upd2,by rw [bc hne]; exact w.gpa,?_⟩,⟨Sub.new hg,λb u h=>?_,λb u h _=>by rw [bc (de h hp)]; exact h⟩⟩
 ·obtain ⟨u,h,q⟩:=w.pen
  exact ⟨u,by rw [bc hne]; exact h,PK.mono (Sub.new hg) q⟩
 ·by_cases e:b=p
  ·subst e; exact .inr hp
  ·rw [bc e] at h; exact .inl h
theorem Wd.own (w:Wd PK pa m G H) {p:Addr} {o:HO} (hp:H p=none):Wd PK pa m G (upd H p o)/\Stp pa G H G (upd H p o):=by
 have hne:=w.ne hp
 refine ⟨⟨λb u h=>by rw [bc (de (w.sub b u h) hp)]; exact w.sub b u h,w.gpa,?_⟩,⟨λ_ _ h=>h,λ_ _ h=>.inl h,λb u h _=>by rw [bc (de h hp)]; exact h⟩⟩
 obtain ⟨u,h,q⟩:=w.pen
 exact ⟨u,by rw [bc hne]; exact h,q⟩
theorem Wd.freeze (w:Wd PK pa m G H) {p:Addr} {o:HO} (hp:H p=Option.some o) (hg:G p=none) (hne:pa≠p):Wd PK pa m (upd G p o) H:=by
 refine ⟨λb u h=>?_,by rw [bc hne]; exact w.gpa,?_⟩
 ·by_cases e:b=p
  ·subst e; rw [cA] at h; rw [hp]; exact h
  ·rw [bc e] at h; exact w.sub b u h
 ·obtain ⟨u,h,q⟩:=w.pen
  exact ⟨u,h,PK.mono (Sub.new hg) q⟩
def Kn (PK:Pk) (pa:Addr) (m:Nat) (G H:Hp) (x:PyData) (Q:VK):Prop:=∀ v G' H',Stp pa G H G' H'->Wd PK pa m G' H'->Dn G' v x->Q v H'
variable {x:PyData} {Q:VK} {v:V} {vs:An} {ds:Ai} {p:Addr}
theorem Kn.here (k:Kn PK pa m G H x Q) (w:Wd PK pa m G H) (d:Dn G v x):Q v H:=k v G H .refl w d
theorem Kn.tup (k:Kn PK pa m G H (.tuple ds) Q) (w:Wd PK pa m G H) (d:DnAll G vs ds) (hp:H p=none):Q (.ref p) (upd H p (.tup vs)):=by
 obtain ⟨w1,s1⟩:=w.new (o:=.tup vs) hp
 exact k _ _ _ s1 w1 (.tup cA (DnAll.mono s1.gs d))
theorem Kn.lst (k:Kn PK pa m G H (.list ds) Q) (w:Wd PK pa m G H) (d:DnAll G vs ds) (hp:H p=none):Q (.ref p) (upd H p (.lst vs)):=by
 obtain ⟨w1,s1⟩:=w.new (o:=.lst vs) hp
 exact k _ _ _ s1 w1 (.lst cA (DnAll.mono s1.gs d))
theorem Kn.later {G1 H1:Hp} (k:Kn PK pa m G H x Q) (s:Stp pa G H G1 H1) (hp:∃ o,H1 pa=Option.some o):Kn PK pa m G1 H1 x Q:=λv G' H' s' w d=>k v G' H' (s.trans s' hp) w d
end
inductive Sl where
 | un | d (x:PyData) | own (xs:Ai) | pen | dic (kvs:List (Int×PyData))
inductive KD (G:Hp):List (aO×V)->List (Int×PyData)->Prop
 | nil:KD G [] []
 | cons {i:Int} {v:V} {d:PyData} {ks:List (aO×V)} {kvs:List (Int×PyData)}:Dn G v d->KD G ks kvs->KD G ((.inl i,v)::ks) ((i,d)::kvs)
theorem KD.mono {G G':Hp} (s:Sub G G') {ks:List (aO×V)} {kvs:List (Int×PyData)} (h:KD G ks kvs):KD G' ks kvs:=by
 induction h with
 | nil=>exact .nil
 | cons h _ ih=>exact .cons (h.mono s) ih
inductive SlOk (pa:Addr) (H₀ G H:Hp):Option V->Sl->Prop
 | un {o:Option V}:SlOk pa H₀ G H o .un
 | d {v:V} {x:PyData}:Dn G v x->SlOk pa H₀ G H (some v) (.d x)
 | own {p:Addr} {vs:An} {xs:Ai}:H p=some (.lst vs)->G p=none->H₀ p=none->DnAll G vs xs->SlOk pa H₀ G H (some (.ref p)) (.own xs)
 | pen:SlOk pa H₀ G H (some (.ref pa)) .pen
 | dic {p:Addr} {ks:List (aO×V)} {kvs:List (Int×PyData)}:H p=some (.dK ks)->G p=none->H₀ p=none->KD G ks kvs->SlOk pa H₀ G H (some (.ref p)) (.dic kvs)
structure Rl (PK:Pk) (pa:Addr) (Aq H₀:Hp) (m:Nat) (σ:St) (ρ:List Sl) (G H:Hp):Prop where
 wd:Wd PK pa m G H
 st:Stp pa Aq H₀ G H
 p0:∃ o,H₀ pa=some o
 sl:∀ (i:Nat) (s:Sl),ρ[i]?=some s->∃ o,σ[i]?=some o/\SlOk pa H₀ G H o s
 len:ρ.length=σ.length
 dj:∀ (i j:Nat) (xs ys:Ai),i≠j->ρ[i]?=some (.own xs)->ρ[j]?=some (.own ys)->σ[i]?≠σ[j]?
 dj2:∀ (i j:Nat) (xs ys:List (Int×PyData)),i≠j->ρ[i]?=some (.dic xs)->ρ[j]?=some (.dic ys)->σ[i]?≠σ[j]?
section
variable {PK:Pk} {pa:Addr} {Aq H₀ G H:Hp} {m:Nat} {σ:St} {ρ:List Sl}
theorem nW {α:Type} {l:List α} {k i:Nat} {x y:α} (h:(l.set k x)[i]?=some y) (hn:x≠y):k≠i/\l[i]?=some y:=by
 have hi:k≠i:=λe=>by
  subst e
  have hl:k < l.length:=by
   have:=(we.mp h).1
   rwa [wY] at this
  rw [wC hl] at h
  exact hn (wJ h)
 rw [wv hi] at h
 exact ⟨hi,h⟩
theorem Zia {α:Type} {T:α->Sl} {k:Nat} {x:Sl} {v:Option V} (dj:∀ (i j:Nat) (a b:α),i≠j->ρ[i]?=some (T a)->ρ[j]?=some (T b)->σ[i]?≠σ[j]?) (hn:∀ a,x≠T a) :
  ∀ (i j:Nat) (a b:α),i≠j->(ρ.set k x)[i]?=some (T a)->(ρ.set k x)[j]?=some (T b)->(σ.set k v)[i]?≠(σ.set k v)[j]?:=λi j a b hij h1 h2=>by
 obtain ⟨hi,h1⟩:=nW h1 (hn a)
 obtain ⟨hj,h2⟩:=nW h2 (hn b)
 rw [wv hi,wv hj]
 exact dj i j a b hij h1 h2
theorem Zh9 {α:Type} {T:α->Sl} {k:Nat} {x:Sl} (dj:∀ (i j:Nat) (a b:α),i≠j->ρ[i]?=some (T a)->ρ[j]?=some (T b)->σ[i]?≠σ[j]?) (hn:∀ a,x≠T a) :
  ∀ (i j:Nat) (a b:α),i≠j->(ρ.set k x)[i]?=some (T a)->(ρ.set k x)[j]?=some (T b)->σ[i]?≠σ[j]?:=λi j a b hij h1 h2 =>
 dj i j a b hij (nW h1 (hn a)).2 (nW h2 (hn b)).2
theorem SlOk.step {G' H':Hp} {o:Option V} {s:Sl} (k:SlOk pa H₀ G H o s) (hp0:∃ o,H₀ pa=some o) (st:Stp pa G H G' H'):SlOk pa H₀ G' H' o s:=by
 cases k with
 | un=>exact .un
 | d h=>exact .d (h.mono st.gs)
 | pen=>exact .pen
 | @own p vs xs h1 h2 h3 h4 =>
  have hne:p≠pa:=λe=>by
   obtain ⟨u,hu⟩:=hp0
   rw [<- e,h3] at hu; cases hu
  refine .own (st.hk _ _ h1 hne) ?_ h3 (DnAll.mono st.gs h4)
  cases e:G' p with
  | none=>rfl
  | some u =>
   rcases st.gn p u e with z | z
   ·rw [h2] at z; cases z
   ·rw [h1] at z; cases z
 | @dic p ks kvs h1 h2 h3 h4 =>
  have hne:p≠pa:=λe=>by
   obtain ⟨u,hu⟩:=hp0
   rw [<- e,h3] at hu; cases hu
  refine .dic (st.hk _ _ h1 hne) ?_ h3 (h4.mono st.gs)
  cases e:G' p with
  | none=>rfl
  | some u =>
   rcases st.gn p u e with z | z
   ·rw [h2] at z; cases z
   ·rw [h1] at z; cases z
theorem Rl.step {G' H':Hp} {m':Nat} (r:Rl PK pa Aq H₀ m σ ρ G H) (s:Stp pa G H G' H') (w:Wd PK pa m' G' H'):Rl PK pa Aq H₀ m' σ ρ G' H' :=
 ⟨w,r.st.trans s r.wd.some,r.p0,λi sl h=>let ⟨o,h1,h2⟩:=r.sl i sl h; ⟨o,h1,h2.step r.p0 s⟩,r.len,r.dj,r.dj2⟩
theorem Rl.set (r:Rl PK pa Aq H₀ m σ ρ G H) {v:V} {x:PyData} (d:Dn G v x) (k:Nat):Rl PK pa Aq H₀ m (σ.set k (some v)) (ρ.set k (.d x)) G H:=by
 refine ⟨r.wd,r.st,r.p0,λi s h=>?_,by rw [wY,wY]; exact r.len,λi j xs ys hij h1 h2=>?_,Zia r.dj2 λa h=>by cases h⟩
 ·by_cases e:k=i
  ·subst e
   have hl:k < ρ.length:=by
    have:=(we.mp h).1
    rwa [wY] at this
   rw [wC hl] at h
   cases h
   exact ⟨_,wC (by rw [<- r.len]; exact hl),.d d⟩
  ·rw [wv e] at h ⊢
   exact r.sl i s h
 ·have hi:k≠i:=λe=>by
   subst e
   have hl:k < ρ.length:=by
    have:=(we.mp h1).1
    rwa [wY] at this
   rw [wC hl] at h1; cases h1
  have hj:k≠j:=λe=>by
   subst e
   have hl:k < ρ.length:=by
    have:=(we.mp h2).1
    rwa [wY] at this
   rw [wC hl] at h2; cases h2
  rw [wv hi] at h1 ⊢
  rw [wv hj] at h2 ⊢
  exact r.dj i j xs ys hij h1 h2
theorem Rl.setO (r:Rl PK pa Aq H₀ m σ ρ G H) {p:Addr} {vs:An} {xs:Ai} (h1:H p=some (.lst vs)) (h2:G p=none) (h3:H₀ p=none) (h4:DnAll G vs xs)
  (hd:∀ (i:Nat) (ys:Ai),ρ[i]?=some (.own ys)->σ[i]?≠some (some (.ref p))) (k:Nat):Rl PK pa Aq H₀ m (σ.set k (some (.ref p))) (ρ.set k (.own xs)) G H:=by
 have up:∀ {i:Nat} {s:Sl},(ρ.set k (.own xs))[i]?=some s->i=k->s=.own xs/\(σ.set k (some (V.ref p)))[i]?=some (some (.ref p)):=λ{i s} h e=>by
  subst e
  have hl:i < ρ.length:=by
   have:=(we.mp h).1
   rwa [wY] at this
  rw [wC hl] at h
  cases h
  exact ⟨rfl,wC (by rw [<- r.len]; exact hl)⟩
 refine ⟨r.wd,r.st,r.p0,λi s h=>?_,by rw [wY,wY]; exact r.len,λi j ys zs hij e1 e2=>?_,Zia r.dj2 λa h=>by cases h⟩
 ·by_cases e:i=k
  ·obtain ⟨e1,e2⟩:=up h e
   subst e1
   exact ⟨_,e2,.own h1 h2 h3 h4⟩
  ·rw [wv (Ne.symm e)] at h ⊢
   exact r.sl i s h
 ·by_cases ei:i=k
  ·have q:=(up e1 ei).2
   have hj:k≠j:=λe=>hij (ei.trans e)
   rw [q]
   rw [wv hj] at e2 ⊢
   exact λz=>hd j zs e2 z.symm
  ·rw [wv (Ne.symm ei)] at e1 ⊢
   by_cases ej:j=k
   ·rw [(up e2 ej).2]
    exact hd i ys e1
   ·rw [wv (Ne.symm ej)] at e2 ⊢
    exact r.dj i j ys zs hij e1 e2
theorem Rl.h0 (r:Rl PK pa Aq H₀ m σ ρ G H) {p:Addr} (hp:H p=none):H₀ p=none:=by
 cases e:H₀ p with
 | none=>rfl
 | some u =>
  by_cases hc:p=pa
  ·subst hc
   obtain ⟨o,h⟩:=r.wd.some
   rw [hp] at h; cases h
  ·rw [r.st.hk p u e hc] at hp; cases hp
theorem Rl.apart (r:Rl PK pa Aq H₀ m σ ρ G H) {p:Addr} (hp:H p=none) (i:Nat) (ys:Ai) (h:ρ[i]?=some (.own ys)):σ[i]?≠some (some (.ref p)):=λe=>by
 obtain ⟨o,h1,h2⟩:=r.sl i _ h
 rw [e] at h1
 cases h1
 cases h2 with
 | own a _ _ _=>rw [hp] at a; cases a
theorem Rl.change (r:Rl PK pa Aq H₀ m σ ρ G H) {k:Nat} {xs ys:Ai} {p:Addr} {ws:An} (hk:ρ[k]?=some (.own xs)) (hσ:σ[k]?=some (some (.ref p))) (d:DnAll G ws ys) :
  Rl PK pa Aq H₀ m σ (ρ.set k (.own ys)) G (upd H p (.lst ws)):=by
 obtain ⟨o,h1,h2⟩:=r.sl k _ hk
 rw [hσ] at h1
 cases h1
 cases h2 with
 | @own _ vs _ a1 a2 a3 a4 =>
  have hne:pa≠p:=λe=>by
   obtain ⟨u,hu⟩:=r.p0
   rw [e,a3] at hu; cases hu
  have hl:k < ρ.length:=(we.mp hk).1
  refine ⟨⟨λb o h=>?_,r.wd.gpa,?_⟩,⟨r.st.gs,r.st.gn,λb o h hb=>?_⟩,r.p0,λi s h=>?_,by rw [wY]; exact r.len,λi j us ws hij e1 e2=>?_,Zh9 r.dj2 λa h=>by cases h⟩
  ·rw [bc (λe=>by subst e; rw [a2] at h; cases h)]
   exact r.wd.sub b o h
  ·obtain ⟨u,h,q⟩:=r.wd.pen
   exact ⟨u,by rw [bc hne]; exact h,q⟩
  ·rw [bc (λe=>by subst e; rw [a3] at h; cases h)]
   exact r.st.hk b o h hb
  ·by_cases e:k=i
   ·subst e
    rw [wC hl] at h
    cases h
    exact ⟨_,hσ,.own cA a2 a3 d⟩
   ·rw [wv e] at h
    obtain ⟨o,q1,q2⟩:=r.sl i s h
    refine ⟨o,q1,?_⟩
    cases q2 with
    | un=>exact .un
    | d z=>exact .d z
    | pen=>exact .pen
    | dic b1 b2 b3 b4=>exact .dic (by rw [bc (λe2=>by subst e2; rw [a1] at b1; cases b1)]; exact b1) b2 b3 b4
    | own b1 b2 b3 b4 =>
     refine .own ?_ b2 b3 b4
     rw [bc]
     ·exact b1
     ·intro e2
      subst e2
      exact r.dj k i _ _ e hk h (by rw [hσ,q1])
  ·by_cases ei:k=i
   ·subst ei
    rw [wv hij] at e2
    exact r.dj k j _ _ hij hk e2
   ·rw [wv ei] at e1
    by_cases ej:k=j
    ·subst ej
     exact r.dj i k _ _ hij e1 hk
    ·rw [wv ej] at e2
     exact r.dj i j _ _ hij e1 e2
noncomputable def fz (k:Nat) (ρ:List Sl):List Sl:=match ρ[k]? with
 | some (.own xs)=>ρ.set k (.d (.list xs))
 | _=>ρ
theorem Rl.freeze (r:Rl PK pa Aq H₀ m σ ρ G H) (k:Nat):∃ G',Sub G G'/\Rl PK pa Aq H₀ m σ (fz k ρ) G' H:=by
 unfold fz
 split
 ·rename_i xs hk
  obtain ⟨o,h1,h2⟩:=r.sl k _ hk
  cases h2 with
  | @own p vs _ a1 a2 a3 a4 =>
   have hne:pa≠p:=λe=>by
    obtain ⟨u,hu⟩:=r.p0
    rw [e,a3] at hu; cases hu
   have hl:k < ρ.length:=(we.mp hk).1
   have sb:Sub G (upd G p (.lst vs)):=Sub.new a2
   refine ⟨upd G p (.lst vs),sb,r.wd.freeze a1 a2 hne,⟨λb o h=>sb b o (r.st.gs b o h),λb o h=>?_,r.st.hk⟩,r.p0,λi s h=>?_,by rw [wY]; exact r.len,λi j us ws hij e1 e2=>?_,Zh9 r.dj2 λa h=>by cases h⟩
   ·by_cases e:b=p
    ·subst e; exact .inr a3
    ·rw [bc e] at h; exact r.st.gn b o h
   ·by_cases e:k=i
    ·subst e
     rw [wC hl] at h
     cases h
     exact ⟨_,h1,.d (.lst cA (DnAll.mono sb a4))⟩
    ·rw [wv e] at h
     obtain ⟨o,q1,q2⟩:=r.sl i s h
     refine ⟨o,q1,?_⟩
     cases q2 with
     | un=>exact .un
     | d z=>exact .d (z.mono sb)
     | pen=>exact .pen
     | dic b1 b2 b3 b4=>exact .dic b1 (by rw [bc (λe2=>by subst e2; rw [a1] at b1; cases b1)]; exact b2) b3 (b4.mono sb)
     | own b1 b2 b3 b4 =>
      refine .own b1 ?_ b3 (DnAll.mono sb b4)
      rw [bc]
      ·exact b2
      ·intro e2
       subst e2
       exact r.dj k i _ _ e hk h (by rw [h1,q1])
   ·have hi:k≠i:=λe=>by subst e; rw [wC hl] at e1; cases e1
    have hj:k≠j:=λe=>by subst e; rw [wC hl] at e2; cases e2
    rw [wv hi] at e1
    rw [wv hj] at e2
    exact r.dj i j _ _ hij e1 e2
 ·exact ⟨G,λ_ _ h=>h,r⟩
end
end L2
set_option Elab.async false
set_option linter.all false
set_option maxRecDepth 100000
namespace L2
def TAe (PK:Pk) (i:List Sl->Tr PyData):TE:=λσ H Q=>∃ pa Aq H₀ m ρ G,Rl PK pa Aq H₀ m σ ρ G H/\(i ρ).ok m λm' x=>Kn PK pa m' G H x Q
def TAt (PK:Pk) (i:List Sl->Tr Bool):TT:=λσ H Q=>∃ pa Aq H₀ m ρ G,Rl PK pa Aq H₀ m σ ρ G H/\(i ρ).ok m λm' b=>∀ G' H',Stp pa G H G' H'->Wd PK pa m' G' H'->Q b H'
def TAd (PK:Pk) (i:List Sl->Tr Ai):TA:=λσ H Q=>∃ pa Aq H₀ m ρ G,Rl PK pa Aq H₀ m σ ρ G H/\(i ρ).ok m λm' xs=>∀ vs G' H',Stp pa G H G' H'->Wd PK pa m' G' H'->DnAll G' vs xs->Q vs H'
def Ko1 (PK:Pk) (pa:Addr) (m:Nat) (G H:Hp) (xs:Ai) (Q:VK):Prop:=∀ p vs G' H',Stp pa G H G' H'->Wd PK pa m G' H'->H p=none->G' p=none->H' p=some (.lst vs)->DnAll G' vs xs->Q (.ref p) H'
def fe (PK:Pk) (i:List Sl->Tr Ai):TE:=λσ H Q=>∃ pa Aq H₀ m ρ G,Rl PK pa Aq H₀ m σ ρ G H/\(i ρ).ok m λm' xs=>Ko1 PK pa m' G H xs Q
inductive ArOk (pa:Addr) (G:Hp):V->Sl->Prop
 | d {v:V} {x:PyData}:Dn G v x->ArOk pa G v (.d x)
 | pen:ArOk pa G (.ref pa) .pen
inductive ArsOk (pa:Addr) (G:Hp):List V->List Sl->Prop
 | nil:ArsOk pa G [] []
 | cons {v:V} {vs:An} {s:Sl} {ss:List Sl}:ArOk pa G v s->ArsOk pa G vs ss->ArsOk pa G (v::vs) (s::ss)
theorem ArOk.mono {pa:Addr} {G G':Hp} {v:V} {s:Sl} (h:ArOk pa G v s) (e:Sub G G'):ArOk pa G' v s:=by
 cases h with
 | d z=>exact .d (z.mono e)
 | pen=>exact .pen
theorem ArsOk.mono {pa:Addr} {G G':Hp} (e:Sub G G') {vs:An} {ss:List Sl} (h:ArsOk pa G vs ss):ArsOk pa G' vs ss:=by
 induction h with
 | nil=>exact .nil
 | cons h t ih=>exact .cons (h.mono e) ih
theorem ArsOk.length {pa:Addr} {G:Hp} {vs:An} {ss:List Sl} (h:ArsOk pa G vs ss):vs.length=ss.length:=by
 induction h with
 | nil=>rfl
 | cons h t ih=>exact congrArg (·+1) ih
def TAa (PK:Pk) (i:List Sl->Tr (List Sl)):TA:=λσ H Q=>∃ pa Aq H₀ m ρ G,Rl PK pa Aq H₀ m σ ρ G H/\(i ρ).ok m λm' as=>∀ vs G' H',Stp pa G H G' H'->Wd PK pa m' G' H'->ArsOk pa G' vs as->Q vs H'
inductive Re where
 | d (x:PyData) | own (xs:Ai)
noncomputable def Re.val:Re->PyData
 | .d x=>x
 | .own xs=>.list xs
@[simp] theorem Re.val_d (x:PyData):(Re.d x).val=x:=rfl
@[simp] theorem Re.val_own (xs:Ai):(Re.own xs).val=.list xs:=rfl
inductive Ou where
 | next (ρ:List Sl) | ret (r:Re) | brk (ρ:List Sl) | cont (ρ:List Sl)
abbrev z9:=List Sl->Tr PyData
abbrev Aa:=List Sl->Tr (List PyData)
abbrev Ab:=List Sl->Tr Bool
abbrev Ac:=List Sl->Tr Ou
abbrev Ad:=List Sl->Tr Re
abbrev Ae:=List PyData->List Sl->Option (List Sl)
abbrev Af:=PyData->List Sl->Option (List Sl)
abbrev Ap:=List Sl
noncomputable def ZqK (H₀ G H:Hp) (v:V):Re->Prop
 | .d x=>Dn G v x
 | .own xs=>∃ p vs,v=.ref p/\H p=some (.lst vs)/\G p=none/\H₀ p=none/\DnAll G vs xs
def Kr (PK:Pk) (pa:Addr) (m:Nat) (Aq H₀:Hp) (r:Re) (Q:VK):Prop:=∀ v G H,Stp pa Aq H₀ G H->Wd PK pa m G H->ZqK H₀ G H v r->Q v H
noncomputable def Ko (PK:Pk) (pa:Addr) (Aq H₀ Gs:Hp) (D:Ends) (m:Nat):Ou->Prop
 | .next ρ=>∀ σ G H,Sub Gs G->Rl PK pa Aq H₀ m σ ρ G H->D.nx σ H
 | .ret r=>Kr PK pa m Aq H₀ r D.rt
 | .brk ρ=>∀ σ G H,Sub Gs G->Rl PK pa Aq H₀ m σ ρ G H->D.bk σ H
 | .cont ρ=>∀ σ G H,Sub Gs G->Rl PK pa Aq H₀ m σ ρ G H->D.ct σ H
def bO (PK:Pk) (i:Ac):TS:=λD σ H=>∃ pa Aq H₀ m ρ G,Rl PK pa Aq H₀ m σ ρ G H/\(i ρ).ok m (Ko PK pa Aq H₀ G D)
theorem PE.imp {X:Cx} {e:Expr} {t t':TE} (h:PE X e t) (q:∀ σ H Q,t' σ H Q->t σ H Q):PE X e t':=λpins s σ H Q I z=>h pins s σ H Q I (q σ H Q z)
theorem PT.imp {X:Cx} {e:Expr} {t t':TT} (h:PT X e t) (q:∀ σ H Q,t' σ H Q->t σ H Q):PT X e t':=λpins s σ H Q I z=>h pins s σ H Q I (q σ H Q z)
theorem PW.imp {X:Cx} {e:Expr} {t t':TT} (h:PW X e t) (q:∀ σ H Q,t' σ H Q->t σ H Q):PW X e t':=λwh pins s σ H Q I z=>h wh pins s σ H Q I (q σ H Q z)
theorem PA.imp {X:Cx} {e:List Expr} {t t':TA} (h:PA X e t) (q:∀ σ H Q,t' σ H Q->t σ H Q):PA X e t':=λpos pins s σ H Q I z=>h pos pins s σ H Q I (q σ H Q z)
theorem PS.imp {X:Cx} {e:Stmt} {t t':TS} (h:PS X e t) (q:∀ D σ H,t' D σ H->t D σ H):PS X e t':=λpins s σ H D I z=>h pins s σ H D I (q D σ H z)
theorem PSs.imp {X:Cx} {e:List Stmt} {t t':TS} (h:PSs X e t) (q:∀ D σ H,t' D σ H->t D σ H):PSs X e t':=λpins s σ H D I z=>h pins s σ H D I (q D σ H z)
variable {PK:Pk} {X:Cx} {a b c e:Expr} {es:List Expr} {pos:Pos} {i j l:z9}
theorem TAe.then {σ:St} {H:Hp} {β:Type} {k:PyData->Tr β} {Z:Nat->β->Prop} {Q:VK} {pa:Addr} {Aq H₀ G:Hp} {m:Nat} {ρ:Ap} (R:Rl PK pa Aq H₀ m σ ρ G H) (h:((i ρ).bind k).ok m Z)
  (hq:∀ m1 x v G1 H1,Stp pa G H G1 H1->Wd PK pa m1 G1 H1->Rl PK pa Aq H₀ m1 σ ρ G1 H1->Dn G1 v x->(k x).ok m1 Z->Q v H1):TAe PK i σ H Q:=by
 refine ⟨pa,Aq,H₀,m,ρ,G,R,Tr.ok_mono (Tr.ok_bind.mp h) λm1 x hx v G1 H1 s1 w1 d1=>?_⟩
 exact hq m1 x v G1 H1 s1 w1 (R.step s1 w1) d1 hx
noncomputable def aa (k:Nat):z9:=λρ=>match ρ[k]? with
 | some (.d x)=>.ret x
 | _=>.fail
noncomputable def aC (d:PyData):z9:=λ_=>.ret d
theorem ab {k:Nat} (h:PE X e (fA k)):PE X e (TAe PK (aa k)):=h.imp λσ H Q hz0=>by
 obtain ⟨pa,Aq,H₀,m,ρ,G,R,q⟩:=hz0
 unfold aa at q
 split at q
 ·rename_i x hx
  obtain ⟨o,h1,h2⟩:=R.sl k _ hx
  cases h2 with
  | d z=>exact ⟨_,h1,Kn.here q R.wd z⟩
 ·exact q.elim
theorem qD {v:V} {d:PyData} (h:PE X e (tC v)) (hd:∀ G,Dn G v d):PE X e (TAe PK (aC d)):=h.imp λσ H Q hz0=>by
 obtain ⟨pa,Aq,H₀,m,ρ,G,R,q⟩:=hz0
 exact Kn.here q R.wd (hd G)
theorem al {n:Int} {k pos}:PE X (.Constant (.int n) k pos) (TAe PK (aC (.int n))):=qD cK λ_=>.int n
theorem dS {n:Bool} {k pos}:PE X (.Constant (.bool n) k pos) (TAe PK (aC (.bool n))):=qD ZlU λ_=>.bl n
theorem jJ {x:Str} {k pos}:PE X (.Constant (.str x) k pos) (TAe PK (aC (.str x))):=qD dX λ_=>.str x
theorem cq {x:Str} {n:Int} (hg:Gl X x) (h:∃ t,X.mg x=some (.int n t)) (hd:(x == ("__debug__":Str))=false:=by decide):PE X (.Name x pos) (TAe PK (aC (.int n))):=qD (ZlO hg h hd) λ_=>.int n
def cN (r:R2) (f:Ag):Prop:=∀ (PK:Pk) (pa:Addr) (m:Nat) (G H:Hp) (x y:V) (dx dy dz:PyData) (Q:VK),Wd PK pa m G H->Dn G x dx->Dn G y dy->f dx dy=some dz->Kn PK pa m G H dz Q->r x y H Q
noncomputable def ac (f:Ag) (i j:z9):z9:=λρ=>(i ρ).bind λx=>(j ρ).bind λy=>Tr.of (f x y)
theorem qK {r:R2} {f:Ag} (hv:cN r f):∀ σ H Q,TAe PK (ac f i j) σ H Q->jm r (TAe PK i) (TAe PK j) σ H Q:=by
 rintro σ H Q ⟨pa,Aq,H₀,m,ρ,G,R,q⟩
 refine TAe.then R q λm1 x v G1 H1 s1 w1 R1 d1 q1=>?_
 refine TAe.then R1 q1 λm2 y u G2 H2 s2 w2 R2 d2 q2=>?_
 obtain ⟨z,hz,k⟩:=Tr.ok_of q2
 exact hv PK pa m2 G2 H2 v u x y z Q w2 (d1.mono s2.gs) d2 hz (Kn.later k (s1.trans s2 w1.some) w2.some)
theorem ai {op:Operator} {r:R2} {f:Ag} (ho:OpR X (binaryOp op) r) (hv:cN r f) (ha:PE X a (TAe PK i)) (hb:PE X b (TAe PK j)):PE X (.BinOp a op b pos) (TAe PK (ac f i j)) :=
 (cz ho ha hb).imp (qK hv)
theorem jK {op:CmpOp} {r:R2} {f:Ag} (ho:OpR X (compareOp op) r) (hv:cN r f) (ha:PE X a (TAe PK i)) (hb:PE X b (TAe PK j)) (hm:behindInMarks op b=false):PE X (.Compare a [op] [b] pos) (TAe PK (ac f i j)) :=
 (ZlQ ho ha hb hm).imp (qK hv)
theorem Zqx {r:R2} {f:Ag} (hr:IxR X r) (hv:cN r f) (ha:PE X a (TAe PK i)) (hb:PE X b (TAe PK j)) (hs:qP b):PE X (.Subscript a b pos) (TAe PK (ac f i j)) :=
 (oD hr ha hb hs).imp (qK hv)
theorem aF {r:R2} {f:Ag} (hr:IxR X r) (hv:cN r f) (ha:PE X a (TAe PK i)) (hb:PE X b (TAe PK j)) (hs:qP b:=by intro _ _; rfl):PE X (.Subscript a b pos) (TAe PK (ac f i j)):=Zqx hr hv ha hb hs
noncomputable def jl:PyData->Option Bool
 | .bool b=>some b
 | _=>none
@[simp] theorem Zrp (b:Bool):jl (.bool b)=some b:=rfl
noncomputable def bu (i:z9):Ab:=λρ=>(i ρ).bind λx=>Tr.of (jl x)
theorem Zi5:∀ σ H Q,TAt PK (bu i) σ H Q->nS (TAe PK i) σ H Q:=by
 rintro σ H Q ⟨pa,Aq,H₀,m,ρ,G,R,q⟩
 refine TAe.then R q λm1 x v G1 H1 s1 w1 R1 d1 q1=>?_
 obtain ⟨b,hb,k⟩:=Tr.ok_of q1
 cases d1 <;> simp only [jl] at hb <;> cases hb
 exact ⟨_,rfl,k G1 H1 s1 w1⟩
theorem ZjP {t t':TE} (h:∀ σ H Q,t' σ H Q->t σ H Q):∀ σ H Q,nS t' σ H Q->nS t σ H Q:=λσ H Q z=>h σ H _ z
theorem ci {op:CmpOp} {r:R2} {f:Ag} (ho:OpR X (compareOp op) r) (hv:cN r f) (ha:PE X a (TAe PK i)) (hb:PE X b (TAe PK j)) (hm:behindInMarks op b=false):PT X (.Compare a [op] [b] pos) (TAt PK (bu (ac f i j))) :=
 (mn ho ha hb hm).imp λσ H Q z=>ZjP (qK hv) σ H Q (Zi5 σ H Q z)
theorem Zqe (h:PE X e (TAe PK i)) (he:∀ whole,isTrue e X.env whole=(do let v <- whole; standAt e.pos; holding [v] (truthy v)):=by intro _; rfl):PT X e (TAt PK (bu i)):=(Zln h he).imp λσ H Q z=>Zi5 σ H Q z
noncomputable def Zav:PyData->Option Bool
 | .bool b=>some b
 | .int n=>some (n != 0)
 | .none=>some false
 | .list xs=>some (!xs.isEmpty)
 | .tuple xs=>some (!xs.isEmpty)
 | _=>none
noncomputable def f8 (i:z9):Ab:=λρ=>(i ρ).bind λx=>Tr.of (Zav x)
theorem DnAll.isEmpty {H:Hp} {vs:An} {ds:Ai} (h:DnAll H vs ds):vs.isEmpty=ds.isEmpty:=by
 cases h <;> rfl
theorem ii (h:PE X e (TAe PK i)) (he:∀ whole,isTrue e X.env whole=(do let v <- whole; standAt e.pos; holding [v] (truthy v)):=by intro _; rfl):PT X e (TAt PK (f8 i)):=(Zlo h he).imp λσ H Q hz0=>by
 obtain ⟨pa,Aq,H₀,m,ρ,G,R,q⟩:=hz0
 refine TAe.then R q λm1 x v G1 H1 s1 w1 R1 d1 q1=>?_
 obtain ⟨b,hb,k⟩:=Tr.ok_of q1
 have fin:=k G1 H1 s1 w1
 cases d1 with
 | non=>cases hb; exact ⟨_,rfl,fin⟩
 | bl b=>cases hb; exact ⟨_,rfl,fin⟩
 | int n=>cases hb; exact ⟨_,rfl,fin⟩
 | str _=>cases hb
 | tup h1 h2=>cases hb; exact ⟨_,.inr (.inl ⟨_,SqT.of (w1.sub _ _ h1),rfl⟩),by rw [h2.isEmpty]; exact fin⟩
 | lst h1 h2=>cases hb; exact ⟨_,.inl ⟨_,SqL.of (w1.sub _ _ h1),rfl⟩,by rw [h2.isEmpty]; exact fin⟩
 | dct _ _=>cases hb
noncomputable def vQ (i j:Ab):Ab:=λρ=>(i ρ).bind λx=>if x=true then j ρ else .ret false
noncomputable def i8 (i j:Ab):Ab:=λρ=>(i ρ).bind λx=>if x=true then .ret true else j ρ
noncomputable def gM (i:Ab):Ab:=λρ=>(i ρ).bind λx=>.ret (!x)
variable {p q:Ab} {rest:List Expr}
theorem TAt.then {σ:St} {H:Hp} {β:Type} {k:Bool->Tr β} {Z:Nat->β->Prop} {Q:Bool->Hp->Prop} {pa:Addr} {Aq H₀ G:Hp} {m:Nat} {ρ:Ap} (R:Rl PK pa Aq H₀ m σ ρ G H) (h:((p ρ).bind k).ok m Z)
  (hq:∀ m1 x G1 H1,Stp pa G H G1 H1->Wd PK pa m1 G1 H1->Rl PK pa Aq H₀ m1 σ ρ G1 H1->(k x).ok m1 Z->Q x H1):TAt PK p σ H Q:=by
 refine ⟨pa,Aq,H₀,m,ρ,G,R,Tr.ok_mono (Tr.ok_bind.mp h) λm1 x hx G1 H1 s1 w1=>?_⟩
 exact hq m1 x G1 H1 s1 w1 (R.step s1 w1) hx
theorem ZiS {Aq H₀ G H G1 H1:Hp} {m:Nat} {σ:St} {ρ:Ap} {pa:Addr} {Q:Bool->Hp->Prop} (R1:Rl PK pa Aq H₀ m σ ρ G1 H1) (s1:Stp pa G H G1 H1) (h:(q ρ).ok m λm' b=>∀ G' H',Stp pa G H G' H'->Wd PK pa m' G' H'->Q b H'):TAt PK q σ H1 Q :=
 ⟨pa,Aq,H₀,m,ρ,G1,R1,Tr.ok_mono h λm2 b k G2 H2 s2 w2=>k G2 H2 (s1.trans s2 R1.wd.some) w2⟩
theorem vG {Aq H₀ G H G1 H1:Hp} {m:Nat} {σ:St} {ρ:Ap} {pa:Addr} {Q:VK} (R1:Rl PK pa Aq H₀ m σ ρ G1 H1) (s1:Stp pa G H G1 H1) (h:(i ρ).ok m λm' x=>Kn PK pa m' G H x Q):TAe PK i σ H1 Q :=
 ⟨pa,Aq,H₀,m,ρ,G1,R1,Tr.ok_mono h λm2 b k=>Kn.later k s1 R1.wd.some⟩
theorem Zqc (ha:PT X a (TAt PK p)):PW X (.BoolOp .And [a] pos) (TAt PK p):=Zcy ha
theorem nc (ha:PT X a (TAt PK p)):PW X (.BoolOp .Or [a] pos) (TAt PK p):=Zlk ha
theorem Zqd (ha:PT X a (TAt PK p)) (hb:PW X (.BoolOp .And (b::rest) pos) (TAt PK q)):PW X (.BoolOp .And (a::b::rest) pos) (TAt PK (vQ p q)):=(Zcz ha hb).imp λσ H Q hz0=>by
 obtain ⟨pa,Aq,H₀,m,ρ,G,R,z⟩:=hz0
 refine TAt.then R z λm1 x G1 H1 s1 w1 R1 q1=>?_
 cases x with
 | true=>rw [if_pos rfl] at q1 ⊢; exact ZiS R1 s1 q1
 | false=>rw [if_neg wn] at q1 ⊢; exact q1 G1 H1 s1 w1
theorem li (ha:PT X a (TAt PK p)) (hb:PW X (.BoolOp .Or (b::rest) pos) (TAt PK q)):PW X (.BoolOp .Or (a::b::rest) pos) (TAt PK (i8 p q)):=(Zll ha hb).imp λσ H Q hz0=>by
 obtain ⟨pa,Aq,H₀,m,ρ,G,R,z⟩:=hz0
 refine TAt.then R z λm1 x G1 H1 s1 w1 R1 q1=>?_
 cases x with
 | true=>rw [if_pos rfl] at q1 ⊢; exact q1 G1 H1 s1 w1
 | false=>rw [if_neg wn] at q1 ⊢; exact ZiS R1 s1 q1
theorem lj (h:PW X e (TAt PK p)):PT X e (TAt PK p):=h.pt
theorem iY (ha:PT X a (TAt PK p)):PT X (.UnaryOp .Not a pos) (TAt PK (gM p)):=(Zlp ha).imp λσ H Q hz0=>by
 obtain ⟨pa,Aq,H₀,m,ρ,G,R,z⟩:=hz0
 refine TAt.then R z λm1 x G1 H1 s1 w1 R1 q1=>?_
 exact q1 G1 H1 s1 w1
noncomputable def jO (i j:z9):z9:=λρ=>(bu i ρ).bind λx=>if x=true then j ρ else .ret (.bool false)
noncomputable def vM (i:z9):z9:=λρ=>(bu i ρ).bind λx=>.ret (.bool (!x))
theorem TAe.thenB {σ:St} {H:Hp} {β:Type} {k:Bool->Tr β} {Z:Nat->β->Prop} {Q:VK} {pa:Addr} {Aq H₀ G:Hp} {m:Nat} {ρ:Ap} (R:Rl PK pa Aq H₀ m σ ρ G H) (h:((bu i ρ).bind k).ok m Z)
  (hq:∀ m1 c G1 H1,Stp pa G H G1 H1->Wd PK pa m1 G1 H1->Rl PK pa Aq H₀ m1 σ ρ G1 H1->(k c).ok m1 Z->Q (.bl c) H1):TAe PK i σ H Q:=by
 unfold bu at h
 rw [Tr.bind_assoc] at h
 refine TAe.then R h λm1 x v G1 H1 s1 w1 R1 d1 q1=>?_
 rw [Tr.ok_bind] at q1
 obtain ⟨c,hb,q1⟩:=Tr.ok_of q1
 cases d1 <;> simp only [jl] at hb <;> cases hb
 exact hq m1 _ G1 H1 s1 w1 R1 q1
theorem qB {op} (h:PE X a (TAe PK i)):PE X (.BoolOp op [a] pos) (TAe PK i):=ZlJ h
theorem nq (ha:PE X a (TAe PK i)) (hb:PE X (.BoolOp .And (b::rest) pos) (TAe PK j)):PE X (.BoolOp .And (a::b::rest) pos) (TAe PK (jO i j)):=(ZlV ha hb).imp λσ H Q hz0=>by
 obtain ⟨pa,Aq,H₀,m,ρ,G,R,z⟩:=hz0
 refine TAe.thenB R z λm1 x G1 H1 s1 w1 R1 q1=>⟨x,rfl,?_⟩
 cases x with
 | true=>rw [if_pos rfl] at q1 ⊢; exact vG R1 s1 q1
 | false=>rw [if_neg wn] at q1 ⊢; exact (Kn.later q1 s1 w1.some).here w1 (.bl false)
theorem Zqw (ha:PE X a (TAe PK i)):PE X (.UnaryOp .Not a pos) (TAe PK (vM i)):=(ZlK ha).imp λσ H Q hz0=>by
 obtain ⟨pa,Aq,H₀,m,ρ,G,R,z⟩:=hz0
 refine TAe.thenB R z λm1 x G1 H1 s1 w1 R1 q1=>⟨x,rfl,?_⟩
 exact (Kn.later q1 s1 w1.some).here w1 (.bl _)
noncomputable def vO (p:Ab) (i j:z9):z9:=λρ=>(p ρ).bind λx=>if x=true then i ρ else j ρ
theorem Zqy (hc:PT X c (TAt PK p)) (ha:PE X a (TAe PK i)) (hb:PE X b (TAe PK j)):PE X (.IfExp c a b pos) (TAe PK (vO p i j)):=(ZlM hc ha hb).imp λσ H Q hz0=>by
 obtain ⟨pa,Aq,H₀,m,ρ,G,R,z⟩:=hz0
 refine TAt.then R z λm1 x G1 H1 s1 w1 R1 q1=>?_
 cases x with
 | true=>rw [if_pos rfl] at q1 ⊢; exact vG R1 s1 q1
 | false=>rw [if_neg wn] at q1 ⊢; exact vG R1 s1 q1
variable {is:Aa}
noncomputable def am:Aa:=λ_=>.ret []
noncomputable def ae (i:z9) (is:Aa):Aa:=λρ=>(i ρ).bind λx=>(is ρ).bind λxs=>.ret (x::xs)
theorem au:PA X [] (TAd PK am):=cC.imp λσ H Q hz0=>by
 obtain ⟨pa,Aq,H₀,m,ρ,G,R,z⟩:=hz0
 exact z [] G H .refl R.wd .nil
theorem TAd.then {σ:St} {H:Hp} {β:Type} {k:List PyData->Tr β} {Z:Nat->β->Prop} {Q:List V->Hp->Prop} {pa:Addr} {Aq H₀ G:Hp} {m:Nat} {ρ:Ap} (R:Rl PK pa Aq H₀ m σ ρ G H) (h:((is ρ).bind k).ok m Z)
  (hq:∀ m1 xs vs G1 H1,Stp pa G H G1 H1->Wd PK pa m1 G1 H1->Rl PK pa Aq H₀ m1 σ ρ G1 H1->DnAll G1 vs xs->(k xs).ok m1 Z->Q vs H1):TAd PK is σ H Q:=by
 refine ⟨pa,Aq,H₀,m,ρ,G,R,Tr.ok_mono (Tr.ok_bind.mp h) λm1 x hx v G1 H1 s1 w1 d1=>?_⟩
 exact hq m1 x v G1 H1 s1 w1 (R.step s1 w1) d1 hx
theorem ag (ha:PE X e (TAe PK i)) (hr:PA X es (TAd PK is)) (hs:starEach (e::es) X.env=(false,eval e X.env)::starEach es X.env:=by rfl):PA X (e::es) (TAd PK (ae i is)):=(bI ha hr hs).imp λσ H Q hz0=>by
 obtain ⟨pa,Aq,H₀,m,ρ,G,R,z⟩:=hz0
 refine TAe.then R z λm1 x v G1 H1 s1 w1 R1 d1 q1=>?_
 refine TAd.then R1 q1 λm2 xs vs G2 H2 s2 w2 R2 d2 q2=>?_
 exact q2 _ _ _ (s1.trans s2 w1.some) w2 (.cons (d1.mono s2.gs) d2)
noncomputable def small (n:Nat):Bool:=decide (n<=sizeLine)
noncomputable def bA (is:Aa):z9:=λρ=>(is ρ).bind λxs=>if small xs.length=true then .ret (.tuple xs) else .fail
noncomputable def cf (is:Aa):z9:=λρ=>(is ρ).bind λxs=>.ret (.list xs)
noncomputable def dC (is:Aa):Aa:=λρ=>(is ρ).bind λxs=>if small xs.length=true then .ret xs else .fail
theorem gZ {α:Type} {c:Bool} {t:Tr α} {m:Nat} {Q:Nat->α->Prop} (h:(if c=true then t else .fail).ok m Q):c=true/\t.ok m Q:=by
 cases c with
 | true=>exact ⟨rfl,h⟩
 | false=>exact h.elim
theorem bV {x1} (h:PA X es (TAd PK is)):PE X (.Tuple es x1 pos) (TAe PK (bA is)):=(ZcI h).imp λσ H Q hz0=>by
 obtain ⟨pa,Aq,H₀,m,ρ,G,R,z⟩:=hz0
 refine TAd.then R z λm1 xs vs G1 H1 s1 w1 R1 d1 q1=>?_
 obtain ⟨hs,k⟩:=gZ q1
 exact ⟨by rw [d1.length]; exact of_decide_eq_true hs,λp hp=>(Kn.later k s1 w1.some).tup w1 d1 hp⟩
theorem Ko1.new {pa:Addr} {m:Nat} {G H:Hp} {xs:Ai} {vs:An} {Q:VK} {p:Addr} (k:Ko1 PK pa m G H xs Q) (w:Wd PK pa m G H) (d:DnAll G vs xs) (hp:H p=none):Q (.ref p) (upd H p (.lst vs)):=by
 obtain ⟨w1,s1⟩:=w.own (o:=.lst vs) hp
 exact k p vs G _ s1 w1 hp (w.gnone hp) cA d
theorem Ko1.later {pa:Addr} {m:Nat} {G H G1 H1:Hp} {xs:Ai} {Q:VK} (k:Ko1 PK pa m G H xs Q) (s:Stp pa G H G1 H1) (hp:∃ o,H1 pa=some o):Ko1 PK pa m G1 H1 xs Q:=λp vs G' H' s' w' h1 h2 h3 h4=>by
 refine k p vs G' H' (s.trans s' hp) w' ?_ h2 h3 h4
 cases e:H p with
 | none=>rfl
 | some u =>
  by_cases hc:p=pa
  ·subst hc
   obtain ⟨o,z⟩:=hp
   rw [h1] at z; cases z
  ·rw [s.hk p u e hc] at h1; cases h1
theorem dR (h:PA X es (TAd PK is)):PE X (.List es pos) (fe PK (dC is)):=(ZlL h).imp λσ H Q hz0=>by
 obtain ⟨pa,Aq,H₀,m,ρ,G,R,z⟩:=hz0
 refine TAd.then R z λm1 xs vs G1 H1 s1 w1 R1 d1 q1=>?_
 obtain ⟨hs,k⟩:=gZ q1
 exact ⟨by rw [d1.length]; exact of_decide_eq_true hs,λp hp=>(Ko1.later k s1 w1.some).new w1 d1 hp⟩
theorem Ko1.of {pa:Addr} {m:Nat} {G H:Hp} {xs:Ai} {Q:VK} (k:Kn PK pa m G H (.list xs) Q) (hp:∃ o,H pa=some o):Ko1 PK pa m G H xs Q:=λp vs G' H' s w h1 h2 h3 h4=>by
 have hne:pa≠p:=λe=>by
  obtain ⟨o,z⟩:=hp
  rw [e,h1] at z; cases z
 have sb:Sub G' (upd G' p (.lst vs)):=Sub.new h2
 refine k _ (upd G' p (.lst vs)) H' ⟨λb o h=>sb b o (s.gs b o h),λb o h=>?_,s.hk⟩ (w.freeze h3 h2 hne) (.lst cA (DnAll.mono sb h4))
 by_cases e:b=p
 ·subst e; exact .inr h1
 ·rw [bc e] at h; exact s.gn b o h
theorem cW (h:PE X e (fe PK is)):PE X e (TAe PK (cf is)):=h.imp λσ H Q hz0=>by
 obtain ⟨pa,Aq,H₀,m,ρ,G,R,z⟩:=hz0
 refine ⟨pa,Aq,H₀,m,ρ,G,R,Tr.ok_mono (Tr.ok_bind.mp z) λm1 xs k=>Ko1.of k R.wd.some⟩
def fc (r:List V->Hp->VK->Prop) (f:List PyData->Option PyData):Prop:=∀ (PK:Pk) (pa:Addr) (m:Nat) (G H:Hp) (vs:An) (ds:Ai) (d:PyData) (Q:VK),Wd PK pa m G H->DnAll G vs ds->f ds=some d->Kn PK pa m G H d Q->r vs H Q
def vS (r:List V->Hp->VK->Prop) (f:List PyData->Option Ai):Prop:=∀ (PK:Pk) (pa:Addr) (m:Nat) (G H:Hp) (vs:An) (ds:Ai) (d:Ai) (Q:VK),Wd PK pa m G H->DnAll G vs ds->f ds=some d->Ko1 PK pa m G H d Q->r vs H Q
noncomputable def bb (f:List PyData->Option PyData) (is:Aa):z9:=λρ=>(is ρ).bind λxs=>Tr.of (f xs)
noncomputable def qJ (f:List PyData->Option Ai) (is:Aa):Aa:=λρ=>(is ρ).bind λxs=>Tr.of (f xs)
theorem ZqG {r:List V->Hp->VK->Prop} {f:List PyData->Option PyData} (hv:fc r f):∀ σ H Q,TAe PK (bb f is) σ H Q->fS r (TAd PK is) σ H Q:=by
 rintro σ H Q ⟨pa,Aq,H₀,m,ρ,G,R,z⟩
 refine TAd.then R z λm1 xs vs G1 H1 s1 w1 R1 d1 q1=>?_
 obtain ⟨d,hd,k⟩:=Tr.ok_of q1
 exact hv PK pa m1 G1 H1 vs xs d Q w1 d1 hd (Kn.later k s1 w1.some)
theorem ZqF {r:List V->Hp->VK->Prop} {f:List PyData->Option Ai} (hv:vS r f):∀ σ H Q,fe PK (qJ f is) σ H Q->fS r (TAd PK is) σ H Q:=by
 rintro σ H Q ⟨pa,Aq,H₀,m,ρ,G,R,z⟩
 refine TAd.then R z λm1 xs vs G1 H1 s1 w1 R1 d1 q1=>?_
 obtain ⟨d,hd,k⟩:=Tr.ok_of q1
 exact hv PK pa m1 G1 H1 vs xs d Q w1 d1 hd (Ko1.later k s1 w1.some)
theorem bm {t:TA} {r:List V->Hp->VK->Prop} {f:List PyData->Option PyData} (h:PE X e (fS r (TAd PK is))) (hv:fc r f):PE X e (TAe PK (bb f is)):=h.imp (ZqG hv)
theorem Zqo {t:TA} {r:List V->Hp->VK->Prop} {f:List PyData->Option Ai} (h:PE X e (fS r (TAd PK is))) (hv:vS r f):PE X e (fe PK (qJ f is)):=h.imp (ZqF hv)
variable {as:List Sl->Tr Ap}
noncomputable def aq:List Sl->Tr Ap:=λ_=>.ret []
noncomputable def ad (i:z9) (as:List Sl->Tr Ap):List Sl->Tr Ap:=λρ=>(i ρ).bind λx=>(as ρ).bind λxs=>.ret (.d x::xs)
noncomputable def bC (k:Nat) (as:List Sl->Tr Ap):List Sl->Tr Ap:=λρ=>match ρ[k]? with
 | some .pen=>(as ρ).bind λxs=>.ret (.pen::xs)
 | _=>.fail
theorem aB:PA X [] (TAa PK aq):=cC.imp λσ H Q hz0=>by
 obtain ⟨pa,Aq,H₀,m,ρ,G,R,z⟩:=hz0
 exact z [] G H .refl R.wd .nil
theorem TAa.then {σ:St} {H:Hp} {β:Type} {k:List Sl->Tr β} {Z:Nat->β->Prop} {Q:List V->Hp->Prop} {pa:Addr} {Aq H₀ G:Hp} {m:Nat} {ρ:Ap} (R:Rl PK pa Aq H₀ m σ ρ G H) (h:((as ρ).bind k).ok m Z)
  (hq:∀ m1 xs vs G1 H1,Stp pa G H G1 H1->Wd PK pa m1 G1 H1->Rl PK pa Aq H₀ m1 σ ρ G1 H1->ArsOk pa G1 vs xs->(k xs).ok m1 Z->Q vs H1):TAa PK as σ H Q:=by
 refine ⟨pa,Aq,H₀,m,ρ,G,R,Tr.ok_mono (Tr.ok_bind.mp h) λm1 x hx v G1 H1 s1 w1 d1=>?_⟩
 exact hq m1 x v G1 H1 s1 w1 (R.step s1 w1) d1 hx
theorem af (ha:PE X e (TAe PK i)) (hr:PA X es (TAa PK as)) (hs:starEach (e::es) X.env=(false,eval e X.env)::starEach es X.env:=by rfl):PA X (e::es) (TAa PK (ad i as)):=(bI ha hr hs).imp λσ H Q hz0=>by
 obtain ⟨pa,Aq,H₀,m,ρ,G,R,z⟩:=hz0
 refine TAe.then R z λm1 x v G1 H1 s1 w1 R1 d1 q1=>?_
 refine TAa.then R1 q1 λm2 xs vs G2 H2 s2 w2 R2 d2 q2=>?_
 exact q2 _ _ _ (s1.trans s2 w1.some) w2 (.cons (.d (d1.mono s2.gs)) d2)
theorem ce {k:Nat} (ha:PE X e (fA k)) (hr:PA X es (TAa PK as)) (hs:starEach (e::es) X.env=(false,eval e X.env)::starEach es X.env:=by rfl):PA X (e::es) (TAa PK (bC k as)):=(bI ha hr hs).imp λσ H Q hz0=>by
 obtain ⟨pa,Aq,H₀,m,ρ,G,R,z⟩:=hz0
 unfold bC at z
 split at z
 ·rename_i hk
  obtain ⟨o,h1,h2⟩:=R.sl k _ hk
  cases h2
  refine ⟨_,h1,?_⟩
  refine TAa.then R z λm2 xs vs G2 H2 s2 w2 R2 d2 q2=>?_
  exact q2 _ _ _ s2 w2 (.cons .pen d2)
 ·exact z.elim
def aSp (PK:Pk) (n:Nat) (f:Ad):Sp:=λvs H Q _=>vs.length=n/\∃ pa m G as,Wd PK pa m G H/\ArsOk pa G vs as/\(f as).ok m λm' r=>Kr PK pa m' G H r Q
noncomputable def av (f:Ad) (as:List Sl->Tr Ap):Ad:=λρ=>(as ρ).bind f
noncomputable def ay (f:Ad):z9:=λρ=>(f ρ).bind λr=>.ret r.val
def nw (PK:Pk) (i:Ad):TE:=λσ H Q=>∃ pa Aq H₀ m ρ G,Rl PK pa Aq H₀ m σ ρ G H/\(i ρ).ok m λm' r=>Kr PK pa m' G H r Q
theorem Kr.later {pa:Addr} {m:Nat} {G H G1 H1:Hp} {r:Re} {Q:VK} (k:Kr PK pa m G H r Q) (s:Stp pa G H G1 H1) (hp:∃ o,H1 pa=some o):Kr PK pa m G1 H1 r Q:=λv G' H' s' w' d=>by
 refine k v G' H' (s.trans s' hp) w' ?_
 cases r with
 | d x=>exact d
 | own xs =>
  obtain ⟨p,vs,e,h1,h2,h3,h4⟩:=d
  refine ⟨p,vs,e,h1,h2,?_,h4⟩
  cases e:H p with
  | none=>rfl
  | some u =>
   by_cases hc:p=pa
   ·subst hc
    obtain ⟨o,z⟩:=hp
    rw [h3] at z; cases z
   ·rw [s.hk p u e hc] at h3; cases h3
theorem Kr.of {pa:Addr} {m:Nat} {G H:Hp} {r:Re} {Q:VK} (k:Kn PK pa m G H r.val Q) (hp:∃ o,H pa=some o):Kr PK pa m G H r Q:=λv G' H' s w d=>by
 cases r with
 | d x=>exact k v G' H' s w d
 | own xs =>
  obtain ⟨p,vs,rfl,h1,h2,h3,h4⟩:=d
  exact Ko1.of k hp p vs G' H' s w h3 h2 h1 h4
theorem aG {f:Ad} (h:PE X e (nw PK f)):PE X e (TAe PK (ay f)):=h.imp (by
 intro σ H Q z
 obtain ⟨pa,Aq,H₀,m,ρ,G,R,z⟩:=z
 exact ⟨pa,Aq,H₀,m,ρ,G,R,Tr.ok_mono (Tr.ok_bind.mp z) λm1 r k=>Kr.of k R.wd.some⟩)
structure ACal (PK:Pk) (P:Program) (w:World) (K:zZ) (mg:Ao) (base:Heap) (x:Str) (k:Nat) (ps:Am) (f:Ad):Prop where
 cal:Callee P w K mg base x k ps (aSp PK ps.length f)
 len:∀ as m Z,(f as).ok m Z->as.length=ps.length
theorem Zqm {x:Str} {k:Nat} {ps:Am} {f:Ad} {pp:Pos} (C:ACal PK X.prog X.w X.K X.mg X.base x k ps f) (hr:Room k X.A) (hg:Gl X x) (ha:PA X (e::es) (TAa PK as))
  (hdb:(x == ("__debug__":Str))=false:=by decide)
  (he:starEach (e::es) X.env=(false,eval e X.env)::starEach es X.env:=by rfl) (hpl:(backTo pos (starEach es X.env)).any (·.1)=false:=by rfl):PE X (.Call (.Name x pp) (e::es) [] pos) (nw PK (av f as)) :=
 (oE C.cal hr hg ha hdb he hpl).imp λσ H Q hz0=>by
  obtain ⟨pa,Aq,H₀,m,ρ,G,R,z⟩:=hz0
  refine TAa.then R z λm1 xs vs G1 H1 s1 w1 R1 d1 q1=>?_
  show aSp PK ps.length f (vs++[]) H1 Q E0
  rw [wZ]
  exact ⟨by rw [d1.length]; exact C.len _ _ _ q1,pa,m1,G1,xs,w1,d1,Tr.ok_mono q1 λm2 r k=>Kr.later k s1 w1.some⟩
theorem aA {x:Str} {k n:Nat} {ps:Am} {f:Ad} {pp:Pos} (C:ACal PK X.prog X.w X.K X.mg X.base x k ps f) (hr:Room n X.A) (ha:PA X (e::es) (TAa PK as)) (hk:k<=n:=by decide) (hg:Gl X x:=by rfl) (hdb:(x == ("__debug__":Str))=false:=by decide) (he:starEach (e::es) X.env=(false,eval e X.env)::starEach es X.env:=by rfl) (hpl:(backTo pos (starEach es X.env)).any (·.1)=false:=by rfl):PE X (.Call (.Name x pp) (e::es) [] pos) (nw PK (av f as)):=Zqm C (hr.mono hk) hg ha hdb he hpl
end L2
set_option Elab.async false
set_option linter.all false
set_option maxRecDepth 100000
namespace L2
variable {PK:Pk} {X:Cx} {a b c e:Expr} {es:List Expr} {pos:Pos} {i j l:z9} {is:Aa} {as:List Sl->Tr Ap} {f:Ad} {p q:Ab} {st:Stmt} {sts:List Stmt} {s t u:Ac}
noncomputable def aj (s t:Ac):Ac:=λρ=>(s ρ).bind λo=>match o with
 | .next ρ'=>t ρ'
 | o=>.ret o
noncomputable def bY:Ac:=λρ=>.ret (.next ρ)
theorem Ko.later {pa:Addr} {Aq H₀ Gs G:Hp} {D:Ends} {m:Nat} {o:Ou} (k:Ko PK pa Aq H₀ Gs D m o) (sb:Sub Gs G):Ko PK pa Aq H₀ G D m o:=by
 cases o with
 | next ρ=>exact λσ G' H s R=>k σ G' H (λb o h=>s b o (sb b o h)) R
 | ret r=>exact k
 | brk ρ=>exact λσ G' H s R=>k σ G' H (λb o h=>s b o (sb b o h)) R
 | cont ρ=>exact λσ G' H s R=>k σ G' H (λb o h=>s b o (sb b o h)) R
theorem Sub.refl {G:Hp}:Sub G G:=λ_ _ h=>h
theorem Sub.trans {G G1 G2:Hp} (a:Sub G G1) (b:Sub G1 G2):Sub G G2:=λc o h=>b c o (a c o h)
theorem cG:PSs X [] (bO PK bY):=oy.imp λD σ H hz0=>by
 obtain ⟨pa,Aq,H₀,m,ρ,G,R,z⟩:=hz0
 exact z σ G H .refl R
theorem ZqE:∀ D σ H,bO PK (aj s t) D σ H->Zaw (bO PK s) (bO PK t) D σ H:=by
 rintro D σ H ⟨pa,Aq,H₀,m,ρ,G,R,z⟩
 refine ⟨pa,Aq,H₀,m,ρ,G,R,Tr.ok_mono (Tr.ok_bind.mp z) λm1 o k=>?_⟩
 cases o with
 | next ρ'=>exact λσ' G' H' sb R'=>⟨pa,Aq,H₀,m1,ρ',G',R',Tr.ok_mono k λ_ _ k'=>Ko.later k' sb⟩
 | ret r=>exact k
 | brk ρ'=>exact k
 | cont ρ'=>exact k
theorem ap (h1:PS X st (bO PK s)) (h2:PSs X sts (bO PK t)):PSs X (st::sts) (bO PK (aj s t)):=(eR h1 h2).imp ZqE
theorem aI (h1:PS X st (bO PK s)):PSs X [st] (bO PK s):=jq h1
noncomputable def vN:Ac:=λ_=>.fail
theorem ZiW:PS X st (bO PK vN):=λ_ _ _ _ _ _ h=>by
 obtain ⟨pa,Aq,H₀,m,ρ,G,R,z⟩:=h
 exact z.elim
noncomputable def lD (i:z9):Ac:=λρ=>(i ρ).bind λ_=>.ret (.next ρ)
theorem qx (he:PE X e (TAe PK i)) (hs:swapsWith e none pos.line X.env=pure false:=by rfl):PS X (.Expr e pos) (bO PK (lD i)):=(iC he hs).imp λD σ H hz0=>by
 obtain ⟨pa,Aq,H₀,m,ρ,G,R,z⟩:=hz0
 refine TAe.then R z λm1 x v G1 H1 s1 w1 R1 d1 q1=>?_
 exact q1 σ G1 H1 s1.gs R1
noncomputable def bg (i:z9):Ac:=λρ=>(i ρ).bind λx=>.ret (.ret (.d x))
theorem bq (he:PE X e (TAe PK i)):PS X (.Return (some e) pos) (bO PK (bg i)):=(gW he).imp λD σ H hz0=>by
 obtain ⟨pa,Aq,H₀,m,ρ,G,R,z⟩:=hz0
 refine TAe.then R z λm1 x v G1 H1 s1 w1 R1 d1 q1=>?_
 exact q1 v G1 H1 R1.st w1 d1
noncomputable def vL (is:Aa):Ac:=λρ=>(is ρ).bind λx=>.ret (.ret (.own x))
theorem Zqj (he:PE X e (fe PK is)):PS X (.Return (some e) pos) (bO PK (vL is)):=(gW he).imp λD σ H hz0=>by
 obtain ⟨pa,Aq,H₀,m,ρ,G,R,z⟩:=hz0
 refine ⟨pa,Aq,H₀,m,ρ,G,R,Tr.ok_mono (Tr.ok_bind.mp z) λm1 xs k p vs G1 H1 s1 w1 h1 h2 h3 h4=>?_⟩
 exact k (.ref p) G1 H1 (R.st.trans s1 R.wd.some) w1 ⟨p,vs,rfl,h3,h2,R.h0 h1,h4⟩
noncomputable def i6 (f:Ad):Ac:=λρ=>(f ρ).bind λr=>.ret (.ret r)
theorem ll (he:PE X e (nw PK f)):PS X (.Return (some e) pos) (bO PK (i6 f)):=(gW he).imp (by
 intro D σ H z
 obtain ⟨pa,Aq,H₀,m,ρ,G,R,z⟩:=z
 exact ⟨pa,Aq,H₀,m,ρ,G,R,Tr.ok_mono (Tr.ok_bind.mp z) λm1 r k=>Kr.later k R.st R.wd.some⟩)
noncomputable def ga (k:Nat):Ac:=λρ=>match ρ[k]? with
 | some (.d x)=>.ret (.ret (.d x))
 | some (.own xs)=>.ret (.ret (.own xs))
 | _=>.fail
theorem nh {k:Nat} (he:PE X e (fA k)):PS X (.Return (some e) pos) (bO PK (ga k)):=(gW he).imp λD σ H hz0=>by
 obtain ⟨pa,Aq,H₀,m,ρ,G,R,z⟩:=hz0
 unfold ga at z
 split at z
 ·rename_i x hx
  obtain ⟨o,h1,h2⟩:=R.sl k _ hx
  cases h2 with
  | d d1=>exact ⟨_,h1,z _ G H R.st R.wd d1⟩
 ·rename_i xs hx
  obtain ⟨o,h1,h2⟩:=R.sl k _ hx
  cases h2 with
  | own a1 a2 a3 a4=>exact ⟨_,h1,z _ G H R.st R.wd ⟨_,_,rfl,a1,a2,a3,a4⟩⟩
 ·exact z.elim
noncomputable def bZ (p:Ab) (s t:Ac):Ac:=λρ=>(p ρ).bind λx=>if x=true then s ρ else t ρ
theorem cH {xs ys:List Stmt} (hc:PT X c (TAt PK p)) (ha:PSs X xs (bO PK s)) (hb:PSs X ys (bO PK t)):PS X (.If c xs ys pos) (bO PK (bZ p s t)):=(oA hc ha hb).imp λD σ H hz0=>by
 obtain ⟨pa,Aq,H₀,m,ρ,G,R,z⟩:=hz0
 refine TAt.then R z λm1 x G1 H1 s1 w1 R1 q1=>?_
 cases x with
 | true=>rw [if_pos rfl] at q1 ⊢; exact ⟨pa,Aq,H₀,m1,ρ,G1,R1,Tr.ok_mono q1 λ_ _ k'=>Ko.later k' s1.gs⟩
 | false=>rw [if_neg wn] at q1 ⊢; exact ⟨pa,Aq,H₀,m1,ρ,G1,R1,Tr.ok_mono q1 λ_ _ k'=>Ko.later k' s1.gs⟩
noncomputable def aQ (k:Nat) (i:z9):Ac:=λρ=>(i ρ).bind λx=>.ret (.next (ρ.set k (.d x)))
theorem aV {k:Nat} (h:PS X st (fg (TAe PK i) (fq k))):PS X st (bO PK (aQ k i)):=h.imp λD σ H hz0=>by
 obtain ⟨pa,Aq,H₀,m,ρ,G,R,z⟩:=hz0
 refine TAe.then R z λm1 x v G1 H1 s1 w1 R1 d1 q1=>?_
 exact q1 _ G1 H1 s1.gs (R1.set d1 k)
noncomputable def gL (k:Nat) (is:Aa):Ac:=λρ=>(is ρ).bind λx=>.ret (.next (ρ.set k (.own x)))
theorem jI {k:Nat} (h:PS X st (fg (fe PK is) (fq k))):PS X st (bO PK (gL k is)):=h.imp λD σ H hz0=>by
 obtain ⟨pa,Aq,H₀,m,ρ,G,R,z⟩:=hz0
 refine ⟨pa,Aq,H₀,m,ρ,G,R,Tr.ok_mono (Tr.ok_bind.mp z) λm1 xs k' p vs G1 H1 s1 w1 h1 h2 h3 h4=>?_⟩
 exact k' _ G1 H1 s1.gs ((R.step s1 w1).setO h3 h2 (R.h0 h1) h4 (λn ys e=>R.apart h1 n ys e) k)
noncomputable def lE (f:Ag) (k:Nat) (i:z9):Ac:=λρ=>(aa k ρ).bind λx=>(i ρ).bind λy=>(Tr.of (f x y)).bind λz=>.ret (.next (ρ.set k (.d z)))
theorem vq {k:Nat} {r:R2} {g:Ag} (hv:cN r g) (h:PS X st (ZaD k (TAe PK i) r)):PS X st (bO PK (lE g k i)):=h.imp λD σ H hz0=>by
 obtain ⟨pa,Aq,H₀,m,ρ,G,R,z⟩:=hz0
 unfold lE aa at z
 split at z
 ·rename_i x hx
  obtain ⟨o,h1,h2⟩:=R.sl k _ hx
  cases h2 with
  | d d0 =>
   refine ⟨_,h1,?_⟩
   refine TAe.then R z λm1 y v G1 H1 s1 w1 R1 d1 q1=>?_
   rw [Tr.ok_bind] at q1
   obtain ⟨w,hw,q1⟩:=Tr.ok_of q1
   refine hv PK pa m1 G1 H1 _ v x y w _ w1 (d0.mono s1.gs) d1 hw λu G2 H2 s2 w2 d2=>?_
   exact q1 _ G2 H2 (s1.gs.trans s2.gs) ((R1.step s2 w2).set d2 k)
 ·exact z.elim
noncomputable def il (k:Nat) (i:z9):Ac:=λρ=>match ρ[k]? with
 | some (.own xs)=>(i ρ).bind λx=>if small (xs.length+1)=true then .ret (.next (ρ.set k (.own (xs++[x])))) else .fail
 | _=>.fail
theorem DnAll.snoc {H:Hp} {vs:An} {ds:Ai} {v:V} {d:PyData} (h:DnAll H vs ds) (h1:Dn H v d):DnAll H (vs++[v]) (ds++[d]):=h.append (.cons h1 .nil)
theorem lq {k:Nat} {K:zZ} {st:Stmt} (h:PS X st (rF (tBM K "list" Zcu (fA k) (fB (TAe PK i) aY)))):PS X st (bO PK (il k i)):=h.imp λD σ H hz0=>by
 obtain ⟨pa,Aq,H₀,m,ρ,G,R,z⟩:=hz0
 unfold il at z
 split at z
 ·rename_i xs hx
  obtain ⟨o,h1,h2⟩:=R.sl k _ hx
  cases h2 with
  | @own p vs _ a1 a2 a3 a4 =>
   refine ⟨_,h1,.inl ⟨rfl,_,SqL.of a1⟩,?_⟩
   refine TAe.then R z λm1 x v G1 H1 s1 w1 R1 d1 q1=>?_
   obtain ⟨hs,q1⟩:=gZ q1
   obtain ⟨o,h1',h2⟩:=R1.sl k _ hx
   rw [h1] at h1'
   cases h1'
   cases h2 with
   | @own _ vs1 _ b1 b2 b3 b4 =>
    have hs':xs.length+1<=sizeLine:=of_decide_eq_true hs
    refine ⟨p,vs1,v,rfl,rfl,b1,by rw [b4.length]; omega,?_⟩
    exact q1 σ G1 _ s1.gs (R1.change hx h1 (b4.snoc d1))
 ·exact z.elim
theorem DnAll.set {H:Hp}:∀ {vs:An} {ds:Ai} {v:V} {d:PyData} (n:Nat),DnAll H vs ds->Dn H v d->DnAll H (vs.set n v) (ds.set n d)
 | _,_,_,_,_,.nil,_=>.nil
 | _,_,_,_,0,.cons _ t,h=>.cons h t
 | _,_,_,_,n+1,.cons g t,h=>.cons g (DnAll.set n t h)
noncomputable def lz (k:Nat) (n i:z9):Ac:=λρ=>(i ρ).bind λx=>match ρ[k]? with
 | some (.own xs)=>(n ρ).bind λy=>match y with
  | .int y=>(Tr.of (db xs.length y)).bind λt=>.ret (.next (ρ.set k (.own (xs.set t x))))
  | _=>.fail
 | _=>.fail
theorem vp {k:Nat} {n:z9} (h:PS X st (fg (TAe PK i) (Zes (fA k) (TAe PK n) sV))):PS X st (bO PK (lz k n i)):=h.imp λD σ H hz0=>by
 obtain ⟨pa,Aq,H₀,m,ρ,G,R,z⟩:=hz0
 refine TAe.then R z λm1 x v G1 H1 s1 w1 R1 d1 q1=>?_
 split at q1
 ·rename_i xs hx
  obtain ⟨o,h1,h2⟩:=R1.sl k _ hx
  cases h2 with
  | @own p vs _ a1 a2 a3 a4 =>
   refine ⟨_,h1,?_⟩
   refine TAe.then R1 q1 λm2 y u G2 H2 s2 w2 R2 d2 q2=>?_
   obtain ⟨o,h1',h2⟩:=R2.sl k _ hx
   rw [h1] at h1'
   cases h1'
   cases h2 with
   | @own _ vs2 _ b1 b2 b3 b4 =>
    cases d2 with
    | int y =>
     rw [Tr.ok_bind] at q2
     obtain ⟨n',hn,q2⟩:=Tr.ok_of q2
     refine ⟨p,vs2,y,n',rfl,rfl,b1,by rw [b4.length]; exact hn,?_⟩
     exact q2 σ G2 _ (s1.gs.trans s2.gs) (R2.change hx h1 (b4.set n' (d1.mono s2.gs)))
    | _=>exact q2.elim
 ·exact q1.elim
theorem DnAll.reverse {H:Hp} {vs:An} {ds:Ai} (h:DnAll H vs ds):DnAll H vs.reverse ds.reverse:=by
 induction vs generalizing ds with
 | nil=>cases h; exact .nil
 | cons v vs ih=>cases h with | cons r t=>rw [yE,yE]; exact DnAll.append (ih t) (.cons r .nil)
noncomputable def qH (k:Nat):Ac:=λρ=>match ρ[k]? with
 | some (.own xs)=>.ret (.next (ρ.set k (.own xs.reverse)))
 | _=>.fail
theorem Zqi {k:Nat} {K:zZ} (h:PS X st (rF (ZaA K "list" Zcd (fA k)))):PS X st (bO PK (qH k)):=h.imp λD σ H hz0=>by
 obtain ⟨pa,Aq,H₀,m,ρ,G,R,z⟩:=hz0
 unfold qH at z
 split at z
 ·rename_i xs hx
  obtain ⟨o,h1,h2⟩:=R.sl k _ hx
  cases h2 with
  | @own p vs _ a1 a2 a3 a4 =>
   refine ⟨_,h1,.inl ⟨rfl,_,SqL.of a1⟩,p,vs,rfl,rfl,a1,?_⟩
   exact z σ G _ .refl (R.change hx h1 a4.reverse)
 ·exact z.elim
noncomputable def gN (k:Nat) (s:Ac):Ac:=λρ=>s (fz k ρ)
theorem lp {k:Nat} (h:PS X st (bO PK s)):PS X st (bO PK (gN k s)):=h.imp λD σ H hz0=>by
 obtain ⟨pa,Aq,H₀,m,ρ,G,R,z⟩:=hz0
 obtain ⟨G',sb,R'⟩:=R.freeze k
 exact ⟨pa,Aq,H₀,m,_,G',R',Tr.ok_mono z λ_ _ k'=>Ko.later k' sb⟩
def gf (PK:Pk) (g:Af):TG:=λv σ H Q=>∃ pa Aq H₀ m ρ G x ρ',Rl PK pa Aq H₀ m σ ρ G H/\Dn G v x/\g x ρ=some ρ'/\∀ σ',Rl PK pa Aq H₀ m σ' ρ' G H->Q σ' H
noncomputable def qN (PK:Pk) (g:Ae):im:=λvs σ H Q=>∃ pa Aq H₀ m ρ G xs ρ',Rl PK pa Aq H₀ m σ ρ G H/\DnAll G vs xs/\g xs ρ=some ρ'/\∀ σ',Rl PK pa Aq H₀ m σ' ρ' G H->Q σ' H
theorem PG.imp {tg:Expr} {t t':TG} (h:PG X tg t) (q:∀ v σ H Q,t' v σ H Q->t v σ H Q):PG X tg t':=λpins s σ H v u Q I r z=>h pins s σ H v u Q I r (q v σ H Q z)
theorem PGs.imp {tg:List Expr} {t t':im} (h:PGs X tg t) (q:∀ v σ H Q,t' v σ H Q->t v σ H Q):PGs X tg t':=λpins s σ H v u Q I r z=>h pins s σ H v u Q I r (q v σ H Q z)
noncomputable def ah (k:Nat):Af:=λx ρ=>some (ρ.set k (.d x))
theorem aL {k:Nat} (h:PG X e (fq k)):PG X e (gf PK (ah k)):=h.imp λv σ H Q hz0=>by
 obtain ⟨pa,Aq,H₀,m,ρ,G,x,ρ',R,d,e,q⟩:=hz0
 cases e
 exact q _ (R.set d k)
noncomputable def bf:Ae:=λxs ρ=>match xs with
 | []=>some ρ
 | _=>none
noncomputable def aw (g:Af) (gs:Ae):Ae:=λxs ρ=>match xs with
 | x::xs=>(g x ρ).bind λρ'=>gs xs ρ'
 | []=>none
theorem cI:PGs X [] (qN PK bf):=ZlA.imp λvs σ H Q hz0=>by
 obtain ⟨pa,Aq,H₀,m,ρ,G,xs,ρ',R,d,e,q⟩:=hz0
 cases d with
 | nil=>cases e; exact ⟨rfl,q _ R⟩
 | cons _ _=>cases e
theorem ba {g:Af} {gs:Ae} (h1:PG X e (gf PK g)) (h2:PGs X es (qN PK gs))
  (hs:(assignEach (e::es) X.env).map (·.2)=assign e X.env::(assignEach es X.env).map (·.2):=by rfl):PGs X (e::es) (qN PK (aw g gs)):=(ZlB h1 h2 hs).imp λvs σ H Q hz0=>by
 obtain ⟨pa,Aq,H₀,m,ρ,G,xs,ρ',R,d,e,q⟩:=hz0
 cases d with
 | nil=>cases e
 | cons d1 d2 =>
  have e':(g _ ρ).bind (λρ'=>gs _ ρ')=some ρ':=e
  cases h:g _ ρ with
  | none=>rw [h] at e'; cases e'
  | some ρ1 =>
   rw [h] at e'
   exact ⟨_,_,rfl,pa,Aq,H₀,m,ρ,G,_,ρ1,R,d1,h,λσ1 R1=>⟨pa,Aq,H₀,m,ρ1,G,_,ρ',R1,d2,e',q⟩⟩
noncomputable def bh (gs:Ae):Af:=λx ρ=>match x with
 | .tuple xs=>gs xs ρ
 | _=>none
def pO (n:Nat) (gs:Ae):Prop:=∀ xs ρ ρ',gs xs ρ=some ρ'->xs.length=n
theorem cF:pO 0 bf:=λxs ρ ρ' h=>by cases xs with | nil=>rfl | cons _ _=>cases h
theorem aZ {n:Nat} {g:Af} {gs:Ae} (h:pO n gs):pO (n+1) (aw g gs):=λxs ρ ρ' e=>by
 cases xs with
 | nil=>cases e
 | cons x xs =>
  have e':(g x ρ).bind (λρ'=>gs xs ρ')=some ρ':=e
  cases h1:g x ρ with
  | none=>rw [h1] at e'; cases e'
  | some ρ1 =>
   rw [h1] at e'
   exact congrArg (·+1) (h xs ρ1 ρ' e')
theorem cJ {k:Nat} {gs:Ae} {n:Nat} (hc:X.calm=true) (h:PGs X es (qN PK gs)) (hl:pO n gs)
  (hn:(assignEach es X.env).length=n:=by rfl) (hst:(assignEach es X.env).findIdx? (·.1)=none:=by rfl):PG X (.Tuple es k pos) (gf PK (bh gs)):=(ZlC hc h hn hst).imp λv σ H Q hz0=>by
 obtain ⟨pa,Aq,H₀,m,ρ,G,x,ρ',R,d,e,q⟩:=hz0
 cases d with
 | tup h1 h2=>exact ⟨_,_,rfl,SqT.of (R.wd.sub _ _ h1),by rw [h2.length]; exact hl _ _ _ e,pa,Aq,H₀,m,ρ,G,_,ρ',R,h2,e,q⟩
 | _=>cases e
noncomputable def di (g:Af) (i:z9):Ac:=λρ=>(i ρ).bind λx=>(Tr.of (g x ρ)).bind λρ'=>.ret (.next ρ')
theorem eY {g:Af} (h:PS X st (fg (TAe PK i) (gf PK g))):PS X st (bO PK (di g i)):=h.imp λD σ H hz0=>by
 obtain ⟨pa,Aq,H₀,m,ρ,G,R,z⟩:=hz0
 refine TAe.then R z λm1 x v G1 H1 s1 w1 R1 d1 q1=>?_
 rw [Tr.ok_bind] at q1
 obtain ⟨ρ',hg,q1⟩:=Tr.ok_of q1
 exact ⟨pa,Aq,H₀,m1,ρ,G1,x,ρ',R1,d1,hg,λσ' R'=>q1 σ' G1 H1 s1.gs R'⟩
noncomputable def jM (k n:Nat) (is:Aa):Ac:=λρ=>(is ρ).bind λxs=>match xs with
 | [x,y]=>.ret (.next ((ρ.set k (.d x)).set n (.d y)))
 | _=>.fail
theorem qw {k n:Nat} (h:PS X st (Zax k n (TAd PK is))):PS X st (bO PK (jM k n is)):=h.imp λD σ H hz0=>by
 obtain ⟨pa,Aq,H₀,m,ρ,G,R,z⟩:=hz0
 refine TAd.then R z λm1 xs vs G1 H1 s1 w1 R1 d1 q1=>?_
 split at q1
 ·cases d1 with
  | cons e1 d1 =>
   cases d1 with
   | cons e2 d1 =>
    cases d1
    exact ⟨_,_,rfl,q1 _ G1 H1 s1.gs ((R1.set e1 k).set e2 n)⟩
 ·exact q1.elim
def jR (PK:Pk) (pa:Addr) (J:It) (G:Hp) (xs:Ai):Prop:=∀ m G2 H2,Sub G G2->Wd PK pa m G2 H2 ->
 (∀ (n:Nat) (d:PyData),xs[n]?=some d->J.go n H2/\∀ x H3,J.yld n H2 x H3->∃ G3,Stp pa G2 H2 G3 H3/\Wd PK pa m G3 H3/\Dn G3 x d)/\J.stop xs.length H2
def fu (PK:Pk) (is:Aa):TI:=λσ H R=>∃ pa Aq H₀ m ρ G,Rl PK pa Aq H₀ m σ ρ G H/\(is ρ).ok m λm' xs=>∀ J G' H',Stp pa G H G' H'->Wd PK pa m' G' H'->jR PK pa J G' xs->R J H'
theorem PI.imp {tg iter:Expr} {t t':TI} (h:PI X tg iter t) (q:∀ σ H R,t' σ H R->t σ H R):PI X tg iter t':=λpins s σ H R I z=>h pins s σ H R I (q σ H R z)
noncomputable def bT (g:Af) (s:Ac):List PyData->List Sl->Tr Ou
 | [],ρ=>.ret (.next ρ)
 | x::xs,ρ=>(Tr.of (g x ρ)).bind λρ1=>(s ρ1).bind λo=>match o with
  | .next ρ2=>bT g s xs ρ2
  | .cont ρ2=>bT g s xs ρ2
  | .brk ρ2=>.ret (.next ρ2)
  | .ret r=>.ret (.ret r)
noncomputable def cZ (is:Aa) (g:Af) (s:Ac):Ac:=λρ=>(is ρ).bind λxs=>bT g s xs ρ
theorem dD {tg iter:Expr} {body:List Stmt} {g:Af} (hp:PassesOwn (model X.prog X.w) X.A X.env X.xe) (hc:X.calm=true) (hi:PI X tg iter (fu PK is)) (hg:PG X tg (gf PK g)) (hb:PSs X body (bO PK s))
  (hs:∀ x,foldedSetIterable iter X.env x=pure x:=by intro _; rfl):PS X (.For tg iter body [] pos) (bO PK (cZ is g s)):=(Zlt hp hc hi hg hb hs).imp λD σ H hz0=>by
 obtain ⟨pa,Aq,H₀,m,ρ,G,R,z⟩:=hz0
 refine ⟨pa,Aq,H₀,m,ρ,G,R,Tr.ok_mono (Tr.ok_bind.mp z) λm1 xs k J G1 H1 s1 w1 jo=>?_⟩
 let W:Nat->Nat->St->Hp->Prop:=λn mm σ H=>mm=xs.length - n/\n<=xs.length/\∃ m ρ G,Sub G1 G/\Rl PK pa Aq H₀ m σ ρ G H/\(bT g s (xs.drop n) ρ).ok m (Ko PK pa Aq H₀ G1 D)
 refine ⟨W,⟨xs.length,rfl,xz _,m1,ρ,G1,λ_ _ h=>h,R.step s1 w1,Tr.ok_mono k λ_ _ k'=>Ko.later k' s1.gs⟩,?_⟩
 rintro n mm σ2 H2 ⟨rfl,hn,m2,ρ2,G2,sb,R2,k2⟩
 obtain ⟨j1,j2⟩:=jo m2 G2 H2 sb R2.wd
 by_cases hlt:n < xs.length
 ·have hx:xs[n]?=some xs[n]:=by simp [hlt]
  obtain ⟨jg,jy⟩:=j1 n _ hx
  refine .inr ⟨jg,W (n+1) (xs.length - (n+1)),λσ' H' h'=>⟨_,by omega,h'⟩,λx H3 y=>?_⟩
  obtain ⟨G3,s3,w3,d3⟩:=jy x H3 y
  rw [xn hlt] at k2
  unfold bT at k2
  rw [Tr.ok_bind] at k2
  obtain ⟨ρ3,hg3,k3⟩:=Tr.ok_of k2
  refine ⟨pa,Aq,H₀,m2,ρ2,G3,_,ρ3,R2.step s3 w3,d3,hg3,λσ4 R4=>?_⟩
  refine ⟨pa,Aq,H₀,m2,ρ3,G3,R4,Tr.ok_mono (Tr.ok_bind.mp k3) λm5 o ko=>?_⟩
  have again:∀ ρ5,(bT g s (xs.drop (n+1)) ρ5).ok m5 (Ko PK pa Aq H₀ G1 D)->∀ σ5 G5 H5,Sub G3 G5->Rl PK pa Aq H₀ m5 σ5 ρ5 G5 H5->W (n+1) (xs.length - (n+1)) σ5 H5:=λρ5 k5 σ5 G5 H5 sb5 R5 =>
   ⟨rfl,hlt,m5,ρ5,G5,(sb.trans s3.gs).trans sb5,R5,k5⟩
  cases o with
  | next ρ5=>exact again ρ5 ko
  | cont ρ5=>exact again ρ5 ko
  | brk ρ5=>exact λσ5 G5 H5 sb5 R5=>ko σ5 G5 H5 ((sb.trans s3.gs).trans sb5) R5
  | ret r=>exact ko
 ·have e:n=xs.length:=by omega
  subst e
  refine .inl ⟨j2,?_⟩
  rw [yN] at k2
  exact k2 σ2 G2 H2 sb R2
end L2
set_option Elab.async false
set_option linter.all false
set_option maxRecDepth 100000
namespace L2
variable {PK:Pk} {X:Cx} {a b c e:Expr} {es:List Expr} {pos:Pos} {i j l:z9} {is:Aa} {as:List Sl->Tr Ap} {f:Ad} {p q:Ab} {st:Stmt} {sts:List Stmt} {s t u:Ac}
noncomputable def cX (p:Ab) (s:Ac):Nat->List Sl->Tr Ou
 | 0,_=>.fail
 | n+1,ρ=>(p ρ).bind λb=>if b=true then (s ρ).bind λo=>match o with
   | .next ρ2=>cX p s n ρ2
   | .cont ρ2=>cX p s n ρ2
   | .brk ρ2=>.ret (.next ρ2)
   | .ret r=>.ret (.ret r)
  else .ret (.next ρ)
theorem qv {body:List Stmt} (n:Nat) (hp:PassesOwn (model X.prog X.w) X.A X.env X.xe) (hc:PT X c (TAt PK p)) (hb:PSs X body (bO PK s)):PS X (.While c body [] pos) (bO PK (cX p s n)):=(Zlr hp hc hb).imp λD σ H hz0=>by
 obtain ⟨pa,Aq,H₀,m,ρ,G,R,z⟩:=hz0
 let W:Nat->St->Hp->Prop:=λn σ H=>∃ m ρ G1,Sub G G1/\Rl PK pa Aq H₀ m σ ρ G1 H/\(cX p s n ρ).ok m (Ko PK pa Aq H₀ G D)
 refine ⟨W,⟨n,m,ρ,G,.refl,R,z⟩,?_⟩
 rintro n σ2 H2 ⟨m2,ρ2,G2,sb,R2,k2⟩
 cases n with
 | zero=>exact k2.elim
 | succ n =>
  unfold cX at k2
  refine TAt.then R2 k2 λm3 x G3 H3 s3 w3 R3 k3=>?_
  cases x with
  | false =>
   rw [if_neg wn] at k3 ⊢
   exact k3 σ2 G3 H3 (sb.trans s3.gs) R3
  | true =>
   rw [if_pos rfl] at k3 ⊢
   refine ⟨W n,λσ' H' h=>⟨n,by omega,h⟩,pa,Aq,H₀,m3,ρ2,G3,R3,Tr.ok_mono (Tr.ok_bind.mp k3) λm4 o ko=>?_⟩
   have again:∀ ρ5,(cX p s n ρ5).ok m4 (Ko PK pa Aq H₀ G D)->∀ σ5 G5 H5,Sub G3 G5->Rl PK pa Aq H₀ m4 σ5 ρ5 G5 H5->W n σ5 H5:=λρ5 k5 σ5 G5 H5 sb5 R5 =>
    ⟨m4,ρ5,G5,(sb.trans s3.gs).trans sb5,R5,k5⟩
   cases o with
   | next ρ5=>exact again ρ5 ko
   | cont ρ5=>exact again ρ5 ko
   | brk ρ5=>exact λσ5 G5 H5 sb5 R5=>ko σ5 G5 H5 ((sb.trans s3.gs).trans sb5) R5
   | ret r=>exact ko
noncomputable def qo:Sl->Sl
 | .own _=>.un
 | .dic _=>.un
 | s=>s
noncomputable def blk (n:Nat) (ix:List Nat) (ρ:Ap):Ap:=List.replicate n .un++ix.map λj=>qo ((ρ[j]?).getD .un)
theorem Rl.blk {pa:Addr} {Aq H₀ G H:Hp} {m:Nat} {σ:St} {ρ:Ap} (R:Rl PK pa Aq H₀ m σ ρ G H) (n:Nat) (ix:List Nat):Rl PK pa Aq H₀ m (dL n ix σ) (blk n ix ρ) G H:=by
 have key:∀ (k:Nat) (s:Sl),(L2.blk n ix ρ)[k]?=some s->(∃ o,(dL n ix σ)[k]?=some o/\SlOk pa H₀ G H o s)/\(∀ xs,s≠.own xs)/\∀ xs,s≠.dic xs:=λk s h=>by
  unfold L2.blk at h
  unfold dL
  by_cases hk:k < n
  ·rw [wS (by simpa using hk),wN,if_pos hk] at h
   rw [wS (by simpa using hk),wN,if_pos hk]
   cases h
   exact ⟨⟨_,rfl,.un⟩,(λxs h=>by cases h),λxs h=>by cases h⟩
  ·rw [wM (by simpa using yq hk),xU,v9] at h
   rw [wM (by simpa using yq hk),xU,v9]
   cases hj:ix[k - n]? with
   | none=>rw [hj] at h; cases h
   | some j =>
    rw [hj] at h
    have h':qo ((ρ[j]?).getD .un)=s:=wJ h
    subst h'
    show (∃ o,some ((σ[j]?).getD none)=some o/\_)/\_
    cases hr:ρ[j]? with
    | none=>exact ⟨⟨_,rfl,.un⟩,(λxs h=>by cases h),λxs h=>by cases h⟩
    | some s' =>
     obtain ⟨o,h1,h2⟩:=R.sl j s' hr
     rw [h1]
     cases h2 with
     | un=>exact ⟨⟨_,rfl,.un⟩,(λxs h=>by cases h),λxs h=>by cases h⟩
     | d z=>exact ⟨⟨_,rfl,.d z⟩,(λxs h=>by cases h),λxs h=>by cases h⟩
     | own _ _ _ _=>exact ⟨⟨_,rfl,.un⟩,(λxs h=>by cases h),λxs h=>by cases h⟩
     | dic _ _ _ _=>exact ⟨⟨_,rfl,.un⟩,(λxs h=>by cases h),λxs h=>by cases h⟩
     | pen=>exact ⟨⟨_,rfl,.pen⟩,(λxs h=>by cases h),λxs h=>by cases h⟩
 refine ⟨R.wd,R.st,R.p0,λk s h=>(key k s h).1,?_,λk n' xs ys _ h1 _=>absurd rfl ((key k _ h1).2.1 xs),λk n' xs ys _ h1 _=>absurd rfl ((key k _ h1).2.2 xs)⟩
 unfold L2.blk dL
 simp
def io (n:Nat) (g:Af):Prop:=∀ x ρ ρ',g x ρ=some ρ'->ρ'.length=ρ.length/\∀ k,n<=k->ρ'[k]?=ρ[k]?
def qO (n:Nat) (g:Ae):Prop:=∀ x ρ ρ',g x ρ=some ρ'->ρ'.length=ρ.length/\∀ k,n<=k->ρ'[k]?=ρ[k]?
theorem cQ {n k:Nat} (h:k < n):io n (ah k):=λx ρ ρ' e=>by
 cases e
 exact ⟨wY,λj hj=>wv (by omega)⟩
theorem kg {n:Nat}:qO n bf:=λx ρ ρ' e=>by
 cases x with
 | nil=>cases e; exact ⟨rfl,λ_ _=>rfl⟩
 | cons _ _=>cases e
theorem fF {n:Nat} {g:Af} {gs:Ae} (h1:io n g) (h2:qO n gs):qO n (aw g gs):=λx ρ ρ' e=>by
 cases x with
 | nil=>cases e
 | cons x xs =>
  have e':(g x ρ).bind (λρ'=>gs xs ρ')=some ρ':=e
  cases h:g x ρ with
  | none=>rw [h] at e'; cases e'
  | some ρ1 =>
   rw [h] at e'
   obtain ⟨a1,a2⟩:=h1 x ρ ρ1 h
   obtain ⟨b1,b2⟩:=h2 xs ρ1 ρ' e'
   exact ⟨b1.trans a1,λk hk=>(b2 k hk).trans (a2 k hk)⟩
theorem ke {n:Nat} {gs:Ae} (h2:qO n gs):io n (bh gs):=λx ρ ρ' e=>by
 cases x with
 | tuple xs=>exact h2 xs ρ ρ' e
 | _=>cases e
noncomputable def bG (h:PyData->Tr PyData):List PyData->Tr Ai
 | []=>.ret []
 | x::xs=>(h x).bind λy=>(bG h xs).bind λys=>.ret (y::ys)
noncomputable def dh (is:Aa) (n:Nat) (ix:List Nat) (g:Af) (el:z9):Aa:=λρ =>
 (is ρ).bind λxs=>if small xs.length=true then bG (λx=>(Tr.of (g x (blk n ix ρ))).bind el) xs else .fail
theorem Rl.weak {pa:Addr} {Aq H₀ G H:Hp} {m:Nat} {σ:St} {ρ ρ':Ap} (R:Rl PK pa Aq H₀ m σ ρ' G H) (hl:ρ'.length=ρ.length) (h:∀ (k:Nat) (s:Sl),ρ[k]?=some s->s=.un\/ρ'[k]?=some s):Rl PK pa Aq H₀ m σ ρ G H:=by
 refine ⟨R.wd,R.st,R.p0,λk s hk=>?_,hl.symm.trans R.len,λk n xs ys hkn h1 h2=>?_,λk n xs ys hkn h1 h2=>?_⟩
 ·rcases h k s hk with e | e
  ·subst e
   have hlt:k < σ.length:=by
    rw [<- R.len,hl]
    exact (we.mp hk).1
   exact ⟨σ[k],by simp [hlt],.un⟩
  ·exact R.sl k s e
 ·rcases h k _ h1 with e | e
  ·cases e
  ·rcases h n _ h2 with e' | e'
   ·cases e'
   ·exact R.dj k n xs ys hkn e e'
 ·rcases h k _ h1 with e | e
  ·cases e
  ·rcases h n _ h2 with e' | e'
   ·cases e'
   ·exact R.dj2 k n xs ys hkn e e'
theorem ZdW {n:Nat} {ix:List Nat} {g:Af} (hn:io n g):∀ σ H Q,fe PK (dh is n ix g i) σ H Q->lO (fu PK is) n ix (λ_=>gf PK g) (λ_=>TAe PK i) σ H Q:=by
 rintro σ H Q ⟨pa,Aq,H₀,m,ρ,G,R,z⟩
 refine ⟨pa,Aq,H₀,m,ρ,G,R,Tr.ok_mono (Tr.ok_bind.mp z) λm1 xs k J G1 H1 s1 w1 jo=>λB=>?_⟩
 obtain ⟨hs,k⟩:=gZ k
 have hs:xs.length<=sizeLine:=of_decide_eq_true hs
 let el:PyData->Tr PyData:=λx=>(Tr.of (g x (blk n ix ρ))).bind i
 let W:Nat->Nat->St->List V->Hp->Prop:=λk mm τ ys H2=>mm=xs.length - k/\k<=xs.length/\ys.length=k/\∃ m G2 ds,Sub G1 G2/\Stp pa G H G2 H2/\Rl PK pa Aq H₀ m τ (blk n ix ρ) G2 H2 /\
  DnAll G2 ys ds/\(bG el (xs.drop k)).ok m λm' zs=>Ko1 PK pa m' G H (ds++zs) Q
 refine ⟨W,⟨xs.length,rfl,xz _,rfl,m1,G1,[],.refl,s1,(R.step s1 w1).blk n ix,.nil,k⟩,?_⟩
 rintro k mm τ ys H2 ⟨rfl,hk,hy,m2,G2,ds,sb,st2,R2,dn,k2⟩
 obtain ⟨j1,j2⟩:=jo m2 G2 H2 sb R2.wd
 by_cases hlt:k < xs.length
 ·have hx:xs[k]?=some xs[k]:=by simp [hlt]
  obtain ⟨jg,jy⟩:=j1 k _ hx
  refine .inr ⟨jg,by omega,λx H3 y=>?_⟩
  obtain ⟨G3,s3,w3,d3⟩:=jy x H3 y
  rw [xn hlt] at k2
  unfold bG at k2
  rw [Tr.ok_bind,Tr.ok_bind] at k2
  obtain ⟨ρ3,hg3,k3⟩:=Tr.ok_of k2
  refine ⟨pa,Aq,H₀,m2,_,G3,_,ρ3,R2.step s3 w3,d3,hg3,λτ4 R4=>?_⟩
  refine ⟨pa,Aq,H₀,m2,ρ3,G3,R4,Tr.ok_mono k3 λm5 yd k5=>?_⟩
  intro v G5 H5 s5 w5 d5
  have s35:=s3.trans s5 w3.some
  obtain ⟨pl,pk⟩:=hn _ _ _ hg3
  refine ⟨xs.length - (k+1),by omega,rfl,hlt,by rw [wx,hy]; rfl,m5,G5,ds++[yd],sb.trans s35.gs,st2.trans s35 R2.wd.some,?_,(DnAll.mono s35.gs dn).snoc d5,?_⟩
  ·refine (R4.step s5 w5).weak pl λq sl hq=>?_
   by_cases hqn:q < n
   ·left
    unfold blk at hq
    rw [wS (by simpa using hqn),wN,if_pos hqn] at hq
    cases hq
    rfl
   ·right
    rw [pk q (yq hqn)]
    exact hq
  ·refine Tr.ok_mono (Tr.ok_bind.mp k5) λm6 zs k6=>?_
   rw [xx]
   exact k6
 ·have e:k=xs.length:=by omega
  subst e
  refine .inl ⟨j2,λp v H' hp ev eH=>?_⟩
  subst ev eH
  rw [yN] at k2
  have k2':Ko1 PK pa m2 G H (ds++[]) Q:=k2
  rw [wZ] at k2'
  exact (Ko1.later k2' st2 R2.wd.some).new R2.wd dn hp
theorem fP {n:Nat} {ix:List Nat} {g:Af} (h:PE X e (lO (fu PK is) n ix (λ_=>gf PK g) (λ_=>TAe PK i))) (hn:io n g):PE X e (fe PK (dh is n ix g i)):=h.imp (ZdW hn)
theorem ZaE {te te':TE} {g:TG} (h:∀ σ H Q,te' σ H Q->te σ H Q):∀ D σ H,fg te' g D σ H->fg te g D σ H:=λD σ H z=>h σ H _ z
noncomputable def pR:Ou->Tr Re
 | .next _=>.ret (.d .none)
 | .ret r=>.ret r
 | _=>.fail
noncomputable def bo (n k:Nat) (s:Ac):Ad:=λas=>if decide (as.length=n)=true then (s (as++List.replicate k .un)).bind pR else .fail
theorem Rl.start {pa:Addr} {G H:Hp} {m:Nat} {N:Am} {vs:An} {as:Ap} {k:Nat} (w:Wd PK pa m G H) (ar:ArsOk pa G vs as) (hk:N.length - vs.length=k):Rl PK pa G H m (L2.start N vs) (as++List.replicate k .un) G H:=by
 have key:∀ {vs:An} {as:Ap},ArsOk pa G vs as->∀ (q:Nat) (s:Sl),as[q]?=some s->(∃ o,(vs.map some)[q]?=some o/\SlOk pa H G H o s)/\(∀ xs,s≠.own xs)/\∀ xs,s≠.dic xs:=by
  intro vs as h
  induction h with
  | nil=>intro q s h; simp at h
  | cons h1 h2 ih =>
   intro q s h
   cases q with
   | zero =>
    simp at h
    subst h
    cases h1 with
    | d z=>exact ⟨⟨_,rfl,.d z⟩,(λxs h=>by cases h),λxs h=>by cases h⟩
    | pen=>exact ⟨⟨_,rfl,.pen⟩,(λxs h=>by cases h),λxs h=>by cases h⟩
   | succ q =>
    obtain ⟨⟨o,p1,p2⟩,p3⟩:=ih q s (by simpa using h)
    exact ⟨⟨o,by simpa using p1,p2⟩,p3⟩
 have hl:=ar.length
 have key2:∀ (q:Nat) (s:Sl),(as++List.replicate k .un)[q]?=some s->(∃ o,(L2.start N vs)[q]?=some o/\SlOk pa H G H o s)/\(∀ xs,s≠.own xs)/\∀ xs,s≠.dic xs:=λq s h=>by
  unfold L2.start
  by_cases hq:q < as.length
  ·rw [wS hq] at h
   rw [wS (by rw [v7,hl]; exact hq)]
   exact key ar q s h
  ·rw [wM (by omega),wN] at h
   rw [wM (by rw [v7]; omega),wN,v7,hl]
   split at h
   ·rename_i hq2
    cases h
    rw [if_pos (by omega)]
    exact ⟨⟨_,rfl,.un⟩,(λxs h=>by cases h),λxs h=>by cases h⟩
   ·cases h
 refine ⟨w,.refl,w.some,λq s h=>(key2 q s h).1,?_,λq n xs ys _ h1 _=>absurd rfl ((key2 q _ h1).2.1 xs),λq n xs ys _ h1 _=>absurd rfl ((key2 q _ h1).2.2 xs)⟩
 unfold L2.start
 simp [hl,hk]
 omega
theorem bD {P:Program} {w:World} {K:zZ} {mg:Ao} {base:Heap} {x:Str} {N ps:Am} {kk k:Nat} (D:Def K mg x st ps) (S:FnScope N ps (aP st)) (hk:N.length - ps.length=k)
  (hbody:∀ (f:Addr) (cdv:Value) (A:Around) (outer:List Env) (sh:Shared) (H:Hp) (E:XK),Room kk (A.deeper (envOfC x (aP st) sh.heap.objs.size f cdv)) ->
   PSs (ie iq P w K mg base N x (aP st) f cdv A outer sh H E).nox (gJ st) (bO PK s)):ACal PK P w K mg base x (kk+1) ps (bo ps.length k s):=by
 have len:∀ as m Z,(bo ps.length k s as).ok m Z->as.length=ps.length:=λas m Z h=>by
  unfold bo at h
  exact of_decide_eq_true (gZ h).1
 refine ⟨D.ok S (λvs H Q E h=>h.1) λf cdv A outer sh H vs Q E hr hsp=>?_,len⟩
 obtain ⟨hv,pa,m,G,as,wd,ar,z⟩:=hsp
 refine ⟨_,hbody f cdv A outer sh H E hr,?_⟩
 unfold bo at z
 obtain ⟨_,z⟩:=gZ z
 refine ⟨pa,G,H,m,_,G,Rl.start wd ar (by rw [hv]; exact hk),Tr.ok_mono (Tr.ok_bind.mp z) λm1 o ko=>?_⟩
 cases o with
 | next ρ=>exact λσ G1 H1 sb R1=>ko .non G1 H1 R1.st R1.wd .non
 | ret r=>exact ko
 | brk ρ=>exact ko.elim
 | cont ρ=>exact ko.elim
theorem Zlz {tg l:Expr} {tl:TE} (hl:PE X l tl):PI X tg l (λσ H R=>tl σ H λx H1=>∃ a,x=.ref a/\((∃ xs,SqL X.K H1 a xs/\R (v3 X.K a) H1)\/(∃ xs,SqT X.K H1 a xs/\R (vZ X.K a) H1))):=by
 intro pins s σ H R I h
 refine thn (hl pins s σ H _ I h) λv s1 hz0=>?_
 obtain ⟨x,H1,I1,r1,q1⟩:=hz0
 obtain ⟨a,e,q⟩:=q1
 subst e
 cases r1
 rcases q with ⟨xs,hq,q⟩ | ⟨xs,hq,q⟩
 ·obtain ⟨its,rv,p,hz⟩:=I1.list hq
  refine wpAny_pyIter_list p.isList ?_
  refine ⟨s1.heap.objs.size,[s1.heap.objs.size],_,_,H1,rfl,I1.kept (t':=s1.toks) λb o e=>v6 _ e,ZjD a _,⟨_,wc _ rfl,rfl,rfl⟩,λb hb=>?_,q⟩
  have e:b=s1.heap.objs.size:=by simpa using hb
  subst e
  exact I1.fpOk (wa _) (I1.hok.fresh (wa _))
 ·obtain ⟨its,rv,p,hz⟩:=I1.tuple hq
  refine wpAny_pyIter_tuple (show s1.heap.IsTuple a its.toArray from p) ?_
  refine ⟨s1.heap.objs.size,[s1.heap.objs.size],_,_,H1,rfl,I1.kept (t':=s1.toks) λb o e=>v6 _ e,ZjA a _,⟨_,wc _ rfl,rfl,rfl⟩,λb hb=>?_,q⟩
  have e:b=s1.heap.objs.size:=by simpa using hb
  subst e
  exact I1.fpOk (wa _) (I1.hok.fresh (wa _))
theorem DnAll.get {H:Hp}:∀ {vs:An} {ds:Ai} (n:Nat) {d:PyData},DnAll H vs ds->ds[n]?=some d->∃ v,vs[n]?=some v/\Dn H v d
 | _,_,_,_,.nil,e=>by simp at e
 | _,_,0,_,.cons g t,e=>by simp at e; subst e; exact ⟨_,rfl,g⟩
 | _,_,n+1,_,.cons g t,e=>by
  obtain ⟨v,h1,h2⟩:=DnAll.get n t (by simpa using e)
  exact ⟨v,by simpa using h1,h2⟩
theorem Znr {K:zZ} {pa a:Addr} {G:Hp} {vs:An} {xs:Ai} (h:G a=some (.lst vs)) (d:DnAll G vs xs):jR PK pa (v3 K a) G xs:=λm G2 H2 sb w=>by
 have hq:SqL K H2 a vs:=SqL.of (w.sub _ _ (sb _ _ h))
 refine ⟨λn x hx=>?_,vs,hq,by rw [d.length]; exact wa _⟩
 obtain ⟨v,hv,dv⟩:=d.get n hx
 refine ⟨⟨vs,v,hq,hv⟩,λy H3 hz0=>?_⟩
 obtain ⟨e,hy⟩:=hz0
 subst e
 have:=hy vs hq
 rw [hv] at this
 cases this
 exact ⟨G2,.refl,w,dv.mono sb⟩
theorem Znp {K:zZ} {pa a:Addr} {G:Hp} {vs:An} {xs:Ai} (h:G a=some (.tup vs)) (d:DnAll G vs xs):jR PK pa (vZ K a) G xs:=λm G2 H2 sb w=>by
 have hq:SqT K H2 a vs:=SqT.of (w.sub _ _ (sb _ _ h))
 refine ⟨λn x hx=>?_,vs,hq,by rw [d.length]; exact wa _⟩
 obtain ⟨v,hv,dv⟩:=d.get n hx
 refine ⟨⟨vs,v,hq,hv⟩,λy H3 hz0=>?_⟩
 obtain ⟨e,hy⟩:=hz0
 subst e
 have:=hy vs hq
 rw [hv] at this
 cases this
 exact ⟨G2,.refl,w,dv.mono sb⟩
noncomputable def gI:PyData->Option Ai
 | .list xs=>some xs
 | .tuple xs=>some xs
 | _=>none
@[simp] theorem Zrt (xs:Ai):gI (.list xs)=some xs:=rfl
@[simp] theorem Zrs (xs:Ai):gI (.tuple xs)=some xs:=rfl
noncomputable def dF (i:z9):Aa:=λρ=>(i ρ).bind λx=>Tr.of (gI x)
theorem e9 {tg l:Expr} (hl:PE X l (TAe PK i)):PI X tg l (fu PK (dF i)):=(Zlz hl).imp λσ H R0 hz0=>by
 obtain ⟨pa,Aq,H₀,m,ρ,G,R,z⟩:=hz0
 refine TAe.then R z λm1 x v G1 H1 s1 w1 R1 d1 q1=>?_
 obtain ⟨xs,hx,q1⟩:=Tr.ok_of q1
 cases d1 with
 | lst h1 h2=>cases hx; exact ⟨_,rfl,.inl ⟨_,SqL.of (w1.sub _ _ h1),q1 _ G1 H1 s1 w1 (Znr h1 h2)⟩⟩
 | tup h1 h2=>cases hx; exact ⟨_,rfl,.inr ⟨_,SqT.of (w1.sub _ _ h1),q1 _ G1 H1 s1 w1 (Znp h1 h2)⟩⟩
 | _=>cases hx
noncomputable def aN (lo hi:Int):Ai:=(ak lo (hi - lo).toNat).map PyData.int
theorem Zd4 {pa:Addr} {G:Hp} {lo:Int} {n:Nat}:jR PK pa (jS lo n) G ((ak lo n).map PyData.int):=λm G2 H2 sb w=>by
 refine ⟨λk x hx=>?_,by show n<=_; rw [v7,dU]; exact wa _⟩
 have hk:k < n:=by
  have:=(we.mp hx).1
  rwa [v7,dU] at this
 refine ⟨hk,λy H3 hz0=>?_⟩
 obtain ⟨e1,e2⟩:=hz0
 subst e1 e2
 have:x=.int (lo+k):=by
  unfold ak at hx
  simp [hk] at hx
  exact hx.symm
 subst this
 exact ⟨G2,.refl,w,.int _⟩
noncomputable def fY (n:Int):Bool:=decide (-(2 ^ 62)<=n/\n < 2 ^ 62)
noncomputable def me:List PyData->Option Ai
 | [.int n]=>if fY n=true then some (aN 0 n) else none
 | _=>none
noncomputable def kb:List PyData->Option Ai
 | [.int k,.int n]=>if (fY k && fY n)=true then some (aN k n) else none
 | _=>none
noncomputable def f9 (is:Aa):Aa:=λρ=>(is ρ).bind λxs=>Tr.of (me xs)
noncomputable def lA (is:Aa):Aa:=λρ=>(is ρ).bind λxs=>Tr.of (kb xs)
theorem Zk2 {G:Hp} {vs:An} {xs ys:Ai} (d:DnAll G vs xs) (h:me xs=some ys):∃ n:Int,vs=[.int n]/\-(2 ^ 62)<=n/\n < 2 ^ 62/\ys=aN 0 n:=by
 unfold me at h
 split at h
 ·rename_i n
  split at h
  ·rename_i hn
   cases h
   cases d with
   | cons d1 d2 =>
    cases d2
    cases d1
    have:=of_decide_eq_true hn
    exact ⟨n,rfl,this.1,this.2,rfl⟩
  ·cases h
 ·cases h
theorem Zb1 {G:Hp} {vs:An} {xs ys:Ai} (d:DnAll G vs xs) (h:kb xs=some ys):∃ k n:Int,vs=[.int k,.int n]/\(-(2 ^ 62)<=k/\k < 2 ^ 62/\-(2 ^ 62)<=n/\n < 2 ^ 62)/\ys=aN k n:=by
 unfold kb at h
 split at h
 ·rename_i k n
  split at h
  ·rename_i hn
   cases h
   cases d with
   | cons d1 d2 =>
    cases d2 with
    | cons d2 d3 =>
     cases d3
     cases d1
     cases d2
     rw [wD] at hn
     have h1:=of_decide_eq_true hn.1
     have h2:=of_decide_eq_true hn.2
     exact ⟨k,n,rfl,⟨h1.1,h1.2,h2.1,h2.2⟩,rfl⟩
  ·cases h
 ·cases h
theorem ij {tg e:Expr} (h:PI X tg e (Zei (TAd PK is))):PI X tg e (fu PK (f9 is)):=h.imp λσ H R0 hz0=>by
 obtain ⟨pa,Aq,H₀,m,ρ,G,R,z⟩:=hz0
 refine TAd.then R z λm1 xs vs G1 H1 s1 w1 R1 d1 q1=>?_
 obtain ⟨ys,hy,q1⟩:=Tr.ok_of q1
 obtain ⟨n,e,h1,h2,rfl⟩:=Zk2 d1 hy
 refine ⟨n,e,h1,h2,?_⟩
 have q:=q1 (jS 0 n.toNat) G1 H1 s1 w1
 unfold aN at q
 rw [Int.sub_zero] at q
 exact q Zd4
theorem vC {tg e:Expr} (h:PI X tg e (Zeh (TAd PK is))):PI X tg e (fu PK (lA is)):=h.imp λσ H R0 hz0=>by
 obtain ⟨pa,Aq,H₀,m,ρ,G,R,z⟩:=hz0
 refine TAd.then R z λm1 xs vs G1 H1 s1 w1 R1 d1 q1=>?_
 obtain ⟨ys,hy,q1⟩:=Tr.ok_of q1
 obtain ⟨k,n,e,h1,rfl⟩:=Zb1 d1 hy
 exact ⟨k,n,e,h1,q1 (jS k (n - k).toNat) G1 H1 s1 w1 Zd4⟩
end L2
set_option Elab.async false
set_option linter.all false
set_option maxRecDepth 100000
namespace L2
variable {PK:Pk} {X:Cx} {a b c e:Expr} {es:List Expr} {pos:Pos} {i j l:z9} {is:Aa}
noncomputable def fit (n:Int):Bool:=decide (n.natAbs < 2 ^ 8000)
noncomputable def aM:Ag
 | .int m,.int n=>some (.int (m+n))
 | .tuple xs,.tuple ys=>if (!xs.isEmpty && small (xs.length+ys.length))=true then some (.tuple (xs++ys)) else none
 | .list xs,.list ys=>if small (xs.length+ys.length)=true then some (.list (xs++ys)) else none
 | _,_=>none
noncomputable def sZ (K:zZ):R2:=λx y H Q=>eQ (λi j=>.int (i+j)) x y H Q\/Zcr K x y H Q\/Zct x y H Q
theorem aX:OpR X (binaryOp .Add) (sZ X.K):=iG.or (Zma.or Zmc)
theorem aW {K:zZ}:cN (sZ K) aM:=λPK pa m G H x y dx dy dz Q w hx hy hz k=>by
 unfold aM at hz
 split at hz
 ·cases hz; cases hx; cases hy
  exact .inl ⟨_,_,rfl,rfl,k.here w (.int _)⟩
 ·rename_i xs ys
  split at hz
  ·rename_i hc
   rw [wD] at hc
   have h1:xs.isEmpty=false:=by simpa using hc.1
   have h2:xs.length+ys.length<=sizeLine:=of_decide_eq_true hc.2
   cases hz
   cases hx with
   | tup a1 a2 =>
    cases hy with
    | tup b1 b2 =>
     refine .inr (.inl ⟨_,_,_,_,rfl,rfl,SqT.of (w.sub _ _ a1),SqT.of (w.sub _ _ b1),?_,by rw [a2.length,b2.length]; exact h2,λe=>?_,λe p hp=>k.tup w (a2.append b2) hp⟩)
     ·intro e
      rw [<- a2.isEmpty,e] at h1
      cases h1
     ·subst e
      cases b2
      refine k.here w ?_
      rw [wZ]
      exact .tup a1 a2
  ·cases hz
 ·rename_i xs ys
  split at hz
  ·rename_i hc
   have h2:xs.length+ys.length<=sizeLine:=of_decide_eq_true hc
   cases hz
   cases hx with
   | lst a1 a2 =>
    cases hy with
    | lst b1 b2=>exact .inr (.inr ⟨_,_,_,_,rfl,rfl,w.sub _ _ a1,w.sub _ _ b1,by rw [a2.length,b2.length]; exact h2,λp hp=>k.lst w (a2.append b2) hp⟩)
  ·cases hz
 ·cases hz
noncomputable def bF:Ag
 | .int m,.int n=>some (.int (m - n))
 | _,_=>none
theorem b6:cN (eQ λi j=>.int (i - j)) bF:=λPK pa m G H x y dx dy dz Q w hx hy hz k=>by
 unfold bF at hz
 split at hz
 ·cases hz; cases hx; cases hy
  exact ⟨_,_,rfl,rfl,k.here w (.int _)⟩
 ·cases hz
theorem DnAll.rep {H:Hp} {vs:An} {ds:Ai} (h:DnAll H vs ds):∀ k:Nat,DnAll H (List.replicate k vs).flatten (List.replicate k ds).flatten
 | 0=>.nil
 | k+1=>by
  rw [wF,wF,w6,w6]
  exact h.append (h.rep k)
noncomputable def Zcj (K:zZ):R2:=λx y H Q=>rI CMulG (λi j=>.int (i * j)) x y H Q\/sW K x y H Q\/sX x y H Q
theorem bw:OpR X (binaryOp .Mult) (Zcj X.K):=Zl5.or (ZcS.or ZcT)
noncomputable def bd:Ag
 | .int m,.int n=>if (fit m && fit n)=true then some (.int (m * n)) else none
 | .tuple xs,.int n=>if (decide (1 < n) && decide (n<=1000) && !xs.isEmpty && decide (xs.length<=1000))=true then some (.tuple (List.replicate n.toNat xs).flatten) else none
 | .list xs,.int n=>if (decide (-(2 ^ 63)<=n) && decide (n < 2 ^ 63) && small (xs.length * n.toNat))=true then some (.list (List.replicate n.toNat xs).flatten) else none
 | _,_=>none
theorem bv {K:zZ}:cN (Zcj K) bd:=λPK pa m G H x y dx dy dz Q w hx hy hz k=>by
 unfold bd at hz
 split at hz
 ·split at hz
  ·rename_i hc
   rw [wD] at hc
   cases hz; cases hx; cases hy
   exact .inl ⟨_,_,rfl,rfl,⟨of_decide_eq_true hc.1,of_decide_eq_true hc.2⟩,k.here w (.int _)⟩
  ·cases hz
 ·split at hz
  ·rename_i hc
   simp only [wD,decide_eq_true_eq,yj] at hc
   cases hz; cases hy
   cases hx with
   | tup a1 a2 =>
    refine .inr (.inl ⟨_,_,_,rfl,rfl,SqT.of (w.sub _ _ a1),hc.1.1.1,hc.1.1.2,?_,by rw [a2.length]; exact hc.2,λp hp=>k.tup w (a2.rep _) hp⟩)
    intro e
    have:=hc.1.2
    rw [<- a2.isEmpty,e] at this
    cases this
  ·cases hz
 ·split at hz
  ·rename_i hc
   simp only [wD,decide_eq_true_eq] at hc
   cases hz; cases hy
   cases hx with
   | lst a1 a2=>exact .inr (.inr ⟨_,_,_,rfl,rfl,w.sub _ _ a1,hc.1.1,hc.1.2,by rw [a2.length]; exact of_decide_eq_true hc.2,λp hp=>k.lst w (a2.rep _) hp⟩)
  ·cases hz
 ·cases hz
noncomputable def fr:Ag
 | .int m,.int n=>if (decide (n≠0) && fit n)=true then some (.int (m.fdiv n)) else none
 | _,_=>none
theorem ir:cN (rI Zjh λi j=>.int (i.fdiv j)) fr:=λPK pa m G H x y dx dy dz Q w hx hy hz k=>by
 unfold fr at hz
 split at hz
 ·split at hz
  ·rename_i hc
   rw [wD] at hc
   cases hz; cases hx; cases hy
   exact ⟨_,_,rfl,rfl,⟨of_decide_eq_true hc.1,of_decide_eq_true hc.2⟩,k.here w (.int _)⟩
  ·cases hz
 ·cases hz
noncomputable def kC:Ag
 | .int m,.int n=>if decide (n≠0)=true then some (.int (m.fmod n)) else none
 | _,_=>none
theorem Zan:cN (rI (λ_ j=>j≠0) λi j=>.int (i.fmod j)) kC:=λPK pa m G H x y dx dy dz Q w hx hy hz k=>by
 unfold kC at hz
 split at hz
 ·split at hz
  ·rename_i hc
   cases hz; cases hx; cases hy
   exact ⟨_,_,rfl,rfl,of_decide_eq_true hc,k.here w (.int _)⟩
  ·cases hz
 ·cases hz
noncomputable def tF:Ag
 | .int m,.int n=>if (decide (0<=n) && decide (n<=1000000) && decide (m.natAbs < 2 ^ 64))=true then some (.int (m ^ n.toNat)) else none
 | _,_=>none
theorem Zjq:cN (rI Zjg λi j=>.int (i ^ j.toNat)) tF:=λPK pa m G H x y dx dy dz Q w hx hy hz k=>by
 unfold tF at hz
 split at hz
 ·split at hz
  ·rename_i hc
   simp only [wD,decide_eq_true_eq] at hc
   cases hz; cases hx; cases hy
   exact ⟨_,_,rfl,rfl,⟨hc.1.1,hc.1.2,hc.2⟩,k.here w (.int _)⟩
  ·cases hz
 ·cases hz
noncomputable def ge (i:z9):z9:=λρ=>(i ρ).bind λx=>match x with
 | .int n=>.ret (.int (-n))
 | _=>.fail
theorem iZ (ha:PE X a (TAe PK i)):PE X (.UnaryOp .USub a pos) (TAe PK (ge i)):=(ZlI Zjx ha).imp λσ H Q hz0=>by
 obtain ⟨pa,Aq,H₀,m,ρ,G,R,z⟩:=hz0
 refine TAe.then R z λm1 x v G1 H1 s1 w1 R1 d1 q1=>?_
 cases d1 with
 | int n=>exact ⟨n,rfl,(Kn.later q1 s1 w1.some).here w1 (.int _)⟩
 | _=>exact q1.elim
noncomputable def cV (f:Int->Int->Bool):Ag
 | .int m,.int n=>some (.bool (f m n))
 | _,_=>none
theorem dl {f:Int->Int->Bool}:cN (eQ λi j=>.bl (f i j)) (cV f):=λPK pa m G H x y dx dy dz Q w hx hy hz k=>by
 unfold cV at hz
 split at hz
 ·cases hz; cases hx; cases hy
  exact ⟨_,_,rfl,rfl,k.here w (.bl _)⟩
 ·cases hz
noncomputable def cR:Ag
 | .str m,.str n=>some (.bool (m == n))
 | x,y=>if (SeqAt.shaped x && SeqAt.shaped y)=true then some (.bool (PyData.eqv x y)) else none
noncomputable def cD:Ag
 | .str m,.str n=>some (.bool (!(m == n)))
 | x,y=>if (SeqAt.shaped x && SeqAt.shaped y)=true then some (.bool (!PyData.eqv x y)) else none
noncomputable def Zcp:R2:=λx y H Q=>rEq x y H Q\/∃ d e,Dn H x d/\Dn H y e/\SeqAt.shaped d=true/\SeqAt.shaped e=true/\Q (.bl (PyData.eqv d e)) H
noncomputable def Zch:R2:=λx y H Q=>rNe x y H Q\/∃ d e,Dn H x d/\Dn H y e/\SeqAt.shaped d=true/\SeqAt.shaped e=true/\Q (.bl (!PyData.eqv d e)) H
theorem gy {k:Nat} (hr:Room k X.A):OpR X (compareOp .Eq) Zcp:=Zl9.or (Zl8 hr)
theorem fH {k:Nat} (hr:Room k X.A):OpR X (compareOp .NotEq) Zch:=Zl4.or (Zl3 hr)
theorem gh:cN Zcp cR:=λPK pa m G H x y dx dy dz Q w hx hy hz k=>by
 unfold cR at hz
 split at hz
 ·cases hz; cases hx; cases hy
  exact .inl ⟨rfl,by rw [p7]; exact k.here w (.bl _)⟩
 ·split at hz
  ·rename_i hc
   rw [wD] at hc
   cases hz
   exact .inr ⟨_,_,hx.mono w.sub,hy.mono w.sub,hc.1,hc.2,k.here w (.bl _)⟩
  ·cases hz
theorem fx:cN Zch cD:=λPK pa m G H x y dx dy dz Q w hx hy hz k=>by
 unfold cD at hz
 split at hz
 ·cases hz; cases hx; cases hy
  exact .inl ⟨rfl,by rw [p7]; exact k.here w (.bl _)⟩
 ·split at hz
  ·rename_i hc
   rw [wD] at hc
   cases hz
   exact .inr ⟨_,_,hx.mono w.sub,hy.mono w.sub,hc.1,hc.2,k.here w (.bl _)⟩
  ·cases hz
noncomputable def Zru:Ag
 | .bool m,.bool n=>some (.bool (m == n))
 | _,_=>none
noncomputable def mO:Ag
 | .bool m,.bool n=>some (.bool (!(m == n)))
 | _,_=>none
theorem Zjr:cN (λx y H Q=>∃ a b,x=.bl a/\y=.bl b/\Q (.bl (!(a == b))) H) mO:=λPK pa m G H x y dx dy dz Q w hx hy hz k=>by
 unfold mO at hz
 split at hz
 ·cases hz; cases hx; cases hy
  exact ⟨_,_,rfl,rfl,k.here w (.bl _)⟩
 ·cases hz
noncomputable def ao:Ag
 | .list xs,.int n=>bz xs n
 | .tuple xs,.int n=>bz xs n
 | _,_=>none
theorem DnAll.at {H:Hp} {vs:An} {ds:Ai} {n:Int} {d:PyData} (h:DnAll H vs ds) (e:bz ds n=some d):∃ v,bz vs n=some v/\Dn H v d:=by
 unfold bz at e ⊢
 rw [<- h.length] at e
 cases hn:db vs.length n with
 | none=>rw [hn] at e; cases e
 | some j =>
  rw [hn] at e
  exact h.get j e
theorem aD {K:zZ}:cN (rIx K) ao:=λPK pa m G H x y dx dy dz Q w hx hy hz k=>by
 unfold ao at hz
 split at hz
 ·cases hy
  cases hx with
  | lst a1 a2 =>
   obtain ⟨v,h1,h2⟩:=a2.at hz
   exact .inl ⟨_,_,_,v,rfl,rfl,SqL.of (w.sub _ _ a1),h1,k.here w h2⟩
 ·cases hy
  cases hx with
  | tup a1 a2 =>
   obtain ⟨v,h1,h2⟩:=a2.at hz
   exact .inr (.inl ⟨_,_,_,v,rfl,rfl,SqT.of (w.sub _ _ a1),h1,k.here w h2⟩)
 ·cases hz
noncomputable def c7:List PyData->Option PyData
 | [.list xs]=>some (.int xs.length)
 | [.tuple xs]=>some (.int xs.length)
 | _=>none
theorem fy {K:zZ}:fc (λxs H Q=>∃ p ys,xs=[.ref p]/\(SqL K H p ys\/SqT K H p ys)/\Q (.int ys.length) H) c7:=λPK pa m G H vs ds d Q w hv hd k=>by
 unfold c7 at hd
 split at hd
 ·cases hd
  cases hv with
  | cons h1 h2 =>
   cases h2
   cases h1 with
   | lst a1 a2=>exact ⟨_,_,rfl,.inl (SqL.of (w.sub _ _ a1)),by rw [a2.length]; exact k.here w (.int _)⟩
 ·cases hd
  cases hv with
  | cons h1 h2 =>
   cases h2
   cases h1 with
   | tup a1 a2=>exact ⟨_,_,rfl,.inr (SqT.of (w.sub _ _ a1)),by rw [a2.length]; exact k.here w (.int _)⟩
 ·cases hd
noncomputable def qE (n:Int):Int:=if n < 0 then -n else n
noncomputable def lx:List PyData->Option PyData
 | [.int n]=>some (.int (qE n))
 | _=>none
theorem rn:fc (λxs H Q=>∃ i,xs=[.int i]/\Q (.int (if i < 0 then -i else i)) H) lx:=λPK pa m G H vs ds d Q w hv hd k=>by
 unfold lx at hd
 split at hd
 ·cases hd
  cases hv with
  | cons h1 h2=>cases h2; cases h1; exact ⟨_,rfl,k.here w (.int _)⟩
 ·cases hd
noncomputable def b8 (m n:Int):Int:=if n > m then n else m
noncomputable def Zdq (m n:Int):Int:=if n < m then n else m
noncomputable def iO:List PyData->Option PyData
 | [.int m,.int n]=>some (.int (b8 m n))
 | _=>none
theorem lL:fc (λxs H Q=>∃ i j,xs=[.int i,.int j]/\Q (.int (if j > i then j else i)) H) iO:=λPK pa m G H vs ds d Q w hv hd k=>by
 unfold iO at hd
 split at hd
 ·cases hd
  cases hv with
  | cons h1 h2=>cases h2 with | cons h2 h3=>cases h3; cases h1; cases h2; exact ⟨_,_,rfl,k.here w (.int _)⟩
 ·cases hd
noncomputable def iU:List PyData->Option PyData
 | [.int n]=>some (.int n)
 | [.bool n]=>some (.int (if n then 1 else 0))
 | _=>none
theorem nO:fc (λxs H Q=>(∃ i,xs=[.int i]/\Q (.int i) H)\/∃ k,xs=[.bl k]/\Q (.int (if k then 1 else 0)) H) iU:=λPK pa m G H vs ds d Q w hv hd k=>by
 unfold iU at hd
 split at hd
 ·cases hd
  cases hv with
  | cons h1 h2=>cases h2; cases h1; exact .inl ⟨_,rfl,k.here w (.int _)⟩
 ·cases hd
  cases hv with
  | cons h1 h2=>cases h2; cases h1; exact .inr ⟨_,rfl,k.here w (.int _)⟩
 ·cases hd
noncomputable def eO:List PyData->Option PyData
 | [.list xs]=>some (.tuple xs)
 | [.tuple xs]=>some (.tuple xs)
 | _=>none
theorem jj {K:zZ}:fc (λxs H Q=>∃ p ys,xs=[.ref p]/\((SqL K H p ys/\∀ l,H l=none->Q (.ref l) (upd H l (.tup ys)))\/(SqT K H p ys/\Q (.ref p) H))) eO:=λPK pa m G H vs ds d Q w hv hd k=>by
 unfold eO at hd
 split at hd
 ·cases hd
  cases hv with
  | cons h1 h2 =>
   cases h2
   cases h1 with
   | lst a1 a2=>exact ⟨_,_,rfl,.inl ⟨SqL.of (w.sub _ _ a1),λp hp=>k.tup w a2 hp⟩⟩
 ·cases hd
  cases hv with
  | cons h1 h2 =>
   cases h2
   cases h1 with
   | tup a1 a2=>exact ⟨_,_,rfl,.inr ⟨SqT.of (w.sub _ _ a1),k.here w (.tup a1 a2)⟩⟩
 ·cases hd
noncomputable def kN:List PyData->Option Ai
 | [.list xs]=>some xs
 | [.tuple xs]=>some xs
 | _=>none
theorem Zju {K:zZ}:vS (λxs H Q=>∃ p ys,xs=[.ref p]/\(SqL K H p ys\/SqT K H p ys)/\∀ l,H l=none->Q (.ref l) (upd H l (.lst ys))) kN:=λPK pa m G H vs ds d Q w hv hd k=>by
 unfold kN at hd
 split at hd
 ·cases hd
  cases hv with
  | cons h1 h2 =>
   cases h2
   cases h1 with
   | lst a1 a2=>exact ⟨_,_,rfl,.inl (SqL.of (w.sub _ _ a1)),λp hp=>k.new w a2 hp⟩
 ·cases hd
  cases hv with
  | cons h1 h2 =>
   cases h2
   cases h1 with
   | tup a1 a2=>exact ⟨_,_,rfl,.inr (SqT.of (w.sub _ _ a1)),λp hp=>k.new w a2 hp⟩
 ·cases hd
noncomputable def gt (d:PyData):Bool:=!d.hasDict && d.showable && decide (d.depth<=32) && decide (d.shown.length<=sizeLine)
noncomputable def gu:List PyData->Option PyData
 | [d]=>if gt d=true then some (.str d.shown) else none
 | _=>none
theorem nM:fc (λxs H Q=>∃ v d,xs=[v]/\Dn H v d/\d.hasDict=false/\d.showable=true/\d.depth<=32/\d.shown.length<=sizeLine/\Q (.str d.shown) H) gu:=λPK pa m G H vs ds d Q w hv hd k=>by
 unfold gu at hd
 split at hd
 ·split at hd
  ·rename_i hc
   unfold gt at hc
   simp only [wD,decide_eq_true_eq,yj] at hc
   cases hd
   cases hv with
   | cons h1 h2=>cases h2; exact ⟨_,_,rfl,h1.mono w.sub,hc.1.1.1,hc.1.1.2,hc.1.2,hc.2,k.here w (.str _)⟩
  ·cases hd
 ·cases hd
noncomputable def iu:PyData->String
 | .none=>"NoneType"
 | .bool _=>"bool"
 | .int _=>"int"
 | .str _=>"str"
 | .list _=>"list"
 | .tuple _=>"tuple"
 | .dict _=>"dict"
theorem Dn.ty {K:zZ} {G H:Hp} (sb:Sub G H) {v:V} {d:PyData} (h:Dn G v d):TyOf K H v (.type (iu d)):=by
 cases h with
 | non=>exact .non
 | bl b=>exact .bl b
 | int i=>exact .int i
 | str x=>exact .str x
 | tup h _=>exact .tup (sb _ _ h)
 | lst h _=>exact .lst (sb _ _ h)
 | dct h _=>exact h.elim (λh=>.dK (sb _ _ h)) λ⟨o,h⟩=>.frzD (sb _ _ h)
noncomputable def kY (T:String) (t:String):Bool:=decide (t=T) || (decide (T="int") && decide (t="bool"))
noncomputable def jc (T:String) (i:z9):z9:=λρ=>(i ρ).bind λx=>.ret (.bool (kY T (iu x)))
def Zd9 (T:String):Prop:=T="int"\/T="bool"\/T="str"\/T="list"\/T="tuple"\/T="dict"
theorem Zng {K:zZ} {T:String} (h:Zd9 T) (d:PyData):PySem.W.kitOne K (.type (iu d)) (.type T)=some (kY T (iu d)):=by
 rcases h with rfl | rfl | rfl | rfl | rfl | rfl <;> cases d <;> rfl
theorem lu {T:String} {tc:TE} (hT:Zd9 T) (htc:tc=tC (.ty T)) (h:PE X e (fS (λxs H Q=>∃ x T t b,xs=[x,.ty T]/\TyOf X.K H x t/\PySem.W.kitOne X.K t (.type T)=some b/\Q (.bl b) H) (fB (TAe PK i) (fB tc aY)))):PE X e (TAe PK (jc T i)):=h.imp λσ H Q hz0=>by
 obtain ⟨pa,Aq,H₀,m,ρ,G,R,z⟩:=hz0
 subst htc
 refine TAe.then R z λm1 x v G1 H1 s1 w1 R1 d1 q1=>?_
 exact ⟨v,T,_,_,rfl,d1.ty w1.sub,Zng hT x,(Kn.later q1 s1 w1.some).here w1 (.bl _)⟩
noncomputable def fO (xs:Ai) (lo hi:Option Int):Ai:=(xs.drop (HT.aU xs.length 0 lo)).take (HT.aU xs.length xs.length hi - HT.aU xs.length 0 lo)
theorem DnAll.take {H:Hp}:∀ {vs:An} {ds:Ai} (n:Nat),DnAll H vs ds->DnAll H (vs.take n) (ds.take n)
 | _,_,0,_=>.nil
 | _,_,_+1,.nil=>.nil
 | _,_,n+1,.cons r t=>.cons r (DnAll.take n t)
theorem DnAll.drop {H:Hp}:∀ {vs:An} {ds:Ai} (n:Nat),DnAll H vs ds->DnAll H (vs.drop n) (ds.drop n)
 | _,_,0,r=>r
 | _,_,_+1,.nil=>.nil
 | _,_,n+1,.cons r t=>DnAll.drop n t
theorem DnAll.cut {H:Hp} {vs:An} {ds:Ai} (h:DnAll H vs ds) (lo hi:Option Int):DnAll H (fN vs lo hi) (fO ds lo hi):=by
 unfold fN fO
 rw [h.length]
 exact (h.drop _).take _
noncomputable abbrev gb:=List Sl->Tr (Option Int)
noncomputable def i7:gb:=λ_=>.ret none
noncomputable def ik (i:z9):gb:=λρ=>(i ρ).bind λx=>match x with
 | .int n=>.ret (some n)
 | _=>.fail
noncomputable def TAp (PK:Pk) (i:gb):TO:=λσ H Q=>∃ pa Aq H₀ m ρ G,Rl PK pa Aq H₀ m σ ρ G H/\(i ρ).ok m λm' x=>∀ G' H',Stp pa G H G' H'->Wd PK pa m' G' H'->Q x H'
theorem PO.imp {e:Option Expr} {t t':TO} (h:PO X e t) (q:∀ σ H Q,t' σ H Q->t σ H Q):PO X e t':=λpins s σ H Q I z=>h pins s σ H Q I (q σ H Q z)
theorem nj:PO X none (TAp PK i7):=ZcE.imp λσ H Q hz0=>by
 obtain ⟨pa,Aq,H₀,m,ρ,G,R,z⟩:=hz0
 exact z G H .refl R.wd
theorem ni (h:PE X e (TAe PK i)):PO X (some e) (TAp PK (ik i)):=(ZcD h).imp λσ H Q hz0=>by
 obtain ⟨pa,Aq,H₀,m,ρ,G,R,z⟩:=hz0
 refine TAe.then R z λm1 x v G1 H1 s1 w1 R1 d1 q1=>?_
 cases d1 with
 | int n=>exact ⟨n,rfl,q1 G1 H1 s1 w1⟩
 | _=>exact q1.elim
theorem ZnH {prog:Program} {w:World} {A:Around} {E:Ah} {s:Shared} {t sl:Addr} {items:Array Value} {vl vu:Value} {lo hi:Option Int} {Q:Ah} (ht:IsTup s.heap t items) (hs:s.heap.IsSliceOf sl vl vu .none) (pl:IsPart vl lo) (pu:IsPart vu hi)
  (hw:HT.aU items.size 0 lo=0/\HT.aU items.size items.size hi=items.size) (h:Q (.ref t) s):wpAny (model prog w) A (getItem (.ref t) (.ref sl)) Q E s:=by
 obtain ⟨os,hos,hcs,hds⟩:=id hs
 have hTs:s.TypeIs (.ref sl) "slice":=⟨os,hos,hcs⟩
 unfold getItem
 try with_reducible refine wpAny_holding ?_
 first | refine wpAny_bind (wpAny_pure ?_) | skip
 refine wpAny_bind (wpAny_sequenceKey ht.typeIs (by decide) ?_)
 refine wpAny_bind (wpAny_callSpecial?_slot (name:=Str.ofString "__getitem__") ht.typeIs xJ
  (wpAny_call_entry xJ ht.typeIs entry_tuple_getitem ?_ (args_tuple_getitem _ _)))
 show wpAny _ _ (Builtin.Tuple.tupleItemsOf (.ref t) >>= _) _ _ s
 refine wpAny_bind (tupleItemsOf_ ht ?_)
 refine wpAny_bind (wpAny_typeOf hTs ?_)
 rw [if_pos (by decide)]
 refine wpAny_bind (HT.ZaW hs pl pu ?_)
 have hyes:(((HT.aU items.size 0 lo:Nat):Int) == 0 && (1:Int) == 1 && (HT.aU items.size items.size hi - HT.aU items.size 0 lo) == items.size)=true:=by
  rw [hw.1,hw.2]
  simp
 show wpAny _ _ (if (((HT.aU items.size 0 lo:Nat):Int) == 0 && (1:Int) == 1 && (HT.aU items.size items.size hi - HT.aU items.size 0 lo) == items.size)=true then _ else _) _ _ s
 rw [if_pos hyes]
 refine wpAny_bind (m:=Builtin.Tuple.tupleIsExact (.ref t)) ?_
 unfold Builtin.Tuple.tupleIsExact
 refine wpAny_bind (wpAny_typeOf ht.typeIs ?_)
 refine wpAny_pure ?_
 rw [if_pos (by decide)]
 refine wpAny_bind (wpAny_rule ?_)
 exact wpAny_pure ⟨_,rfl,wpAny_pure h⟩
noncomputable def Zca (K:zZ):V->Option Int->Option Int->Hp->VK->Prop:=λx lo hi H Q=>∃ a xs,x=.ref a/\SqT K H a xs/\(HT.aU xs.length 0 lo=0/\HT.aU xs.length xs.length hi=xs.length)/\Q (.ref a) H
theorem Zkp:SlR X (Zca X.K):=by
 intro pins s σ H x v vl vu lo hi sl Q I rx hs pl pu h
 obtain ⟨a,xs,rfl,hx,hw,q⟩:=h
 cases rx
 obtain ⟨its,r,ht,hz⟩:=I.tuple hx
 have hlen:its.toArray.size=xs.length:=by rw [wj]; exact r.length.symm
 refine ⟨"tuple",_,PyProof.Rows.slot_tuple_getitem.lookup,ht.typeIs,?_⟩
 exact ZnH ht hs pl pu (by rw [hlen]; exact hw) ⟨.ref a,H,I,rfl,q⟩
noncomputable def Zlf (K:zZ):V->Option Int->Option Int->Hp->VK->Prop:=λx lo hi H Q=>Zcc K x lo hi H Q\/Zcb K x lo hi H Q\/Zca K x lo hi H Q
theorem Zkr:SlR X (Zlf X.K):=ZaX.or (Zkq.or Zkp)
noncomputable def ZaV (x:PyData) (lo hi:Option Int):Option PyData:=match x with
 | .list xs=>some (.list (fO xs lo hi))
 | .tuple xs=>some (.tuple (fO xs lo hi))
 | _=>none
noncomputable def i5 (i:z9) (p q:gb):z9:=λρ=>(i ρ).bind λx=>(p ρ).bind λlo=>(q ρ).bind λhi=>Tr.of (ZaV x lo hi)
theorem TAp.then {p:gb} {σ:St} {H:Hp} {β:Type} {k:Option Int->Tr β} {Z:Nat->β->Prop} {Q:Option Int->Hp->Prop} {pa:Addr} {Aq H₀ G:Hp} {m:Nat} {ρ:Ap} (R:Rl PK pa Aq H₀ m σ ρ G H) (h:((p ρ).bind k).ok m Z)
  (hq:∀ m1 x G1 H1,Stp pa G H G1 H1->Wd PK pa m1 G1 H1->Rl PK pa Aq H₀ m1 σ ρ G1 H1->(k x).ok m1 Z->Q x H1):TAp PK p σ H Q:=by
 refine ⟨pa,Aq,H₀,m,ρ,G,R,Tr.ok_mono (Tr.ok_bind.mp h) λm1 x hx G1 H1 s1 w1=>?_⟩
 exact hq m1 x G1 H1 s1 w1 (R.step s1 w1) hx
theorem np {p q:gb} {lo hi:Option Expr} {p2:Pos} (he:PE X e (TAe PK i)) (hl:PO X lo (TAp PK p)) (hu:PO X hi (TAp PK q)):PE X (.Subscript e (.Slice lo hi none p2) pos) (TAe PK (i5 i p q)):=(ZcJ Zkr he hl hu).imp λσ H Q hz0=>by
 obtain ⟨pa,Aq,H₀,m,ρ,G,R,z⟩:=hz0
 refine TAe.then R z λm1 x v G1 H1 s1 w1 R1 d1 q1=>?_
 refine TAp.then R1 q1 λm2 lo G2 H2 s2 w2 R2 q2=>?_
 refine TAp.then R2 q2 λm3 hi G3 H3 s3 w3 R3 q3=>?_
 obtain ⟨d,hd,k⟩:=Tr.ok_of q3
 have s13:=(s1.trans s2 w1.some).trans s3 w2.some
 have k':=Kn.later k s13 w3.some
 have d3:=d1.mono (s2.gs.trans s3.gs)
 cases d3 with
 | lst a1 a2=>cases hd; exact .inl ⟨_,_,rfl,SqL.of (w3.sub _ _ a1),λp hp=>k'.lst w3 (a2.cut lo hi) hp⟩
 | @tup a xs ds a1 a2 =>
  cases hd
  by_cases hw:HT.aU xs.length 0 lo=0/\HT.aU xs.length xs.length hi=xs.length
  ·refine .inr (.inr ⟨_,_,rfl,SqT.of (w3.sub _ _ a1),hw,k'.here w3 ?_⟩)
   have e:fO ds lo hi=ds:=by
    unfold fO
    rw [<- a2.length,hw.1,hw.2]
    simp
    rw [a2.length]
    exact zq
   rw [e]
   exact .tup a1 a2
  ·exact .inr (.inl ⟨_,_,rfl,SqT.of (w3.sub _ _ a1),hw,λp hp=>k'.tup w3 (a2.cut lo hi) hp⟩)
 | _=>cases hd
theorem DnAll.range {H:Hp} (lo:Int) (n:Nat):DnAll H (fV lo n) ((ak lo n).map PyData.int):=by
 rw [Zlb]
 exact DnAll.ints _
noncomputable def md (lo hi:Int):Bool:=fY lo && fY hi && decide ((hi - lo).toNat<=1000)
noncomputable def ma:List PyData->Option Ai
 | [.int lo,.int hi]=>if md lo hi=true then some (aN lo hi) else none
 | _=>none
theorem ZkZ {G:Hp} {vs:An} {xs ys:Ai} (d:DnAll G vs xs) (h:ma xs=some ys):∃ k n:Int,vs=[.int k,.int n]/\(-(2 ^ 62)<=k/\k < 2 ^ 62/\-(2 ^ 62)<=n/\n < 2 ^ 62/\(n - k).toNat<=1000)/\ys=aN k n:=by
 unfold ma at h
 split at h
 ·split at h
  ·rename_i hn
   cases h
   cases d with
   | cons d1 d2 =>
    cases d2 with
    | cons d2 d3 =>
     cases d3
     cases d1
     cases d2
     unfold md at hn
     rw [wD,wD] at hn
     have h1:=of_decide_eq_true hn.1.1
     have h2:=of_decide_eq_true hn.1.2
     exact ⟨_,_,rfl,⟨h1.1,h1.2,h2.1,h2.2,of_decide_eq_true hn.2⟩,rfl⟩
  ·cases h
 ·cases h
def ZjR (t:TA):TE:=fS (λxs H Q=>∃ a lo hi,xs=[.ref a]/\H a=some (.rng lo hi)/\-(2 ^ 62)<=lo/\lo < 2 ^ 62/\-(2 ^ 62)<=hi/\hi < 2 ^ 62/\(hi - lo).toNat<=1000/\∀ p,H p=none->Q (.ref p) (upd H p (.tup (fV lo (hi - lo).toNat))))
 (fB (fS (λxs H Q=>∃ i j:Int,xs=[.int i,.int j]/\∀ p,H p=none->Q (.ref p) (upd H p (.rng i j))) t) aY)
noncomputable def vK (is:Aa):z9:=λρ=>(is ρ).bind λxs=>(Tr.of (ma xs)).bind λys=>.ret (.tuple ys)
theorem Zqv (h:PE X e (ZjR (TAd PK is))):PE X e (TAe PK (vK is)):=h.imp λσ H Q hz0=>by
 obtain ⟨pa,Aq,H₀,m,ρ,G,R,z⟩:=hz0
 refine TAd.then R z λm1 xs vs G1 H1 s1 w1 R1 d1 q1=>?_
 rw [Tr.ok_bind] at q1
 obtain ⟨ys,hy,k⟩:=Tr.ok_of q1
 obtain ⟨lo,hi,rfl,⟨b1,b2,b3,b4,b5⟩,rfl⟩:=ZkZ d1 hy
 refine ⟨lo,hi,rfl,λp hp=>?_⟩
 obtain ⟨w2,s2⟩:=w1.own (o:=.rng lo hi) hp
 refine ⟨p,lo,hi,rfl,cA,b1,b2,b3,b4,b5,λq hq=>?_⟩
 exact (Kn.later k (s1.trans s2 w1.some) w2.some).tup w2 (DnAll.range _ _) hq
noncomputable def ints?:List PyData->Option Aj
 | []=>some []
 | .int n::xs=>(ints? xs).bind λns=>some (n::ns)
 | _=>none
@[simp] theorem ints?_map:∀ ns:Aj,ints? (ns.map PyData.int)=some ns
 | []=>rfl
 | n::ns=>by rw [wf,ints?,ints?_map ns]; rfl
theorem DnAll.ints_inv {H:Hp} {vs:An} {ds:Ai} {ns:Aj} (a:DnAll H vs ds) (h:ints? ds=some ns):vs=ns.map V.int/\ds=ns.map PyData.int:=by
 induction vs generalizing ds ns with
 | nil=>cases a; cases h; exact ⟨rfl,rfl⟩
 | cons v vs ih =>
  cases a with
  | cons g t =>
   cases g with
   | int n =>
    unfold ints? at h
    rename_i ds
    cases e:ints? ds with
    | none=>rw [e] at h; cases h
    | some ms =>
     rw [e] at h
     cases h
     obtain ⟨h1,h2⟩:=ih t e
     exact ⟨by rw [h1]; rfl,by rw [h2]; rfl⟩
   | _=>unfold ints? at h; cases h
end L2
set_option Elab.async false
set_option linter.all false
set_option maxRecDepth 100000
namespace L2
section
variable {prog:Program} {w:World} {A:Around} {E:Ah} {s:Shared}
def ItAt (b:Bool) (h:Heap) (it a:Addr) (k:Nat):Prop:=match b with
 | true=>h.IsListIter it a k
 | false=>h.IsTupleIter it a k
def SqAt (b:Bool) (h:Heap) (a:Addr) (items:Array Value):Prop:=match b with
 | true=>h.IsList a items
 | false=>h.IsTuple a items
theorem ItAt.at {b:Bool} {h h':Heap} {it a:Addr} {k:Nat} (x:ItAt b h it a k) (e:∀ o,h.get? it=some o->h'.get? it=some o):ItAt b h' it a k:=by
 cases b with
 | true=>exact Heap.IsListIter.at x e
 | false=>obtain ⟨o,ho,r⟩:=(show h.IsTupleIter it a k from x); exact ⟨o,e o ho,r⟩
theorem SqAt.at {b:Bool} {h h':Heap} {a:Addr} {items:Array Value} (x:SqAt b h a items) (e:∀ o,h.get? a=some o->h'.get? a=some o):SqAt b h' a items:=by
 cases b with
 | true=>exact Heap.IsList.at x e
 | false=>exact Heap.IsTuple.at x e
theorem ItAt.there {b:Bool} {h:Heap} {it a:Addr} {k:Nat} (x:ItAt b h it a k):∃ o,h.get? it=some o/\∀ v,o.data≠.cell v:=by
 cases b with
 | true=>obtain ⟨o,ho,_,hd⟩:=(show h.IsListIter it a k from x); exact ⟨o,ho,λv z=>by rw [hd] at z; cases z⟩
 | false=>obtain ⟨o,ho,_,hd⟩:=(show h.IsTupleIter it a k from x); exact ⟨o,ho,λv z=>by rw [hd] at z; cases z⟩
theorem Zmu {it l:Addr} {i:Nat} {items:Array Value} {x:Value} {Q:Ah} (hit:s.heap.IsTupleIter it l i) (hl:s.heap.IsTuple l items) (hx:items[i]?=some x)
  (hQ:∀ h',h'.IsTupleIter it l (i+1)->Heap.SameBut it s.heap h'->Q x { s with heap:=h' }):wpAny (model prog w) A (Builtin.SmallTypes.nextOf (.ref it)) Q E s:=by
 obtain ⟨o,ho,hc,hd⟩:=id hit; obtain ⟨ol,hol,_,nl,hdl⟩:=hl
 unfold Builtin.SmallTypes.nextOf
 refine wpAny_bind (wpAny_callSpecial?_slot (name:=Str.ofString "__next__") hit.typeIs yc (wpAny_call_entry yc hit.typeIs F.entry_tuple_iterator_next ?_ (F.args_tuple_iterator_next_1 _)))
 show wpAny _ _ (field (.ref it) 0 >>= _) _ _ s; refine wpAny_bind (wpAny_field ho hd (x:=.ref l) rfl ?_)
 show wpAny _ _ (if (Value.ref l == Value.none)=true then _ else _) _ _ s; rw [if_neg (show ¬ ((Value.ref l == Value.none)=true) from wn)]
 show wpAny _ _ (field (.ref it) 1 >>= _) _ _ s; refine wpAny_bind (wpAny_field ho hd (x:=.int i 0) rfl ?_)
 show wpAny _ _ (seqItems? (.ref l) >>= _) _ _ s; refine wpAny_bind (wpAny_seqItems hol hdl ?_); simp only [wU,hx]
 refine wpAny_bind (wpAny_setField ho hd (by simp) (wpAny_pure ⟨x,rfl,wpAny_pure (hQ _ ⟨_,xM _ ho (zd (x0 hd _)),(Obj.cls_mapFields ..).trans hc,?_⟩ (yg ..))⟩))
 rw [x0 hd]; simp [rawInt]
theorem Zmv {it l:Addr} {i:Nat} {items:Array Value} {Q:Ah} (hh:A.handled=none) (hit:s.heap.IsTupleIter it l i) (hl:s.heap.IsTuple l items) (hx:items[i]?=none)
  (hE:∀ h' e,Heap.ExtBut it s.heap h'->(∃ o,h'.get? e=some o/\o.cls=.type "StopIteration")->E (.ref e) { s with heap:=h' }):wpAny (model prog w) A (Builtin.SmallTypes.nextOf (.ref it)) Q E s:=by
 obtain ⟨o,ho,hc,hd⟩:=id hit; obtain ⟨ol,hol,_,nl,hdl⟩:=hl
 unfold Builtin.SmallTypes.nextOf
 refine wpAny_bind (wpAny_callSpecial?_slot (name:=Str.ofString "__next__") hit.typeIs yc (wpAny_call_entry yc hit.typeIs F.entry_tuple_iterator_next ?_ (F.args_tuple_iterator_next_1 _)))
 show wpAny _ _ (field (.ref it) 0 >>= _) _ _ s; refine wpAny_bind (wpAny_field ho hd (x:=.ref l) rfl ?_)
 show wpAny _ _ (if (Value.ref l == Value.none)=true then _ else _) _ _ s; rw [if_neg (show ¬ ((Value.ref l == Value.none)=true) from wn)]
 show wpAny _ _ (field (.ref it) 1 >>= _) _ _ s; refine wpAny_bind (wpAny_field ho hd (x:=.int i 0) rfl ?_)
 show wpAny _ _ (seqItems? (.ref l) >>= _) _ _ s; refine wpAny_bind (wpAny_seqItems hol hdl ?_); simp only [wU,hx]
 refine wpAny_bind (wpAny_rule (wpAny_bind (wpAny_setField ho hd (by simp) ?_))); show wpAny _ _ (newExc (.type "StopIteration") [] >>= _) _ _ _
 refine wpAny_bind ?_; simp only [newExc,newTuple]; refine wpAny_bind (wpAny_newObj_type ?_ (by size_fits))
 refine wpAny_bind (m:=firstArgMember _ _) (wpAny_of_eq (a:=Value.none) (by first | rfl | (simp only [firstArgMember]; rfl)) ?_); refine wpAny_newObj_type ?_ (by size_fits); simp only [raiseNew]
 refine wpAny_bind (wpAny_handled ?_); first | rw [show A.in1.handled=none from hh] | rw [hh]
 refine wpAny_bind (wpAny_pure (wpAny_throw (hE _ _ (((yg ..).extBut.push _).push _) ⟨_,wc _ rfl,rfl⟩)))
theorem oT {b:Bool} {it l:Addr} {i:Nat} {items:Array Value} {x:Value} {Q:Ah} (hit:ItAt b s.heap it l i) (hl:SqAt b s.heap l items) (hx:items[i]?=some x)
  (hQ:∀ h',ItAt b h' it l (i+1)->Heap.SameBut it s.heap h'->Q x { s with heap:=h' }):wpAny (model prog w) A (Builtin.SmallTypes.nextOf (.ref it)) Q E s:=by
 cases b with
 | true=>exact wpAny_nextOf_list_item hit hl hx hQ
 | false=>exact Zmu hit hl hx hQ
theorem tT {b:Bool} {it l:Addr} {i:Nat} {items:Array Value} {Q:Ah} (hh:A.handled=none) (hit:ItAt b s.heap it l i) (hl:SqAt b s.heap l items) (hx:items[i]?=none)
  (hE:∀ h' e,Heap.ExtBut it s.heap h'->(∃ o,h'.get? e=some o/\o.cls=.type "StopIteration")->E (.ref e) { s with heap:=h' }):wpAny (model prog w) A (Builtin.SmallTypes.nextOf (.ref it)) Q E s:=by
 cases b with
 | true=>exact wpAny_nextOf_list_end hh hit hl hx hE
 | false=>exact Zmv hh hit hl hx hE
theorem ItAt.bt {b:Bool} {h h':Heap} {it a c:Addr} {k:Nat} (x:ItAt b h it a k) (e:Heap.ExtBut c h h') (n:it≠c):ItAt b h' it a k:=x.at λo q=>e it o n q
theorem SqAt.bt {b:Bool} {h h':Heap} {a c:Addr} {items:Array Value} (x:SqAt b h a items) (e:Heap.ExtBut c h h') (n:a≠c):SqAt b h' a items:=x.at λo q=>e a o n q
theorem Zji {b1 b2:Bool} {z TI TO i1 i2 l1 l2:Addr} {k1 k2:Nat} {xs ys:Array Value} {x y a b:Value} {Q:Ah} (D:ZipApart z TI TO i1 i2 l1 l2)
  (hz:IsZip s.heap z TI TO .none) (hTI:IsPair s.heap TI (.ref i1) (.ref i2)) (hTO:IsPair s.heap TO a b) (h1:ItAt b1 s.heap i1 l1 k1) (h2:ItAt b2 s.heap i2 l2 k2) (hl1:SqAt b1 s.heap l1 xs) (hl2:SqAt b2 s.heap l2 ys) (hx:xs[k1]?=some x) (hy:ys[k2]?=some y)
  (hQ:∀ h',IsZip h' z TI TO (rawInt s.heap.objs.size)->IsPair h' TO x y->ItAt b1 h' i1 l1 (k1+1)->ItAt b2 h' i2 l2 (k2+1)->IsPair h' s.heap.objs.size x y ->
   (∀ c o,c≠z->c≠TO->c≠i1->c≠i2->s.heap.get? c=some o->h'.get? c=some o)->Q (.ref s.heap.objs.size) { s with heap:=h' }) :
  wpAny (model prog w) A (Builtin.«zip.__next__» ⟨[.ref z],[]⟩) (λfin s'=>∃ v,fin=.done (.ret v)/\Q v s') E s:=by
 show wpAny _ _ (field (.ref z) 2 >>= _) _ _ _; refine wpAny_bind (wpAny_field hz rfl (x:=.bool false) rfl ?_)
 show wpAny _ _ (field (.ref z) 3 >>= _) _ _ _; refine wpAny_bind (wpAny_field hz rfl (x:=.ref TI) rfl ?_); refine wpAny_bind (wpAny_seqItems hTI rfl ?_)
 show wpAny _ _ (Builtin.SmallTypes.ownedTupleIsFree (.ref z) >>= _) _ _ _; refine wpAny_bind ?_; unfold Builtin.SmallTypes.ownedTupleIsFree
 refine wpAny_bind (wpAny_field hz rfl (x:=.none) rfl (wpAny_pure ?_)); simp only [if_true]; refine wpAny_bind (wpAny_rule ?_); refine wpAny_bind (wpAny_field hz rfl (x:=.ref TO) rfl ?_)
 refine wpAny_bind (wpAny_setField_rec hz (by simp) λg1 hz1 e1=>?_); replace hz1:IsZip g1 z TI TO .ellipsis:=hz1
 refine wpAny_bind ?_; simp only [List.zipIdx_cons,List.zipIdx_nil,y4,zN]; refine wpAny_bind (wpAny_bind (wpAny_onRaise ?_))
 show wpAny _ _ (Builtin.SmallTypes.nextOf (.ref i1) >>= _) _ _ _; refine wpAny_bind (oT (h1.bt e1.extBut D.i1z) (hl1.bt e1.extBut D.l1z) hx λg2 t1 e2=>wpAny_pure ?_)
 have p2:IsPair g2 TO a b:=e2.extBut _ _ D.TOi1 (e1.extBut _ _ D.TOz hTO)
 refine wpAny_bind (wpAny_seqItems p2 rfl ?_); refine wpAny_bind (wpAny_updateSeq_pair p2 λg3 p3 e3=>?_); replace p3:IsPair g3 TO x b:=p3
 refine wpAny_bind (wpAny_letGo (wpAny_pure ?_)); refine wpAny_bind (wpAny_bind (wpAny_onRaise ?_))
 show wpAny _ _ (Builtin.SmallTypes.nextOf (.ref i2) >>= _) _ _ _
 refine wpAny_bind (oT (((h2.bt e1.extBut D.i2z).bt e2.extBut D.i12.symm).bt e3.extBut D.TOi2.symm) (((hl2.bt e1.extBut D.l2z).bt e2.extBut D.l2i1).bt e3.extBut D.l2TO) hy λg4 t2 e4=>wpAny_pure ?_)
 have p4:IsPair g4 TO x b:=e4.extBut _ _ D.TOi2 p3
 refine wpAny_bind (wpAny_seqItems p4 rfl ?_); refine wpAny_bind (wpAny_updateSeq_pair p4 λg5 p5 e5=>?_); replace p5:IsPair g5 TO x y:=p5
 refine wpAny_bind (wpAny_letGo (wpAny_pure (wpAny_pure ?_))); refine wpAny_bind (wpAny_seqItems p5 rfl ?_); refine wpAny_bind (wpAny_newTuple ?_)
 have hsz:g5.objs.size=s.heap.objs.size:=by rw [e5.1,e4.1,e3.1,e2.1,e1.1]
 have z5:IsZip g5 z TI TO .ellipsis:=e5.extBut _ _ D.TOz.symm (e4.extBut _ _ D.i2z.symm (e3.extBut _ _ D.TOz.symm (e2.extBut _ _ D.i1z.symm hz1)))
 have k5:∀ c o,c≠z->c≠TO->c≠i1->c≠i2->s.heap.get? c=some o->g5.get? c=some o:=λc o c1 c2 c3 c4 q=>e5.extBut _ _ c2 (e4.extBut _ _ c4 (e3.extBut _ _ c2 (e2.extBut _ _ c3 (e1.extBut _ _ c1 q))))
 have u1:ItAt b1 g5 i1 l1 (k1+1):=((t1.bt e3.extBut D.TOi1.symm).bt e4.extBut D.i12).bt e5.extBut D.TOi1.symm
 have u2:ItAt b2 g5 i2 l2 (k2+1):=t2.bt e5.extBut D.TOi2.symm
 have zlt:z < g5.objs.size:=wq z5
 show wpAny _ _ (Builtin.SmallTypes.ownedTupleHandOut (.ref z) (.ref g5.objs.size) >>= _) _ _ _; refine wpAny_bind ?_; unfold Builtin.SmallTypes.ownedTupleHandOut
 have z6:IsZip (g5.push { cls:=.type "tuple",data:=.seq #[x,y] }) z TI TO .ellipsis:=v6 _ z5
 refine wpAny_bind (wpAny_setField_rec z6 (by simp) λg7 z7 e7=>?_); replace z7:IsZip g7 z TI TO (rawInt g5.objs.size):=z7
 refine wpAny_setField_rec z7 (by simp) λg8 z8 e8=>?_; replace z8:IsZip g8 z TI TO (rawInt g5.objs.size):=z8
 have up:∀ c o,c≠z->g5.get? c=some o->g8.get? c=some o:=λc o c1 q=>e8.extBut _ _ c1 (e7.extBut _ _ c1 (v6 _ q))
 have t8:IsPair g8 g5.objs.size x y:=e8.extBut _ _ (xb zlt) (e7.extBut _ _ (xb zlt) (wc _ rfl))
 rw [hsz] at z8 t8
 refine wpAny_pure ⟨_,rfl,?_⟩; show Q (.ref g5.objs.size) _; rw [hsz]
 exact hQ g8 z8 (up _ _ D.TOz p5) (u1.at λo q=>up _ o D.i1z q) (u2.at λo q=>up _ o D.i2z q) t8 λc o c1 c2 c3 c4 q=>up c o c1 (k5 c o c1 c2 c3 c4 q)
theorem Zjj {b1 b2:Bool} {z TI TO i1 i2 l1 l2:Addr} {k1 k2:Nat} {xs ys:Array Value} {a b:Value} {Q:Fin->Shared->Prop} (hh:A.handled=none) (D:ZipApart z TI TO i1 i2 l1 l2)
  (hz:IsZip s.heap z TI TO .none) (hTI:IsPair s.heap TI (.ref i1) (.ref i2)) (hTO:IsPair s.heap TO a b) (h1:ItAt b1 s.heap i1 l1 k1) (h2:ItAt b2 s.heap i2 l2 k2) (hl1:SqAt b1 s.heap l1 xs) (hl2:SqAt b2 s.heap l2 ys) (hend:xs[k1]?=none\/ys[k2]?=none)
  (hE:∀ h' e,(∀ c o,c≠z->c≠TO->c≠i1->c≠i2->s.heap.get? c=some o->h'.get? c=some o)->(∃ o,h'.get? e=some o/\o.cls=.type "StopIteration")->E (.ref e) { s with heap:=h' }) :
  wpAny (model prog w) A (Builtin.«zip.__next__» ⟨[.ref z],[]⟩) Q E s:=by
 show wpAny _ _ (field (.ref z) 2 >>= _) _ _ _; refine wpAny_bind (wpAny_field hz rfl (x:=.bool false) rfl ?_)
 show wpAny _ _ (field (.ref z) 3 >>= _) _ _ _; refine wpAny_bind (wpAny_field hz rfl (x:=.ref TI) rfl ?_); refine wpAny_bind (wpAny_seqItems hTI rfl ?_)
 show wpAny _ _ (Builtin.SmallTypes.ownedTupleIsFree (.ref z) >>= _) _ _ _; refine wpAny_bind ?_; unfold Builtin.SmallTypes.ownedTupleIsFree
 refine wpAny_bind (wpAny_field hz rfl (x:=.none) rfl (wpAny_pure ?_)); simp only [if_true]; refine wpAny_bind (wpAny_rule ?_); refine wpAny_bind (wpAny_field hz rfl (x:=.ref TO) rfl ?_)
 refine wpAny_bind (wpAny_setField_rec hz (by simp) λg1 hz1 e1=>?_); replace hz1:IsZip g1 z TI TO .ellipsis:=hz1
 refine wpAny_bind ?_; simp only [List.zipIdx_cons,List.zipIdx_nil,y4,zN]; refine wpAny_bind (wpAny_bind (wpAny_onRaise ?_))
 show wpAny _ _ (Builtin.SmallTypes.nextOf (.ref i1) >>= _) _ _ _
 cases hx:xs[k1]? with
 | none =>
  refine wpAny_bind (tT hh (h1.bt e1.extBut D.i1z) (hl1.bt e1.extBut D.l1z) hx λg2 e e2 he=>?_)
  obtain ⟨oe,hoe,hce⟩:=he
  have z2:IsZip g2 z TI TO .ellipsis:=e2 _ _ D.i1z.symm hz1
  have ne:e≠z:=λq=>by subst q; rw [z2] at hoe; cases hoe; simp at hce
  exact wpAny_setField_rec z2 (by simp) λg3 _ e3=>hE g3 e (λc o c1 _ c3 _ q=>e3.extBut _ _ c1 (e2 _ _ c3 (e1.extBut _ _ c1 q))) ⟨oe,e3.extBut _ _ ne hoe,hce⟩
 | some x =>
  have hy:ys[k2]?=none:=by rcases hend with h | h; rw [hx] at h; cases h; exact h
  refine wpAny_bind (oT (h1.bt e1.extBut D.i1z) (hl1.bt e1.extBut D.l1z) hx λg2 t1 e2=>wpAny_pure ?_)
  have p2:IsPair g2 TO a b:=e2.extBut _ _ D.TOi1 (e1.extBut _ _ D.TOz hTO)
  refine wpAny_bind (wpAny_seqItems p2 rfl ?_); refine wpAny_bind (wpAny_updateSeq_pair p2 λg3 p3 e3=>?_)
  refine wpAny_bind (wpAny_letGo (wpAny_pure ?_)); refine wpAny_bind (wpAny_bind (wpAny_onRaise ?_))
  show wpAny _ _ (Builtin.SmallTypes.nextOf (.ref i2) >>= _) _ _ _
  refine wpAny_bind (tT hh (((h2.bt e1.extBut D.i2z).bt e2.extBut D.i12.symm).bt e3.extBut D.TOi2.symm) (((hl2.bt e1.extBut D.l2z).bt e2.extBut D.l2i1).bt e3.extBut D.l2TO) hy λg4 e e4 he=>?_)
  obtain ⟨oe,hoe,hce⟩:=he
  have z4:IsZip g4 z TI TO .ellipsis:=e4 _ _ D.i2z.symm (e3.extBut _ _ D.TOz.symm (e2.extBut _ _ D.i1z.symm hz1))
  have ne:e≠z:=λq=>by subst q; rw [z4] at hoe; cases hoe; simp at hce
  exact wpAny_setField_rec z4 (by simp) λg5 _ e5=>hE g5 e (λc o c1 c2 c3 c4 q=>e5.extBut _ _ c1 (e4 _ _ c4 (e3.extBut _ _ c2 (e2.extBut _ _ c3 (e1.extBut _ _ c1 q))))) ⟨oe,e5.extBut _ _ ne hoe,hce⟩
noncomputable def eV (b:Bool) (l:Addr):Obj:=match b with
 | true=>{ cls:=.type "list_iterator",data:=.fields #[.ref l,.int 0 0] }
 | false=>{ cls:=.type "tuple_iterator",data:=.fields #[.ref l,.int 0 0] }
theorem gU {b:Bool} {l:Addr} {items:Array Value} {Q:Ah} (hl:SqAt b s.heap l items) (hQ:Q (.ref s.heap.objs.size) { s with heap:=s.heap.push (eV b l) }):wpAny (model prog w) A (pyIter (.ref l)) Q E s:=by
 cases b with
 | true=>exact wpAny_pyIter_list hl hQ
 | false=>exact wpAny_pyIter_tuple hl hQ
theorem SqAt.push {b:Bool} {h:Heap} {l:Addr} {items:Array Value} (x:SqAt b h l items) (o:Obj):SqAt b (h.push o) l items:=x.at λ_ q=>v6 _ q
theorem jD {b:Bool} {h:Heap} {it l:Addr} (e:h.get? it=some (eV b l)):ItAt b h it l 0:=by
 cases b with
 | true=>exact ⟨_,e,rfl,rfl⟩
 | false=>exact ⟨_,e,rfl,rfl⟩
noncomputable abbrev zA (b1:Bool) (h:Heap) (l1:Addr):Heap:=h.push (eV b1 l1)
noncomputable abbrev zB (b1 b2:Bool) (h:Heap) (l1 l2:Addr):Heap:=(zA b1 h l1).push (eV b2 l2)
noncomputable abbrev zC (b1 b2:Bool) (h:Heap) (l1 l2:Addr):Heap:=(zB b1 b2 h l1 l2).push { cls:=.type "tuple",data:=.seq #[.ref h.objs.size,.ref (zA b1 h l1).objs.size] }
noncomputable abbrev zD (b1 b2:Bool) (h:Heap) (l1 l2:Addr):Heap:=(zC b1 b2 h l1 l2).push { cls:=.type "tuple",data:=.seq #[.none,.none] }
noncomputable abbrev zH (b1 b2:Bool) (h:Heap) (l1 l2:Addr):Heap:=(zD b1 b2 h l1 l2).push { cls:=.type "zip",data:=.fields #[.none,.bool false,.bool false,.ref (zB b1 b2 h l1 l2).objs.size,.ref (zC b1 b2 h l1 l2).objs.size] }
theorem ZmM (b1 b2:Bool) (l1 l2:Addr) (xs ys:Array Value) :
  Meets (Builtin.«zip.__new__» ⟨[.type "zip",.ref l1,.ref l2],[]⟩) (λ_ R s=>SqAt b1 s.heap l1 xs/\SqAt b2 s.heap l2 ys/\R (.ok (.ret (.ref (zD b1 b2 s.heap l1 l2).objs.size))) { s with heap:=zH b1 b2 s.heap l1 l2 }) :=
 .of_wp λprog w A R s h=>by
  obtain ⟨hp,g,d,tk,os⟩:=s
  obtain ⟨hl1,hl2,h⟩:=h
  have hsub:=sub_zip
  have q1:SqAt b1 (Shared.heap ⟨hp,g,d,tk,os⟩) l1 xs:=hl1
  have q2:SqAt b2 (Shared.heap ⟨hp.push (eV b1 l1),g,d,tk,os⟩) l2 ys:=hl2.push _
  wp_walk using gU q1,gU q2
  exact ⟨_,rfl,h⟩
theorem ZpB {b1 b2:Bool} {l1 l2:Addr} {xs ys:Array Value} {Q:Ah} (hl1:SqAt b1 s.heap l1 xs) (hl2:SqAt b2 s.heap l2 ys)
  (h:∀ h',IsZip h' (s.heap.objs.size+4) (s.heap.objs.size+2) (s.heap.objs.size+3) .none->IsPair h' (s.heap.objs.size+2) (.ref s.heap.objs.size) (.ref (s.heap.objs.size+1))->IsPair h' (s.heap.objs.size+3) .none .none ->
   ItAt b1 h' s.heap.objs.size l1 0->ItAt b2 h' (s.heap.objs.size+1) l2 0->(∀ c o,s.heap.get? c=some o->h'.get? c=some o)->Q (.ref (s.heap.objs.size+4)) { s with heap:=h' }) :
  wpAny (model prog w) A (call (.type "zip") [.ref l1,.ref l2]) Q E s:=by
 refine callType_new F.called_zip (by decide) (F.typeCall_zip_2 _ _) (F.newCall_zip_2 _ _) (λobj=>F.args_object_init_3 obj _ _) F.entry_zip_new (ZmM b1 b2 l1 l2 xs ys) ⟨hl1,hl2,?_⟩
 have n1:(zA b1 s.heap l1).objs.size=s.heap.objs.size+1:=wX ..
 have n2:(zB b1 b2 s.heap l1 l2).objs.size=s.heap.objs.size+2:=(wX ..).trans (by rw [n1])
 have n3:(zC b1 b2 s.heap l1 l2).objs.size=s.heap.objs.size+3:=(wX ..).trans (by rw [n2])
 have n4:(zD b1 b2 s.heap l1 l2).objs.size=s.heap.objs.size+4:=(wX ..).trans (by rw [n3])
 have a5:IsZip (zH b1 b2 s.heap l1 l2) (zD b1 b2 s.heap l1 l2).objs.size (zB b1 b2 s.heap l1 l2).objs.size (zC b1 b2 s.heap l1 l2).objs.size .none:=wc _ rfl
 have a4:IsPair (zH b1 b2 s.heap l1 l2) (zC b1 b2 s.heap l1 l2).objs.size .none .none:=v6 _ (wc _ rfl)
 have a3:IsPair (zH b1 b2 s.heap l1 l2) (zB b1 b2 s.heap l1 l2).objs.size (.ref s.heap.objs.size) (.ref (zA b1 s.heap l1).objs.size):=v6 _ (v6 _ (wc _ rfl))
 have a2:(zH b1 b2 s.heap l1 l2).get? (zA b1 s.heap l1).objs.size=some (eV b2 l2):=v6 _ (v6 _ (v6 _ (wc _ (by cases b2 <;> rfl))))
 have a1:(zH b1 b2 s.heap l1 l2).get? s.heap.objs.size=some (eV b1 l1):=v6 _ (v6 _ (v6 _ (v6 _ (wc _ (by cases b1 <;> rfl)))))
 rw [n2,n3,n4] at a5
 rw [n3] at a4
 rw [n1,n2] at a3
 rw [n1] at a2
 show _/\_
 rw [n4]
 exact ⟨⟨_,a5,rfl⟩,h _ a5 a3 a4 (jD a1) (jD a2) λc o x=>v6 _ (v6 _ (v6 _ (v6 _ (v6 _ x))))⟩
theorem Zlg {b1 b2:Bool} {z TI TO i1 i2 l1 l2:Addr} {k1 k2:Nat} {xs ys:Array Value} {x y a b:Value} {Q:Option Value->Shared->Prop} (D:ZipApart z TI TO i1 i2 l1 l2)
  (hz:IsZip s.heap z TI TO .none) (hTI:IsPair s.heap TI (.ref i1) (.ref i2)) (hTO:IsPair s.heap TO a b) (h1:ItAt b1 s.heap i1 l1 k1) (h2:ItAt b2 s.heap i2 l2 k2) (hl1:SqAt b1 s.heap l1 xs) (hl2:SqAt b2 s.heap l2 ys) (hx:xs[k1]?=some x) (hy:ys[k2]?=some y)
  (hQ:∀ h',IsZip h' z TI TO (rawInt s.heap.objs.size)->IsPair h' TO x y->ItAt b1 h' i1 l1 (k1+1)->ItAt b2 h' i2 l2 (k2+1)->IsPair h' s.heap.objs.size x y ->
   (∀ c o,c≠z->c≠TO->c≠i1->c≠i2->s.heap.get? c=some o->h'.get? c=some o)->Q (some (.ref s.heap.objs.size)) { s with heap:=h' }):wpAny (model prog w) A (pyNext (.ref z)) Q E s:=by
 have hT:s.TypeIs (.ref z) "zip":=⟨_,hz,rfl⟩
 unfold pyNext
 exact wpAny_bind (wpAny_attempt (wpAny_callSpecial?_slot (name:=Str.ofString "__next__") hT zh (wpAny_call_entry zh hT F.entry_zip_next (Zji D hz hTI hTO h1 h2 hl1 hl2 hx hy λh' a1 a2 a3 a4 a5 a6=>wpAny_pure (hQ h' a1 a2 a3 a4 a5 a6)) (F.args_zip_next_1 _))))
theorem Zlh {b1 b2:Bool} {z TI TO i1 i2 l1 l2:Addr} {k1 k2:Nat} {xs ys:Array Value} {a b:Value} {Q:Option Value->Shared->Prop} (hh:A.handled=none) (D:ZipApart z TI TO i1 i2 l1 l2)
  (hz:IsZip s.heap z TI TO .none) (hTI:IsPair s.heap TI (.ref i1) (.ref i2)) (hTO:IsPair s.heap TO a b) (h1:ItAt b1 s.heap i1 l1 k1) (h2:ItAt b2 s.heap i2 l2 k2) (hl1:SqAt b1 s.heap l1 xs) (hl2:SqAt b2 s.heap l2 ys) (hend:xs[k1]?=none\/ys[k2]?=none)
  (hQ:∀ h',(∀ c o,c≠z->c≠TO->c≠i1->c≠i2->s.heap.get? c=some o->h'.get? c=some o)->Q none { s with heap:=h' }):wpAny (model prog w) A (pyNext (.ref z)) Q E s:=by
 have hT:s.TypeIs (.ref z) "zip":=⟨_,hz,rfl⟩
 unfold pyNext
 refine wpAny_bind (wpAny_attempt (wpAny_callSpecial?_slot (name:=Str.ofString "__next__") hT zh (wpAny_call_entry zh hT F.entry_zip_next (Zjj hh D hz hTI hTO h1 h2 hl1 hl2 hend λh' e hk he=>?_) (F.args_zip_next_1 _))))
 obtain ⟨o,ho,hc⟩:=he
 exact wpAny_bind (wpAny_isInstance (T:="StopIteration") (b:=true) ⟨o,ho,hc⟩ isSubtype_stop (wpAny_pure (hQ _ hk)))
end
section
variable {X:Cx} {pins:List (Addr×Obj)} {σ:St} {H:Hp} {s:Shared} {h':Heap}
theorem Inv.turns {t':Nat} {ch:List Addr} (I:Inv X pins σ H s) (k:∀ b o,b ∉ ch->s.heap.get? b=some o->h'.get? b=some o) (hf:∀ b∈ch,gg X pins H b):Inv X pins σ H { s with heap:=h',toks:=t' }:=by
 have nit:∀ b u,H b=some u->b ∉ ch:=λb u e z=>by rw [(hf b z).1] at e; cases e
 refine I.step (g':=s.gens) (d':=s.drawn) (ch:=ch) (λb hb=>?_) (λb o _ _ hc e _=>k b o hc e) (λb o _ _ hc e _=>⟨o.slots,k b o hc e⟩) (λ_ _ _ _ n=>n)
  (λb o hc e=>⟨o,k b o hc e⟩) (λ_ _ e=>e) (λ_ _ _ e=>e) (λb ps e=>⟨#[],by rw [e]; simp⟩) (λm hm=>?_) (λb u e=>?_) I.bare
 ·obtain ⟨_,f1,_,f3,f4,f5⟩:=hf b hb
  exact ⟨f3,f1,f4,f5⟩
 ·obtain ⟨o,es,ep,ho,r⟩:=hm
  exact ⟨o,es,ep,k _ o (λz=>(hf _ z).2.1 rfl) ho,r⟩
 ·refine (I.hok b u e).stay (λc v hc q=>k c v ?_ q) (λ_ q=>q) λ_ _ q=>q
  rcases hc with z | z
  ·rw [z]; exact nit b u e
  ·exact nit c _ z
theorem Inv.pair {T:Addr} {x y:V} {u v:Value} (I:Inv X pins σ H s) (hT:H T=none) (ho:IsPair s.heap T u v) (r1:RelV x u) (r2:RelV y v)
  (hL:T≠X.env.locals) (hs0:X.s₀.heap.objs.size<=T) (hc:∀ x c,X.env.cells.lookup x=some c->c≠T) (hp:∀ p∈X.pn++pins,p.1≠T):Inv X pins σ (upd H T (.tup [x,y])) s:=by
 have ne:∀ {b:Addr} {o:HO},H b=some o->b≠T:=λe=>de e hT
 refine I.step (g':=s.gens) (d':=s.drawn) (t':=s.toks) (h':=s.heap) (ch:=[T]) (λb hb=>?_) (λb o _ _ _ e _=>e) (λb o _ _ _ e _=>⟨o.slots,e⟩) (λb o hb e n=>?_) (λb o _ e=>⟨o,e⟩)
  (λb xs e=>by rw [bc (ne e)]; exact e) (λb o u e=>by rw [bc (ne e)]; exact e) (λb ps e=>⟨#[],by rw [bc (ne e),e]; simp⟩) (λm hm=>hm) (λb u e=>?_) I.bare
 ·have e:b=T:=by simpa using hb
  subst e
  exact ⟨.inr hs0,hL,hc,hp⟩
 ·have hb':b≠T:=by simpa using hb
  rw [bc hb']
  exact n
 ·by_cases hb:b=T
  ·subst hb
   rw [cA] at e
   cases e
   exact ⟨by show 2<=sizeLine; decide,[_,_],.cons r1 (.cons r2 .nil),⟨_,ho,rfl,_,rfl⟩⟩
  ·rw [bc hb] at e
   exact (I.hok b u e).stay (λc v _ q=>q) (λc q=>by rw [bc (ne q)]; exact q) λc xs q=>by rw [bc (ne q)]; exact q
end
noncomputable def br (b:Bool) (xs:An):HO:=match b with
 | true=>.lst xs
 | false=>.tup xs
theorem dH {P:Program} {w:World} {H:Hp} {h:Heap} (ok:HOk P w H h) {b:Bool} {a:Addr} {xs:An} (e:H a=some (br b xs)):∃ its:Ak,Vals xs its/\SqAt b h a its.toArray:=by
 cases b with
 | true=>obtain ⟨_,its,n,r,q⟩:=ok a _ e; exact ⟨its,r,⟨_,q,rfl,n,rfl⟩⟩
 | false=>obtain ⟨_,its,r,q⟩:=ok a _ e; exact ⟨its,r,q⟩
noncomputable def jf (b1 b2:Bool) (l1 l2:Addr):It :=
 ⟨λi H=>∃ xs ys x y,H l1=some (br b1 xs)/\H l2=some (br b2 ys)/\xs[i]?=some x/\ys[i]?=some y,
  λi H v H'=>∃ xs ys x y p,H l1=some (br b1 xs)/\H l2=some (br b2 ys)/\xs[i]?=some x/\ys[i]?=some y/\H p=none/\v=.ref p/\H'=upd H p (.tup [x,y]),
  λi H=>∃ xs ys,H l1=some (br b1 xs)/\H l2=some (br b2 ys)/\(xs[i]?=none\/ys[i]?=none)⟩
noncomputable def ZSt (b1 b2:Bool) (z TI TO i1 i2 l1 l2:Addr) (i:Nat) (h:Heap):Prop :=
 IsZip h z TI TO .none/\IsPair h TI (.ref i1) (.ref i2)/\(∃ a b,IsPair h TO a b)/\ItAt b1 h i1 l1 i/\ItAt b2 h i2 l2 i
theorem Zjz {P:Program} {w:World} {K:zZ} {elts:List Expr} {x1:Nat} {pos:Pos} {b1 b2:Bool} {l1 l2:Addr} (z TI TO i1 i2:Addr)
  (d:TI≠z/\TO≠z/\i1≠z/\i2≠z/\TI≠TO/\TI≠i1/\TI≠i2/\TO≠i1/\TO≠i2/\i1≠i2) :
  Turn P w K (.Tuple elts x1 pos) (jf b1 b2 l1 l2) [z,TI,TO,i1,i2] z (ZSt b1 b2 z TI TO i1 i2 l1 l2) where
 mem:=by simp
 obj:=λi h st b hb=>by
  obtain ⟨hz,hTI,⟨a,c,hTO⟩,h1,h2⟩:=st
  simp at hb
  rcases hb with rfl | rfl | rfl | rfl | rfl
  ·exact ⟨_,hz,λv q=>by cases q⟩
  ·exact ⟨_,hTI,λv q=>by cases q⟩
  ·exact ⟨_,hTO,λv q=>by cases q⟩
  ·exact h1.there
  ·exact h2.there
 keep:=λi h h' st k=>by
  obtain ⟨hz,hTI,⟨a,c,hTO⟩,h1,h2⟩:=st
  exact ⟨k _ (by simp) _ hz,k _ (by simp) _ hTI,⟨a,c,k _ (by simp) _ hTO⟩,h1.at λo e=>k _ (by simp) o e,h2.at λo e=>k _ (by simp) o e⟩
 item:=by
  intro X hP hw hK hc i pins s σ H E I hf st hg
  subst hP hw hK
  obtain ⟨xs,ys,x,y,e1,e2,hx,hy⟩:=hg
  obtain ⟨hz,hTI,⟨a,c,hTO⟩,h1,h2⟩:=st
  obtain ⟨us,r1,q1⟩:=dH I.hok e1
  obtain ⟨vs,r2,q2⟩:=dH I.hok e2
  obtain ⟨u,hu,ru⟩:=r1.get hx
  obtain ⟨v,hv,rv⟩:=r2.get hy
  have n1:∀ b∈[z,TI,TO,i1,i2],l1≠b/\l2≠b:=λb hb=>⟨de e1 (hf b hb).1,de e2 (hf b hb).1⟩
  obtain ⟨d1,d2,d3,d4,d5,d6,d7,d8,d9,d10⟩:=d
  have D:ZipApart z TI TO i1 i2 l1 l2:=⟨d1,d2,d3,d4,d5,d6,d7,d8,d9,d10,(n1 z (by simp)).1,(n1 TO (by simp)).1,(n1 i1 (by simp)).1,(n1 i2 (by simp)).1,(n1 z (by simp)).2,(n1 TO (by simp)).2,(n1 i1 (by simp)).2,(n1 i2 (by simp)).2⟩
  refine Zlg D hz hTI hTO h1 h2 q1 q2 (by simpa using hu) (by simpa using hv) λh' z' p' t1 t2 pr kk=>?_
  refine ⟨_,rfl,wpAny_letOwnedTupleGo_zip z' λh2' z2 sb=>?_⟩
  have lt:∀ {b:Addr} {o:Obj},s.heap.get? b=some o->s.heap.objs.size≠b:=λq=>xb (wq q)
  have zlt:=lt hz
  have I1:Inv X pins σ H { s with heap:=h2' }:=I.turns (ch:=[z,TI,TO,i1,i2]) (t':=s.toks) (λb o hb e=>by
   simp at hb
   exact sb.extBut _ _ hb.1 (kk b o hb.1 hb.2.2.1 hb.2.2.2.1 hb.2.2.2.2 e)) hf
  have hTn:H s.heap.objs.size=none:=I.hok.fresh (wa _)
  have I2:=I1.pair (T:=s.heap.objs.size) (x:=x) (y:=y) hTn (sb.extBut _ _ zlt pr) ru rv (xb I.lt) I.sz
   (λq cc e hq=>by obtain ⟨vv,zz⟩:=I.cell q cc e; exact absurd zz.lt (by rw [hq]; exact wH _)) (λp hp hq=>absurd (wq (I.pin p hp).1) (by rw [hq]; exact wH _))
  refine ⟨.ref s.heap.objs.size,_,I2,rfl,⟨xs,ys,x,y,_,e1,e2,hx,hy,hTn,rfl,rfl⟩,⟨z2,sb.extBut _ _ d1 (kk _ _ d1 d5 d6 d7 hTI),⟨u,v,sb.extBut _ _ d2 p'⟩,t1.at λo e=>sb.extBut _ _ d3 e,t2.at λo e=>sb.extBut _ _ d4 e⟩,λb hb=>?_⟩
  have hbn:b≠s.heap.objs.size:=by
   simp at hb
   obtain ⟨o1,g1,_⟩:=h1.there
   obtain ⟨o2,g2,_⟩:=h2.there
   rcases hb with rfl | rfl | rfl | rfl | rfl
   ·exact (lt hz).symm
   ·exact (lt hTI).symm
   ·exact (lt hTO).symm
   ·exact (lt g1).symm
   ·exact (lt g2).symm
  rw [bc hbn]
  exact (hf b hb).1
 done:=by
  intro X hP hw hK hc i pins s σ H E I hf st hg
  subst hP hw hK
  obtain ⟨xs,ys,e1,e2,hend⟩:=hg
  obtain ⟨hz,hTI,⟨a,c,hTO⟩,h1,h2⟩:=st
  obtain ⟨us,r1,q1⟩:=dH I.hok e1
  obtain ⟨vs,r2,q2⟩:=dH I.hok e2
  have n1:∀ b∈[z,TI,TO,i1,i2],l1≠b/\l2≠b:=λb hb=>⟨de e1 (hf b hb).1,de e2 (hf b hb).1⟩
  obtain ⟨d1,d2,d3,d4,d5,d6,d7,d8,d9,d10⟩:=d
  have D:ZipApart z TI TO i1 i2 l1 l2:=⟨d1,d2,d3,d4,d5,d6,d7,d8,d9,d10,(n1 z (by simp)).1,(n1 TO (by simp)).1,(n1 i1 (by simp)).1,(n1 i2 (by simp)).1,(n1 z (by simp)).2,(n1 TO (by simp)).2,(n1 i1 (by simp)).2,(n1 i2 (by simp)).2⟩
  refine Zlh (I.ok.hd hc) D hz hTI hTO h1 h2 q1 q2 (hend.imp (λq=>by simpa using r1.none_of q) (λq=>by simpa using r2.none_of q)) λh' kk=>⟨rfl,?_⟩
  exact I.turns (ch:=[z,TI,TO,i1,i2]) (t':=s.toks) (λb o hb e=>by
   simp at hb
   exact kk b o hb.1 hb.2.2.1 hb.2.2.2.1 hb.2.2.2.2 e) hf
 self:=λ_ _ _ _ _ st h=>wpAny_pyIter_zip st.1 h
end L2
set_option Elab.async false
set_option linter.all false
set_option maxRecDepth 100000
namespace L2
open AutoSeq1 (wpAny_loadPart')
section
variable {X:Cx} {tg:Expr} {PK:Pk} {a b:Expr} {i j:z9} {p pos:Pos}
def Zeg (ta tb:TE):TI:=λσ H R=>ta σ H λx H1=>tb σ H1 λy H2=>∃ b1 b2 l1 l2 xs ys,x=.ref l1/\y=.ref l2/\H2 l1=some (br b1 xs)/\H2 l2=some (br b2 ys)/\R (jf b1 b2 l1 l2) H2
theorem mo {elts:List Expr} {x1:Nat} {tpos:Pos} {ta tb:TE} (hc:X.calm=true) (hg:Gl X "zip") (hm:X.mg "zip"=none) (ha:PE X a ta) (hb:PE X b tb)
  (hs:starEach [a,b] X.env=[(false,eval a X.env),(false,eval b X.env)]:=by rfl) (hs2:starEach [b] X.env=[(false,eval b X.env)]:=by rfl):PI X (.Tuple elts x1 tpos) (.Call (.Name "zip" p) [a,b] [] pos) (Zeg ta tb):=by
 intro pins s σ H R I h
 have hab:PA X [a,b] (fB ta (fB tb aY)):=bI ha (bI hb cC (by rw [hs2]; rfl)) (by rw [hs,hs2])
 refine Call_ (iS I hg hm boot_zip (xk (thn (hab pos pins s σ H (λvs H2=>∃ b1 b2 l1 l2 xs ys,vs=[.ref l1,.ref l2]/\H2 l1=some (br b1 xs)/\H2 l2=some (br b2 ys)/\R (jf b1 b2 l1 l2) H2) I ?_) λus s1 ⟨vs,H1,I1,r1,q1⟩=>?_) (by rw [hs,hs2]) (by rw [hs2]; rfl)))
 ·refine (show ta σ H _ from ?_)
  have h':ta σ H λx H1=>tb σ H1 λy H2=>∃ b1 b2 l1 l2 xs ys,x=.ref l1/\y=.ref l2/\H2 l1=some (br b1 xs)/\H2 l2=some (br b2 ys)/\R (jf b1 b2 l1 l2) H2:=h
  have e:(λ(x:V) (H1:Hp)=>tb σ H1 λy H2=>∃ b1 b2 l1 l2 xs ys,x=.ref l1/\y=.ref l2/\H2 l1=some (br b1 xs)/\H2 l2=some (br b2 ys)/\R (jf b1 b2 l1 l2) H2) =
    λx H1=>fB tb aY σ H1 λxs H2=>∃ b1 b2 l1 l2 us ys,x::xs=[.ref l1,.ref l2]/\H2 l1=some (br b1 us)/\H2 l2=some (br b2 ys)/\R (jf b1 b2 l1 l2) H2:=by
   funext x H1
   show _=tb σ H1 _
   congr 1
   funext y H2
   show _=(∃ b1 b2 l1 l2 us ys,[x,y]=[.ref l1,.ref l2]/\H2 l1=some (br b1 us)/\H2 l2=some (br b2 ys)/\R (jf b1 b2 l1 l2) H2)
   apply propext
   constructor
   ·rintro ⟨b1,b2,l1,l2,xs,ys,rfl,rfl,q⟩; exact ⟨b1,b2,l1,l2,xs,ys,rfl,q⟩
   ·rintro ⟨b1,b2,l1,l2,xs,ys,e,q⟩
    have e1:x=V.ref l1/\y=V.ref l2:=by simpa using e
    exact ⟨b1,b2,l1,l2,xs,ys,e1.1,e1.2,q⟩
  rw [e] at h'
  exact h'
 ·obtain ⟨b1,b2,l1,l2,xs,ys,rfl,e1,e2,q⟩:=q1
  obtain ⟨u1,u2,rfl,r1,r2⟩:=nP r1
  cases r1
  cases r2
  obtain ⟨us,ru,q1⟩:=dH I1.hok e1
  obtain ⟨vs,rv,q2⟩:=dH I1.hok e2
  refine ZpB q1 q2 λh' z pTI pTO t1 t2 kk=>?_
  have I2:Inv X pins σ H1 { s1 with heap:=h' }:=I1.kept (t':=s1.toks) kk
  have na:∀ n k:Nat,n≠k->(s1.heap.objs.size+n:Nat)≠s1.heap.objs.size+k:=λn k h e=>h (by omega)
  refine wpAny_pyIter_zip z ⟨s1.heap.objs.size+4,[s1.heap.objs.size+4,s1.heap.objs.size+2,s1.heap.objs.size+3,s1.heap.objs.size,s1.heap.objs.size+1],_,_,H1,rfl,I2,Zjz _ _ _ _ _ ⟨na 2 4 (by decide),na 3 4 (by decide),na 0 4 (by decide),na 1 4 (by decide),na 2 3 (by decide),na 2 0 (by decide),na 2 1 (by decide),na 3 0 (by decide),na 3 1 (by decide),na 0 1 (by decide)⟩,⟨z,pTI,⟨_,_,pTO⟩,t1,t2⟩,λb hb=>?_,q⟩
  have hle:s1.heap.objs.size<=b:=by
   simp at hb
   rcases hb with rfl | rfl | rfl | rfl | rfl <;> first | exact Nat.le_add_right _ _ | exact wa _
  exact I1.fpOk hle (I1.hok.fresh hle)
noncomputable def bS (xs ys:Ai):Ai:=(xs.zip ys).map λ(x,y)=>.tuple [x,y]
theorem pN {G:Hp} {v:V} {x:PyData} {xs:Ai} (d:Dn G v x) (h:gI x=some xs):∃ b a vs,v=.ref a/\G a=some (br b vs)/\DnAll G vs xs:=by
 cases d with
 | lst h1 h2=>cases h; exact ⟨true,_,_,rfl,h1,h2⟩
 | tup h1 h2=>cases h; exact ⟨false,_,_,rfl,h1,h2⟩
 | _=>cases h
theorem uz {b:Bool} {xs ys:An} (h:some (br b xs)=some (br b ys)):xs=ys:=by
 cases b <;> (cases h; rfl)
theorem Zno {pa:Addr} {G:Hp} {b1 b2:Bool} {l1 l2:Addr} {us vs:An} {xs ys:Ai} (h1:G l1=some (br b1 us)) (h2:G l2=some (br b2 vs)) (d1:DnAll G us xs) (d2:DnAll G vs ys):jR PK pa (jf b1 b2 l1 l2) G (bS xs ys):=λm G2 H2 sb w=>by
 have e1:H2 l1=some (br b1 us):=w.sub _ _ (sb _ _ h1)
 have e2:H2 l2=some (br b2 vs):=w.sub _ _ (sb _ _ h2)
 refine ⟨λn d hd=>?_,us,vs,e1,e2,?_⟩
 ·unfold bS at hd
  rw [v9] at hd
  cases hz:(xs.zip ys)[n]? with
  | none=>rw [hz] at hd; cases hd
  | some xy =>
   rw [hz] at hd
   cases hd
   have hxy:=zL.mp hz
   obtain ⟨u,hu,du⟩:=d1.get n hxy.1
   obtain ⟨v,hv,dv⟩:=d2.get n hxy.2
   refine ⟨⟨us,vs,u,v,e1,e2,hu,hv⟩,λx H3 hz0=>?_⟩
   obtain ⟨us',vs',u',v',p,f1,f2,hu',hv',hp,ex,eH⟩:=hz0
   rw [e1] at f1
   rw [e2] at f2
   have:=uz f1
   have:=uz f2
   subst us' vs'
   rw [hu] at hu'
   rw [hv] at hv'
   cases hu'
   cases hv'
   subst ex eH
   obtain ⟨w3,s3⟩:=w.new (o:=.tup [u,v]) hp
   exact ⟨_,s3,w3,.tup cA (.cons ((du.mono sb).mono s3.gs) (.cons ((dv.mono sb).mono s3.gs) .nil))⟩
 ·unfold bS
  rw [v7,ye,d1.length.symm,d2.length.symm]
  rcases Nat.le_total us.length vs.length with hle | hle
  ·left
   rw [yU hle]
   simp
  ·right
   rw [Nat.min_eq_right hle]
   simp
noncomputable def jL (i j:z9):Aa:=λρ=>(i ρ).bind λx=>(j ρ).bind λy=>(Tr.of (gI x)).bind λxs=>(Tr.of (gI y)).bind λys=>.ret (bS xs ys)
theorem no {iter:Expr} (h:PI X tg iter (Zeg (TAe PK i) (TAe PK j))):PI X tg iter (fu PK (jL i j)):=h.imp λσ H R0 hz0=>by
 obtain ⟨pa,Aq,H₀,m,ρ,G,R,z⟩:=hz0
 refine TAe.then R z λm1 x v G1 H1 s1 w1 R1 d1 q1=>?_
 refine TAe.then R1 q1 λm2 y u G2 H2 s2 w2 R2 d2 q2=>?_
 rw [Tr.ok_bind] at q2
 obtain ⟨xs,hx,q2⟩:=Tr.ok_of q2
 rw [Tr.ok_bind] at q2
 obtain ⟨ys,hy,q2⟩:=Tr.ok_of q2
 obtain ⟨b1,l1,us,rfl,e1,f1⟩:=pN (d1.mono s2.gs) hx
 obtain ⟨b2,l2,vs,rfl,e2,f2⟩:=pN d2 hy
 exact ⟨b1,b2,l1,l2,us,vs,rfl,rfl,w2.sub _ _ e1,w2.sub _ _ e2,q2 _ G2 H2 (s1.trans s2 w1.some) w2 (Zno e1 e2 f1 f2)⟩
end
theorem Zh1 {prog:Program} {w:World} {A:Around} (hh:A.handled=none) (b:Bool) (it l:Addr) (hne:l≠it) (items:Array Value):Draws prog w A it [it,l] items.size (λi v=>items[i]?=some v) (λi h=>ItAt b h it l i/\SqAt b h l items) where
 live:=λ_ _ st=>let ⟨o,ho,_⟩:=st.1.there; ⟨o,ho⟩
 frame:=λ_ _ _ st hk=>⟨st.1.at λo e=>hk it (by simp) o e,st.2.at λo e=>hk l (by simp) o e⟩
 item:=λi s Q E hi st hQ=>oT st.1 st.2 (x:=items[i]) (by simp [hi]) λh' hit' hs'=>hQ _ h' s.toks (by simp [hi]) ⟨hit',st.2.bt hs'.extBut hne⟩ hs'
 done:=λs Q E st hE=>tT hh st.1 st.2 (by simp) hE
theorem ZmP (b:Bool) (l:Addr) (items:Array Value) :
  Meets (Builtin.«enumerate.__new__» ⟨[.type "enumerate",.ref l],[]⟩) (λ_ R s=>SqAt b s.heap l items /\
   R (.ok (.ret (.ref (s.heap.push (eV b l)).objs.size))) { s with heap:=(s.heap.push (eV b l)).push { cls:=.type "enumerate",data:=.fields #[.none,.bool false,.ref s.heap.objs.size,rawInt 0,.none,.none] } }) :=
 .of_wp λprog w A R s h=>by
  obtain ⟨hp,g,d,tk,os⟩:=s
  obtain ⟨hl,h⟩:=h
  have hsub:=sub_enumerate
  have q:SqAt b (Shared.heap ⟨hp,g,d,tk,os⟩) l items:=hl
  have ho:∃ ob,hp.get? l=some ob:=by
   cases b with
   | true=>obtain ⟨ob,e,_⟩:=hl; exact ⟨ob,e⟩
   | false=>obtain ⟨ob,e,_⟩:=hl; exact ⟨ob,e⟩
  obtain ⟨ob,ho⟩:=ho
  wp_walk using wpAny_loadPart' ho
  refine wpAny_stack_any λst=>wpAny_pure ?_
  split
  ·rename_i c _ _ _ _ _
   cases (c == Value.type "enumerate")
   ·wp_walk using wpAny_loadPart' ho,gU q
    exact ⟨_,rfl,h⟩
   ·wp_walk using wpAny_loadPart' ho,gU q
    exact ⟨_,rfl,h⟩
  ·wp_walk using wpAny_loadPart' ho,gU q
   exact ⟨_,rfl,h⟩
section
variable {prog:Program} {w:World} {A:Around} {E:Ah} {s:Shared}
theorem ZpF {b:Bool} {l:Addr} {items:Array Value} {Q:Ah} (hl:SqAt b s.heap l items)
  (h:∀ h',IsEnum h' (s.heap.objs.size+1) s.heap.objs.size 0 .none->ItAt b h' s.heap.objs.size l 0->(∀ c o,s.heap.get? c=some o->h'.get? c=some o)->Q (.ref (s.heap.objs.size+1)) { s with heap:=h' }) :
  wpAny (model prog w) A (call (.type "enumerate") [.ref l]) Q E s:=by
 refine callType_new F.called_enumerate (by decide) (F.typeCall_enumerate_1 _) (F.newCall_enumerate_1 _) (λobj=>zm obj _) F.entry_enumerate_new (ZmP b l items) ⟨hl,?_⟩
 have n1:(s.heap.push (eV b l)).objs.size=s.heap.objs.size+1:=wX ..
 have a2:IsEnum ((s.heap.push (eV b l)).push { cls:=.type "enumerate",data:=.fields #[.none,.bool false,.ref s.heap.objs.size,rawInt 0,.none,.none] }) (s.heap.push (eV b l)).objs.size s.heap.objs.size 0 .none:=wc _ rfl
 have a1:((s.heap.push (eV b l)).push { cls:=.type "enumerate",data:=.fields #[.none,.bool false,.ref s.heap.objs.size,rawInt 0,.none,.none] }).get? s.heap.objs.size=some (eV b l):=v6 _ (wc _ (by cases b <;> rfl))
 rw [n1] at a2
 show _/\_
 rw [n1]
 exact ⟨⟨_,a2,rfl⟩,h _ a2 (jD a1) λc o x=>v6 _ (v6 _ x)⟩
end
noncomputable def jT (b:Bool) (l:Addr):It :=
 ⟨λi H=>∃ xs x,H l=some (br b xs)/\xs[i]?=some x,
  λi H v H'=>∃ xs x p,H l=some (br b xs)/\xs[i]?=some x/\H p=none/\v=.ref p/\H'=upd H p (.tup [.int i,x]),
  λi H=>∃ xs,H l=some (br b xs)/\xs.length=i⟩
theorem ZjE {P:Program} {w:World} {K:zZ} {elts:List Expr} {x1:Nat} {pos:Pos} {b:Bool} {l:Addr} (e it:Addr) (hne:e≠it) :
  Turn P w K (.Tuple elts x1 pos) (jT b l) [e,it] e (λi h=>(∃ old,IsEnum h e it i old)/\ItAt b h it l i) where
 mem:=by simp
 obj:=λi h st c hb=>by
  obtain ⟨⟨old,he⟩,h1⟩:=st
  simp at hb
  rcases hb with rfl | rfl
  ·exact ⟨_,he,λv q=>by cases q⟩
  ·exact h1.there
 keep:=λi h h' st k=>by
  obtain ⟨⟨old,he⟩,h1⟩:=st
  exact ⟨⟨old,k _ (by simp) _ he⟩,h1.at λo q=>k _ (by simp) o q⟩
 item:=by
  intro X hP hw hK hc i pins s σ H E I hf st hg
  subst hP hw hK
  obtain ⟨xs,x,e1,hx⟩:=hg
  obtain ⟨⟨old,he⟩,h1⟩:=st
  obtain ⟨us,r1,q1⟩:=dH I.hok e1
  obtain ⟨u,hu,ru⟩:=r1.get hx
  have nl:∀ c∈[e,it],l≠c:=λc hc=>de e1 (hf c hc).1
  have hlt:i < us.toArray.size:=by
   have:=(we.mp hu).1
   simpa using this
  refine wpAny_pyNext_enum_itemD (Zh1 (A:=X.A.in1) (show X.A.in1.handled=none from I.ok.hd hc) b it l (nl it (by simp)) us.toArray) he ⟨h1,q1⟩ hlt hne (by simp only [wt,xC,or_false,not_or]; exact ⟨hne,(nl e (by simp)).symm⟩) λx' h' tk hP' ho st' hT hsz kk=>?_
  have hxu:x'=u:=by
   have q:us[i]?=some x':=by simpa using hP'
   rw [hu] at q
   cases q
   rfl
  subst hxu
  refine ⟨_,rfl,wpAny_letOwnedTupleGo_enum ho λh2' z2 sb=>?_⟩
  have lt:∀ {c:Addr} {o:Obj},s.heap.get? c=some o->s.heap.objs.size≠c:=λq=>xb (wq q)
  have I1:Inv X pins σ H { s with heap:=h2',toks:=tk+1 }:=I.turns (ch:=[e,it]) (λc o hb q=>by
   simp at hb
   exact sb.extBut _ _ hb.1 (kk c o hb.1 hb.2 q)) hf
  have hTn:H s.heap.objs.size=none:=I.hok.fresh (wa _)
  have I2:=I1.pair (T:=s.heap.objs.size) (x:=.int i) (y:=x) hTn (sb.extBut _ _ (lt he) hT) ⟨tk,rfl⟩ ru (xb I.lt) I.sz
   (λq cc ee hq=>by obtain ⟨vv,zz⟩:=I.cell q cc ee; exact absurd zz.lt (by rw [hq]; exact wH _)) (λp hp hq=>absurd (wq (I.pin p hp).1) (by rw [hq]; exact wH _))
  refine ⟨.ref s.heap.objs.size,_,I2,rfl,⟨xs,x,_,e1,hx,hTn,rfl,rfl⟩,⟨⟨_,z2⟩,st'.1.at λo q=>sb.extBut _ _ (Ne.symm hne) q⟩,λc hb=>?_⟩
  have hbn:c≠s.heap.objs.size:=by
   simp at hb
   obtain ⟨o1,g1,_⟩:=h1.there
   rcases hb with rfl | rfl
   ·exact (lt he).symm
   ·exact (lt g1).symm
  rw [bc hbn]
  exact (hf c hb).1
 done:=by
  intro X hP hw hK hc i pins s σ H E I hf st hg
  subst hP hw hK
  obtain ⟨xs,e1,hend⟩:=hg
  obtain ⟨⟨old,he⟩,h1⟩:=st
  obtain ⟨us,r1,q1⟩:=dH I.hok e1
  have nl:∀ c∈[e,it],l≠c:=λc hc=>de e1 (hf c hc).1
  have hsz:us.toArray.size=i:=by rw [wj,<- r1.length]; exact hend
  subst hsz
  refine wpAny_pyNext_enum_endD (Zh1 (A:=X.A.in1) (show X.A.in1.handled=none from I.ok.hd hc) b it l (nl it (by simp)) us.toArray) he ⟨h1,q1⟩ λh' eb=>⟨rfl,?_⟩
  exact I.turns (ch:=[e,it]) (t':=s.toks) (λc o hb q=>by
   simp at hb
   exact eb c o hb.2 q) hf
 self:=λ_ _ _ _ _ st h=>by
  obtain ⟨⟨old,he⟩,_⟩:=st
  exact wpAny_pyIter_enum he h
section
variable {X:Cx} {tg:Expr} {PK:Pk} {a b:Expr} {i j:z9} {p pos:Pos}
def Zek (ta:TE):TI:=λσ H R=>ta σ H λx H1=>∃ b l xs,x=.ref l/\H1 l=some (br b xs)/\R (jT b l) H1
theorem oC {elts:List Expr} {x1:Nat} {tpos:Pos} {ta:TE} (hc:X.calm=true) (hg:Gl X "enumerate") (hm:X.mg "enumerate"=none) (ha:PE X a ta)
  (hs:starEach [a] X.env=[(false,eval a X.env)]:=by rfl):PI X (.Tuple elts x1 tpos) (.Call (.Name "enumerate" p) [a] [] pos) (Zek ta):=by
 intro pins s σ H R I h
 have hab:PA X [a] (fB ta aY):=bI ha cC (by rw [hs]; rfl)
 have h':fB ta aY σ H λvs H1=>∃ x,vs=[x]/\∃ b l xs,x=.ref l/\H1 l=some (br b xs)/\R (jT b l) H1:=by
  have e:(λ(x:V) (H1:Hp)=>∃ b l xs,x=.ref l/\H1 l=some (br b xs)/\R (jT b l) H1)=λx H1=>aY σ H1 λxs H2=>∃ y,x::xs=[y]/\∃ b l xs,y=.ref l/\H2 l=some (br b xs)/\R (jT b l) H2:=by
   funext x H1
   apply propext
   constructor
   ·exact λq=>⟨x,rfl,q⟩
   ·rintro ⟨y,e,q⟩
    have e':x=y:=by simpa using e
    subst e'
    exact q
  have h0:ta σ H λx H1=>∃ b l xs,x=.ref l/\H1 l=some (br b xs)/\R (jT b l) H1:=h
  rw [e] at h0
  exact h0
 refine Call_ (iS I hg hm boot_enumerate (xk (thn (hab pos pins s σ H _ I h') λus s1 hz0=>?_) (by rw [hs]; rfl) rfl))
 obtain ⟨vs,H1,I1,r1,q1⟩:=hz0
 obtain ⟨x,rfl,b,l,xs,rfl,e1,q⟩:=q1
 obtain ⟨u,rfl,ru⟩:=eJ r1
 cases ru
 obtain ⟨us,ru,q1⟩:=dH I1.hok e1
 refine ZpF q1 λh' z t1 kk=>?_
 have I2:Inv X pins σ H1 { s1 with heap:=h' }:=I1.kept (t':=s1.toks) kk
 refine wpAny_pyIter_enum z ⟨s1.heap.objs.size+1,[s1.heap.objs.size+1,s1.heap.objs.size],_,_,H1,rfl,I2,ZjE _ _ (λq=>absurd (show (s1.heap.objs.size+1:Nat)=s1.heap.objs.size from q) (by omega)),⟨⟨_,z⟩,t1⟩,λc hb=>?_,q⟩
 have hle:s1.heap.objs.size<=c:=by
  simp at hb
  rcases hb with rfl | rfl <;> first | exact Nat.le_add_right _ _ | exact wa _
 exact I1.fpOk hle (I1.hok.fresh hle)
noncomputable def eE (xs:Ai):Ai:=(List.range xs.length).zipWith (λ(n:Nat) x=>.tuple [.int n,x]) xs
theorem Zns {pa:Addr} {G:Hp} {b:Bool} {l:Addr} {us:An} {xs:Ai} (h1:G l=some (br b us)) (d1:DnAll G us xs):jR PK pa (jT b l) G (eE xs):=λm G2 H2 sb w=>by
 have e1:H2 l=some (br b us):=w.sub _ _ (sb _ _ h1)
 have hlen:(eE xs).length=xs.length:=by unfold eE; simp
 refine ⟨λn d hd=>?_,us,e1,by rw [hlen,d1.length]⟩
 have hn:n < xs.length:=by rw [<- hlen]; exact (we.mp hd).1
 have hd':d=.tuple [.int n,xs[n]]:=by
  unfold eE at hd
  rw [List.getElem?_zipWith] at hd
  simp [hn] at hd
  exact hd.symm
 subst hd'
 obtain ⟨u,hu,du⟩:=d1.get n (show xs[n]?=some xs[n] by simp [hn])
 refine ⟨⟨us,u,e1,hu⟩,λx H3 hz0=>?_⟩
 obtain ⟨us',u',p,f1,hu',hp,ex,eH⟩:=hz0
 rw [e1] at f1
 have:=uz f1
 subst us'
 rw [hu] at hu'
 cases hu'
 subst ex eH
 obtain ⟨w3,s3⟩:=w.new (o:=.tup [.int n,u]) hp
 exact ⟨_,s3,w3,.tup cA (.cons (.int n) (.cons ((du.mono sb).mono s3.gs) .nil))⟩
noncomputable def lC (i:z9):Aa:=λρ=>(i ρ).bind λx=>(Tr.of (gI x)).bind λxs=>.ret (eE xs)
theorem qA {iter:Expr} (h:PI X tg iter (Zek (TAe PK i))):PI X tg iter (fu PK (lC i)):=h.imp λσ H R0 hz0=>by
 obtain ⟨pa,Aq,H₀,m,ρ,G,R,z⟩:=hz0
 refine TAe.then R z λm1 x v G1 H1 s1 w1 R1 d1 q1=>?_
 rw [Tr.ok_bind] at q1
 obtain ⟨xs,hx,q1⟩:=Tr.ok_of q1
 obtain ⟨b1,l1,us,rfl,e1,f1⟩:=pN d1 hx
 exact ⟨b1,l1,us,rfl,w1.sub _ _ e1,q1 _ G1 H1 s1 w1 (Zns e1 f1)⟩
end
end L2
set_option Elab.async false
set_option linter.all false
set_option maxRecDepth 100000
namespace L2
section
variable {prog:Program} {w:World} {A:Around}
theorem nK (hh:A.handled=none) (b:Bool) (I ax:Addr) (hne:ax≠I) (items:Array Value):Walks prog w A I [I,ax] [I] items.size (λi v=>items[i]?=some v) (λi h=>ItAt b h I ax i/\SqAt b h ax items):=by
 cases b with
 | true=>exact Walks.list hh I ax hne items
 | false=>exact Walks.tuple hh I ax hne items
end
theorem mP {ns:Aj} {us:Ak} (r:Vals (ns.map V.int) us) {i:Nat} {v:Value} (h:us[i]?=some v):∃ t,v=.int ((ns[i]?).getD 0) t:=by
 have hi:i < us.length:=(we.mp h).1
 have hl:us.length=ns.length:=by rw [<- r.length,v7]
 obtain ⟨u,e1,e2⟩:=r.get (i:=i) (x:=V.int ns[i]) (by simp [show i < ns.length by omega])
 rw [h] at e1
 cases e1
 obtain ⟨t,e2⟩:=e2
 exact ⟨t,by simp [show i < ns.length by omega,e2]⟩
theorem Zlv (ns:Aj):preSum (λi=>(ns[i]?).getD 0) ns.length=ns.sum:=by
 have key:∀ k,k<=ns.length->preSum (λi=>(ns[i]?).getD 0) k=(ns.take k).sum:=by
  intro k
  induction k with
  | zero=>intro _; simp [preSum]
  | succ k ih =>
   intro hk
   rw [preSum,ih (by omega),List.take_add_one,List.sum_append]
   simp [show k < ns.length by omega]
 rw [key _ (wa _),zq]
section
variable {X:Cx} {PK:Pk}
theorem gK (hc:X.calm=true):dM X (.builtin "sum") (λxs H Q=>∃ (b:Bool) (l:Addr) (ns:Aj),xs=[.ref l]/\H l=some (br b (ns.map V.int))/\Q (.int ns.sum) H):=by
 intro pins s σ H xs us Q I r h
 obtain ⟨b,l,ns,rfl,e1,q⟩:=h
 obtain ⟨u,rfl,ru⟩:=eJ r
 cases ru
 obtain ⟨vs,rv,sq⟩:=dH I.hok e1
 have hlt:l < s.heap.objs.size:=I.hok.lt e1
 refine call_sum_walkG (gU sq ?_)
 refine ⟨s.heap.objs.size,[s.heap.objs.size,l],[s.heap.objs.size],vs.toArray.size,_,_,λi=>(ns[i]?).getD 0,rfl,nK (A:=X.A.in1) (I.ok.hd hc) b _ l (wz hlt) vs.toArray,
  ⟨jD (wc _ (by cases b <;> rfl)),sq.push _⟩,λc hc=>?_,λi v hv=>mP rv (by simpa using hv),λh' tk t' hk=>?_⟩
 ·rw [wX]
  simp at hc
  rcases hc with rfl | rfl
  ·exact yp _
  ·exact xZ hlt
 ·refine ⟨.int ns.sum,H,I.kept (t':=tk) λc o e=>hk c o (λz=>?_) (v6 _ e),⟨t',?_⟩,q⟩
  ·have:c=s.heap.objs.size:=by simpa using z
   subst this
   exact wH _ (wq e)
  ·have e:vs.toArray.size=ns.length:=by rw [wj,<- rv.length,v7]
   rw [e,Zlv]
theorem Zla (bs:List Bool):((List.range bs.length).all λi=>(bs[i]?).getD true)=bs.all id:=by
 rw [yv,yr,yr]
 constructor
 ·intro h x hx
  obtain ⟨i,hi,rfl⟩:=y9 hx
  have:=h i (wQ.mpr hi)
  simpa [hi] using this
 ·intro h i hi
  have hi':=wQ.mp hi
  simpa [hi'] using h _ (xQ hi')
theorem Zp7 {bs:List Bool} {us:Ak} (r:Vals (bs.map V.bl) us) {i:Nat} {v:Value} (h:us[i]?=some v):v=.bool ((bs[i]?).getD true):=by
 have hi:i < us.length:=(we.mp h).1
 have hl:us.length=bs.length:=by rw [<- r.length,v7]
 obtain ⟨u,e1,e2⟩:=r.get (i:=i) (x:=V.bl bs[i]) (by simp [show i < bs.length by omega])
 rw [h] at e1
 cases e1
 cases e2
 simp [show i < bs.length by omega]
theorem Zis (hc:X.calm=true):dM X (.builtin "all") (λxs H Q=>∃ (b:Bool) (l:Addr) (bs:List Bool),xs=[.ref l]/\H l=some (br b (bs.map V.bl))/\Q (.bl (bs.all id)) H):=by
 intro pins s σ H xs us Q I r h
 obtain ⟨b,l,bs,rfl,e1,q⟩:=h
 obtain ⟨u,rfl,ru⟩:=eJ r
 cases ru
 obtain ⟨vs,rv,sq⟩:=dH I.hok e1
 have hlt:l < s.heap.objs.size:=I.hok.lt e1
 refine call_all_walk (gU sq ?_)
 refine ⟨s.heap.objs.size,[s.heap.objs.size,l],[s.heap.objs.size],vs.toArray.size,_,_,λi=>(bs[i]?).getD true,rfl,nK (A:=X.A.in1) (I.ok.hd hc) b _ l (wz hlt) vs.toArray,
  ⟨jD (wc _ (by cases b <;> rfl)),sq.push _⟩,λi v s' Q' E' hP hQ=>?_,λh' tk hk=>?_⟩
 ·have e:=Zp7 rv (i:=i) (v:=v) (by simpa using hP)
  subst e
  exact wpAny_truthy_bool hQ
 ·have e:vs.toArray.size=bs.length:=by rw [wj,<- rv.length,v7]
  rw [e,Zla]
  refine ⟨.bl _,H,I.kept (t':=tk) λc o e=>hk c o (λz=>?_) (v6 _ e),rfl,q⟩
  have:c=s.heap.objs.size:=by simpa using z
  subst this
  exact wH _ (wq e)
noncomputable def eu:List Int->Int
 | []=>0
 | [n]=>n
 | n::m::r=>b8 (eu (m::r)) n
noncomputable def eh:List Int->Int
 | []=>0
 | [n]=>n
 | n::m::r=>Zdq (eh (m::r)) n
theorem my:∀ {ns:Aj},ns≠[]->eu ns∈ns/\∀ m∈ns,m<=eu ns
 | [],h=>absurd rfl h
 | [n],_=>⟨by simp [eu],by simp [eu]⟩
 | n::m::r,_=>by
  obtain ⟨h1,h2⟩:=my (ns:=m::r) (by simp)
  unfold eu b8
  split
  ·refine ⟨by simp,λk hk=>?_⟩
   rcases wt.mp hk with rfl | hk
   ·exact wG _
   ·have:=h2 k hk; omega
  ·refine ⟨v8 _ h1,λk hk=>?_⟩
   rcases wt.mp hk with rfl | hk
   ·omega
   ·exact h2 k hk
theorem oW:∀ {ns:Aj},ns≠[]->eh ns∈ns/\∀ m∈ns,eh ns<=m
 | [],h=>absurd rfl h
 | [n],_=>⟨by simp [eh],by simp [eh]⟩
 | n::m::r,_=>by
  obtain ⟨h1,h2⟩:=oW (ns:=m::r) (by simp)
  unfold eh Zdq
  split
  ·refine ⟨by simp,λk hk=>?_⟩
   rcases wt.mp hk with rfl | hk
   ·exact wG _
   ·have:=h2 k hk; omega
  ·refine ⟨v8 _ h1,λk hk=>?_⟩
   rcases wt.mp hk with rfl | hk
   ·omega
   ·exact h2 k hk
theorem ZiQ (f:Nat->Int):∀ k,argBest (λi j=>decide (f i > f j)) k<=k/\∀ j,j<=k->f j<=f (argBest (λi j=>decide (f i > f j)) k)
 | 0=>⟨wa _,λj hj=>by
  have:j=0:=by omega
  subst this
  exact wG _⟩
 | k+1=>by
  obtain ⟨h1,h2⟩:=ZiQ f k
  unfold argBest
  by_cases hc:f (k+1) > f (argBest (λi j=>decide (f i > f j)) k)
  ·rw [if_pos (by simpa using hc)]
   refine ⟨wa _,λj hj=>?_⟩
   rcases yw hj with h | h
   ·have:=h2 j (by omega); omega
   ·subst h; exact wG _
  ·rw [if_neg (by simpa using hc)]
   refine ⟨by omega,λj hj=>?_⟩
   rcases yw hj with h | h
   ·exact h2 j (by omega)
   ·subst h; omega
theorem ZiP (f:Nat->Int):∀ k,argBest (λi j=>decide (f i < f j)) k<=k/\∀ j,j<=k->f (argBest (λi j=>decide (f i < f j)) k)<=f j
 | 0=>⟨wa _,λj hj=>by
  have:j=0:=by omega
  subst this
  exact wG _⟩
 | k+1=>by
  obtain ⟨h1,h2⟩:=ZiP f k
  unfold argBest
  by_cases hc:f (k+1) < f (argBest (λi j=>decide (f i < f j)) k)
  ·rw [if_pos (by simpa using hc)]
   refine ⟨wa _,λj hj=>?_⟩
   rcases yw hj with h | h
   ·have:=h2 j (by omega); omega
   ·subst h; exact wG _
  ·rw [if_neg (by simpa using hc)]
   refine ⟨by omega,λj hj=>?_⟩
   rcases yw hj with h | h
   ·exact h2 j (by omega)
   ·subst h; omega
theorem uZ (hc:X.calm=true):dM X (.builtin "max") (λxs H Q=>∃ (b:Bool) (l:Addr) (ns:Aj),xs=[.ref l]/\H l=some (br b (ns.map V.int))/\ns≠[]/\Q (.int (eu ns)) H):=by
 intro pins s σ H xs us Q I r h
 obtain ⟨b,l,ns,rfl,e1,hne,q⟩:=h
 obtain ⟨u,rfl,ru⟩:=eJ r
 cases ru
 obtain ⟨vs,rv,sq⟩:=dH I.hok e1
 have hlt:l < s.heap.objs.size:=I.hok.lt e1
 have hsz:vs.toArray.size=ns.length:=by rw [wj,<- rv.length,v7]
 have hpos:0 < ns.length:=yu.mpr hne
 refine call_max_walk (gU sq ?_)
 refine ⟨s.heap.objs.size,[s.heap.objs.size,l],[s.heap.objs.size],vs.toArray.size,_,_,λi j=>decide ((ns[i]?).getD 0 > (ns[j]?).getD 0),rfl,nK (A:=X.A.in1) (I.ok.hd hc) b _ l (wz hlt) vs.toArray,
  ⟨jD (wc _ (by cases b <;> rfl)),sq.push _⟩,λc hc=>?_,by omega,CmpOf.ints_gt (λi=>(ns[i]?).getD 0) (λi v hv=>mP rv (by simpa using hv)),λv h' tk hv hk=>?_⟩
 ·rw [wX]
  simp at hc
  rcases hc with rfl | rfl
  ·exact yp _
  ·exact xZ hlt
 ·obtain ⟨t,rfl⟩:=mP rv (by rw [<- List.getElem?_toArray]; exact hv)
  obtain ⟨b1,b2⟩:=ZiQ (λi=>(ns[i]?).getD 0) (vs.toArray.size - 1)
  obtain ⟨m1,m2⟩:=my hne
  refine ⟨.int (eu ns),H,I.kept (t':=tk) λc o e=>hk c o (λz=>?_) (v6 _ e),⟨t,?_⟩,q⟩
  ·have:c=s.heap.objs.size:=by simpa using z
   subst this
   exact wH _ (wq e)
  ·congr 1
   obtain ⟨i,hi,ei⟩:=y9 m1
   have h1:=b2 i (by omega)
   simp only [hi,wp,yM,ei] at h1
   have hb:argBest (λi j=>decide ((ns[i]?).getD 0 > (ns[j]?).getD 0)) (vs.toArray.size - 1) < ns.length:=by omega
   have h2:=m2 _ (xQ hb)
   simp only [hb,wp,yM] at h1 ⊢
   omega
theorem qg (hc:X.calm=true):dM X (.builtin "min") (λxs H Q=>∃ (b:Bool) (l:Addr) (ns:Aj),xs=[.ref l]/\H l=some (br b (ns.map V.int))/\ns≠[]/\Q (.int (eh ns)) H):=by
 intro pins s σ H xs us Q I r h
 obtain ⟨b,l,ns,rfl,e1,hne,q⟩:=h
 obtain ⟨u,rfl,ru⟩:=eJ r
 cases ru
 obtain ⟨vs,rv,sq⟩:=dH I.hok e1
 have hlt:l < s.heap.objs.size:=I.hok.lt e1
 have hsz:vs.toArray.size=ns.length:=by rw [wj,<- rv.length,v7]
 have hpos:0 < ns.length:=yu.mpr hne
 refine call_min_walk (gU sq ?_)
 refine ⟨s.heap.objs.size,[s.heap.objs.size,l],[s.heap.objs.size],vs.toArray.size,_,_,λi j=>decide ((ns[i]?).getD 0 < (ns[j]?).getD 0),rfl,nK (A:=X.A.in1) (I.ok.hd hc) b _ l (wz hlt) vs.toArray,
  ⟨jD (wc _ (by cases b <;> rfl)),sq.push _⟩,λc hc=>?_,by omega,CmpOf.ints_lt (λi=>(ns[i]?).getD 0) (λi v hv=>mP rv (by simpa using hv)),λv h' tk hv hk=>?_⟩
 ·rw [wX]
  simp at hc
  rcases hc with rfl | rfl
  ·exact yp _
  ·exact xZ hlt
 ·obtain ⟨t,rfl⟩:=mP rv (by rw [<- List.getElem?_toArray]; exact hv)
  obtain ⟨b1,b2⟩:=ZiP (λi=>(ns[i]?).getD 0) (vs.toArray.size - 1)
  obtain ⟨m1,m2⟩:=oW hne
  refine ⟨.int (eh ns),H,I.kept (t':=tk) λc o e=>hk c o (λz=>?_) (v6 _ e),⟨t,?_⟩,q⟩
  ·have:c=s.heap.objs.size:=by simpa using z
   subst this
   exact wH _ (wq e)
  ·congr 1
   obtain ⟨i,hi,ei⟩:=y9 m1
   have h1:=b2 i (by omega)
   simp only [hi,wp,yM,ei] at h1
   have hb:argBest (λi j=>decide ((ns[i]?).getD 0 < (ns[j]?).getD 0)) (vs.toArray.size - 1) < ns.length:=by omega
   have h2:=m2 _ (xQ hb)
   simp only [hb,wp,yM] at h1 ⊢
   omega
noncomputable def bools?:List PyData->Option (List Bool)
 | []=>some []
 | .bool n::xs=>(bools? xs).bind λns=>some (n::ns)
 | _=>none
@[simp] theorem bools?_map:∀ ns:List Bool,bools? (ns.map PyData.bool)=some ns
 | []=>rfl
 | n::ns=>by rw [wf,bools?,bools?_map ns]; rfl
theorem DnAll.bools_inv {H:Hp} {vs:An} {ds:Ai} {ns:List Bool} (a:DnAll H vs ds) (h:bools? ds=some ns):vs=ns.map V.bl/\ds=ns.map PyData.bool:=by
 induction vs generalizing ds ns with
 | nil=>cases a; cases h; exact ⟨rfl,rfl⟩
 | cons v vs ih =>
  cases a with
  | cons g t =>
   cases g with
   | bl n =>
    unfold bools? at h
    rename_i ds
    cases e:bools? ds with
    | none=>rw [e] at h; cases h
    | some ms =>
     rw [e] at h
     cases h
     obtain ⟨h1,h2⟩:=ih t e
     exact ⟨by rw [h1]; rfl,by rw [h2]; rfl⟩
   | _=>unfold bools? at h; cases h
noncomputable def fI {α:Type} (p:List PyData->Option α) (f:α->Option PyData):List PyData->Option PyData
 | [x]=>(gI x).bind λxs=>(p xs).bind f
 | _=>none
noncomputable def dm:List PyData->Option PyData:=fI ints? λns=>some (.int ns.sum)
noncomputable def g9:List PyData->Option PyData:=fI ints? λns=>if (!ns.isEmpty)=true then some (.int (eu ns)) else none
noncomputable def iM:List PyData->Option PyData:=fI ints? λns=>if (!ns.isEmpty)=true then some (.int (eh ns)) else none
noncomputable def nk:List PyData->Option PyData:=fI bools? λns=>some (.bool (ns.all id))
theorem oS {α:Type} {p:List PyData->Option α} {f:α->Option PyData} {G:Hp} {vs:An} {ds:Ai} {d:PyData} (hv:DnAll G vs ds) (h:fI p f ds=some d):∃ b l us xs y,vs=[.ref l]/\G l=some (br b us)/\DnAll G us xs/\p xs=some y/\f y=some d:=by
 unfold fI at h
 split at h
 ·rename_i x
  cases hx:gI x with
  | none=>rw [hx] at h; cases h
  | some xs =>
   rw [hx] at h
   have h':(p xs).bind f=some d:=h
   cases hp:p xs with
   | none=>rw [hp] at h'; cases h'
   | some y =>
    rw [hp] at h'
    cases hv with
    | cons h1 h2 =>
     cases h2
     obtain ⟨b,l,us,rfl,e1,e2⟩:=pN h1 hx
     exact ⟨b,l,us,xs,y,rfl,e1,e2,hp,h'⟩
 ·cases h
theorem gi:fc (λxs H Q=>∃ (b:Bool) (l:Addr) (ns:Aj),xs=[.ref l]/\H l=some (br b (ns.map V.int))/\Q (.int ns.sum) H) dm:=λPK pa m G H vs ds d Q w hv hd k=>by
 obtain ⟨b,l,us,xs,ns,rfl,e1,e2,hp,hf⟩:=oS hv hd
 obtain ⟨rfl,rfl⟩:=e2.ints_inv hp
 cases hf
 exact ⟨b,l,ns,rfl,w.sub _ _ e1,k.here w (.int _)⟩
theorem rl:fc (λxs H Q=>∃ (b:Bool) (l:Addr) (ns:Aj),xs=[.ref l]/\H l=some (br b (ns.map V.int))/\ns≠[]/\Q (.int (eu ns)) H) g9:=λPK pa m G H vs ds d Q w hv hd k=>by
 obtain ⟨b,l,us,xs,ns,rfl,e1,e2,hp,hf⟩:=oS hv hd
 obtain ⟨rfl,rfl⟩:=e2.ints_inv hp
 split at hf
 ·rename_i hc
  cases hf
  exact ⟨b,l,ns,rfl,w.sub _ _ e1,(λz=>by subst z; cases hc),k.here w (.int _)⟩
 ·cases hf
theorem nN:fc (λxs H Q=>∃ (b:Bool) (l:Addr) (ns:Aj),xs=[.ref l]/\H l=some (br b (ns.map V.int))/\ns≠[]/\Q (.int (eh ns)) H) iM:=λPK pa m G H vs ds d Q w hv hd k=>by
 obtain ⟨b,l,us,xs,ns,rfl,e1,e2,hp,hf⟩:=oS hv hd
 obtain ⟨rfl,rfl⟩:=e2.ints_inv hp
 split at hf
 ·rename_i hc
  cases hf
  exact ⟨b,l,ns,rfl,w.sub _ _ e1,(λz=>by subst z; cases hc),k.here w (.int _)⟩
 ·cases hf
theorem Zaq:fc (λxs H Q=>∃ (b:Bool) (l:Addr) (bs:List Bool),xs=[.ref l]/\H l=some (br b (bs.map V.bl))/\Q (.bl (bs.all id)) H) nk:=λPK pa m G H vs ds d Q w hv hd k=>by
 obtain ⟨b,l,us,xs,ns,rfl,e1,e2,hp,hf⟩:=oS hv hd
 obtain ⟨rfl,rfl⟩:=e2.bools_inv hp
 cases hf
 exact ⟨b,l,ns,rfl,w.sub _ _ e1,k.here w (.bl _)⟩
variable {a b c e:Expr} {pos:Pos} {i j l:z9}
noncomputable def qI (f g:Ag) (i j l:z9):z9:=λρ=>(i ρ).bind λx=>(j ρ).bind λy=>(Tr.of (f x y)).bind λz=>(Tr.of (jl z)).bind λk =>
 if k=true then (l ρ).bind λu=>Tr.of (g y u) else .ret (.bool false)
theorem Zpv {r r':R2} {f g:Ag} (hv:cN r f) (hv':cN r' g):∀ σ H Q,TAe PK (qI f g i j l) σ H Q->Zay r r' (TAe PK i) (TAe PK j) (TAe PK l) σ H Q:=by
 rintro σ H Q ⟨pa,Aq,H₀,m,ρ,G,R,q⟩
 refine TAe.then R q λm1 x v G1 H1 s1 w1 R1 d1 q1=>?_
 refine TAe.then R1 q1 λm2 y u G2 H2 s2 w2 R2 d2 q2=>?_
 rw [Tr.ok_bind] at q2
 obtain ⟨z,hz,q3⟩:=Tr.ok_of q2
 rw [Tr.ok_bind] at q3
 obtain ⟨k,hk,q5⟩:=Tr.ok_of q3
 have s12:=s1.trans s2 w1.some
 refine hv PK pa m2 G2 H2 v u x y z _ w2 (d1.mono s2.gs) d2 hz λzz G3 H3 s3 w3 d3=>?_
 cases d3 <;> simp only [jl] at hk <;> cases hk
 refine ⟨_,rfl,?_⟩
 have s13:=s12.trans s3 w2.some
 cases k with
 | true =>
  rw [if_pos rfl] at q5 ⊢
  refine TAe.then (R2.step s3 w3) q5 λm4 t vt G4 H4 s4 w4 R4 d4 q4=>?_
  obtain ⟨zz,hzz,q4⟩:=Tr.ok_of q4
  exact hv' PK pa m4 G4 H4 u vt y t zz Q w4 (d2.mono (s3.gs.trans s4.gs)) d4 hzz (Kn.later q4 (s13.trans s4 w3.some) w4.some)
 | false =>
  rw [if_neg wn] at q5 ⊢
  exact (Kn.later q5 s13 w3.some).here w3 (.bl false)
theorem Zqz {op op':CmpOp} {r r':R2} {f g:Ag} (ho:OpR X (compareOp op) r) (hv:cN r f) (ho':OpR X (compareOp op') r') (hv':cN r' g) (ha:PE X a (TAe PK i)) (hb:PE X b (TAe PK j)) (hc:PE X c (TAe PK l))
  (hm:lastMarks [op,op'] [b,c]=false:=by with_unfolding_all rfl):PE X (.Compare a [op,op'] [b,c] pos) (TAe PK (qI f g i j l)):=(ZlR ho ho' ha hb hc hm).imp (Zpv hv hv')
theorem Znz:OpR X (inplaceOp .Mult) (rI CMulG λi j=>.int (i * j)):=iH λ_ _ _ _ _ _ _ hc q=>imul_int q hc.ok
theorem pip {op:Operator} {r:R2} (h:OpR X (inplaceOp op) r):ny X op r:=h
noncomputable def pL:Ag
 | .int m,.int n=>some (.int (m+n))
 | _,_=>none
theorem Zjt:cN (eQ λi j=>.int (i+j)) pL:=λPK pa m G H x y dx dy dz Q w hx hy hz k=>by
 unfold pL at hz
 split at hz
 ·cases hz; cases hx; cases hy
  exact ⟨_,_,rfl,rfl,k.here w (.int _)⟩
 ·cases hz
noncomputable def mQ:Ag
 | .int m,.int n=>if (fit m && fit n)=true then some (.int (m * n)) else none
 | _,_=>none
theorem Zjs:cN (rI CMulG λi j=>.int (i * j)) mQ:=λPK pa m G H x y dx dy dz Q w hx hy hz k=>by
 unfold mQ at hz
 split at hz
 ·split at hz
  ·rename_i hc
   rw [wD] at hc
   cases hz; cases hx; cases hy
   exact ⟨_,_,rfl,rfl,⟨of_decide_eq_true hc.1,of_decide_eq_true hc.2⟩,k.here w (.int _)⟩
  ·cases hz
 ·cases hz
end
theorem ZcW {PK:Pk} {is:Aa}:∀ σ H Q,TAe PK (cf is) σ H Q->fe PK is σ H Q:=by
 intro σ H Q z
 obtain ⟨pa,Aq,H₀,m,ρ,G,R,z⟩:=z
 exact ⟨pa,Aq,H₀,m,ρ,G,R,Tr.ok_mono (Tr.ok_bind.mp z) λm1 xs k=>Ko1.of k R.wd.some⟩
theorem vo {PK:Pk} {X:Cx} {st:Stmt} {is:Aa} {i:z9} {n k:Nat} {ix:List Nat} {g:Af} (h:PS X st (fg (lO (fu PK is) n ix (λ_=>gf PK g) (λ_=>TAe PK i)) (fq k))) (hn:io n g):PS X st (bO PK (aQ k (cf (dh is n ix g i)))) :=
 aV (h.imp (ZaE λσ H Q z=>ZdW hn σ H Q (ZcW σ H Q z)))
end L2
set_option Elab.async false
set_option linter.all false
set_option maxRecDepth 100000
namespace L2
variable {ρ:Ap} {s t:Ac} {i j l:z9} {is:Aa} {as:List Sl->Tr Ap} {f:Ad} {p q:Ab} {k n:Nat} {x y d:PyData} {xs ys:Ai} {sl:Sl}
theorem ZeM:aa 0 (.d x::ρ)=.ret x:=rfl
theorem ZeL:aa (k+1) (sl::ρ)=aa k ρ:=rfl
theorem ZhK:aC d ρ=.ret d:=rfl
noncomputable def aR (g:Ag) (x y:PyData):Tr PyData:=Tr.of (g x y)
noncomputable def ZiO (g:Ag) (j:z9) (ρ:Ap) (x:PyData):Tr PyData:=(j ρ).bind (aR g x)
theorem Zhg {g:Ag}:ac g i j ρ=(i ρ).bind (ZiO g j ρ):=rfl
theorem Zhf {g:Ag}:ZiO g j ρ x=(j ρ).bind (aR g x):=rfl
theorem ZhC (m n:Int):aR aM (.int m) (.int n)=.ret (.int (m+n)):=rfl
theorem pX (h1:xs.isEmpty=false) (h2:small (xs.length+ys.length)=true):aR aM (.tuple xs) (.tuple ys)=.ret (.tuple (xs++ys)):=by
 simp [aR,aM,h1,h2]
theorem mV (h2:small (xs.length+ys.length)=true):aR aM (.list xs) (.list ys)=.ret (.list (xs++ys)):=by
 simp [aR,aM,h2]
theorem Ze1 (m n:Int):aR bF (.int m) (.int n)=.ret (.int (m - n)):=rfl
theorem ZfY {m n:Int} (h1:fit m=true) (h2:fit n=true):aR bd (.int m) (.int n)=.ret (.int (m * n)):=by
 simp [aR,bd,h1,h2]
theorem jF {m n:Int} (h1:n≠0) (h2:fit n=true):aR fr (.int m) (.int n)=.ret (.int (m.fdiv n)):=by
 simp [aR,fr,h1,h2]
theorem ZfZ {m n:Int} (h1:n≠0):aR kC (.int m) (.int n)=.ret (.int (m.fmod n)):=by
 simp [aR,kC,h1]
theorem Zg1 {g:Int->Int->Bool} (m n:Int):aR (cV g) (.int m) (.int n)=.ret (.bool (g m n)):=rfl
theorem ZgS (m n:Int):aR cR (.int m) (.int n)=.ret (.bool (m == n)):=rfl
theorem ZfX (m n:Int):aR cD (.int m) (.int n)=.ret (.bool (!(m == n))):=rfl
theorem ZgT (m n:Bool):aR cR (.bool m) (.bool n)=.ret (.bool (m == n)):=rfl
theorem ZgQ (m n:Str):aR cR (.str m) (.str n)=.ret (.bool (m == n)):=rfl
theorem ZfV (m n:Str):aR cD (.str m) (.str n)=.ret (.bool (!(m == n))):=rfl
theorem Zn4 (h1:SeqAt.shaped x=true) (h2:SeqAt.shaped y=true) (h3:∀ a b,¬ (x=.str a/\y=.str b)):aR cR x y=.ret (.bool (PyData.eqv x y)):=by
 unfold aR cR
 split
 ·exact absurd ⟨rfl,rfl⟩ (h3 _ _)
 ·rw [h1,h2]; rfl
theorem Zc6 (h1:SeqAt.shaped x=true) (h2:SeqAt.shaped y=true) (h3:∀ a b,¬ (x=.str a/\y=.str b)):aR cD x y=.ret (.bool (!PyData.eqv x y)):=by
 unfold aR cD
 split
 ·exact absurd ⟨rfl,rfl⟩ (h3 _ _)
 ·rw [h1,h2]; rfl
theorem ZgR (h1:SeqAt.shaped (.list xs)=true) (h2:SeqAt.shaped (.list ys)=true):aR cR (.list xs) (.list ys)=.ret (.bool (PyData.eqvAll xs ys)):=by
 rw [Zn4 h1 h2 (λa b z=>by cases z.1)]
 simp only [PyData.eqv]
theorem ZfW (h1:SeqAt.shaped (.list xs)=true) (h2:SeqAt.shaped (.list ys)=true):aR cD (.list xs) (.list ys)=.ret (.bool (!PyData.eqvAll xs ys)):=by
 rw [Zc6 h1 h2 (λa b z=>by cases z.1)]
 simp only [PyData.eqv]
theorem Zgq (m n:Bool):aR mO (.bool m) (.bool n)=.ret (.bool (!(m == n))):=rfl
theorem ib (n:Int):aR ao (.list xs) (.int n)=Tr.of (bz xs n):=rfl
theorem eX (n:Int):aR ao (.tuple xs) (.int n)=Tr.of (bz xs n):=rfl
theorem ft {α:Type} {xs:List α} {n:Int} {v:α} (h0:0<=n) (h:xs[n.toNat]?=some v):bz xs n=some v:=by
 have e:(n.toNat:Int)=n:=Int.toNat_of_nonneg h0
 rw [<- e]
 exact f7 h
section
variable {α:Type} {a0 a1 a2 a3 a4 a5 a6 a7 a8:α} {r:List α}
theorem jH:bz (a0::r) 0=some a0:=f7 (j:=0) rfl
theorem ng:bz (a0::a1::r) 1=some a1:=f7 (j:=1) rfl
theorem qr:bz (a0::a1::a2::r) 2=some a2:=f7 (j:=2) rfl
theorem qq:bz (a0::a1::a2::a3::r) 3=some a3:=f7 (j:=3) rfl
theorem qp:bz (a0::a1::a2::a3::a4::r) 4=some a4:=f7 (j:=4) rfl
theorem vn:bz (a0::a1::a2::a3::a4::a5::r) 5=some a5:=f7 (j:=5) rfl
theorem vh:bz (a0::a1::a2::a3::a4::a5::a6::r) 6=some a6:=f7 (j:=6) rfl
theorem vg:bz (a0::a1::a2::a3::a4::a5::a6::a7::r) 7=some a7:=f7 (j:=7) rfl
theorem vf:bz (a0::a1::a2::a3::a4::a5::a6::a7::a8::r) 8=some a8:=f7 (j:=8) rfl
end
noncomputable def Zc4:PyData->Tr PyData
 | .int n=>.ret (.int (-n))
 | _=>.fail
theorem ZfU:ge i ρ=(i ρ).bind Zc4:=by
 unfold ge
 refine congrArg (Tr.bind (i ρ)) (funext λx=>?_)
 cases x <;> rfl
theorem ZfT (n:Int):Zc4 (.int n)=.ret (.int (-n)):=rfl
noncomputable def rC (x:PyData):Tr Bool:=Tr.of (jl x)
theorem ZeZ:bu i ρ=(i ρ).bind rC:=rfl
theorem ZeS (b:Bool):rC (.bool b)=.ret b:=rfl
noncomputable def jY (x:PyData):Tr Bool:=Tr.of (Zav x)
theorem ZeY:f8 i ρ=(i ρ).bind jY:=rfl
theorem ZeX (b:Bool):jY (.bool b)=.ret b:=rfl
theorem ZeW (n:Int):jY (.int n)=.ret (n != 0):=rfl
theorem ZeV:jY (.list xs)=.ret (!xs.isEmpty):=rfl
theorem ZeT:jY (.tuple xs)=.ret (!xs.isEmpty):=rfl
theorem ZeU:jY .none=.ret false:=rfl
noncomputable def vz (q:Ab) (ρ:Ap) (b:Bool):Tr Bool:=if b=true then q ρ else .ret false
noncomputable def tM (q:Ab) (ρ:Ap) (b:Bool):Tr Bool:=if b=true then .ret true else q ρ
noncomputable def Zc2 (b:Bool):Tr Bool:=.ret (!b)
theorem Zhv:vQ p q ρ=(p ρ).bind (vz q ρ):=rfl
theorem ZfM:i8 p q ρ=(p ρ).bind (tM q ρ):=rfl
theorem ZfR:gM p ρ=(p ρ).bind Zc2:=rfl
theorem Zht:vz q ρ true=q ρ:=rfl
theorem Zhu:vz q ρ false=.ret false:=rfl
theorem ZfK:tM q ρ true=.ret true:=rfl
theorem ZfL:tM q ρ false=q ρ:=rfl
theorem ZfQ (b:Bool):Zc2 b=.ret (!b):=rfl
noncomputable def vx (j:z9) (ρ:Ap) (b:Bool):Tr PyData:=if b=true then j ρ else .ret (.bool false)
noncomputable def Zc1 (b:Bool):Tr PyData:=.ret (.bool (!b))
theorem Zhs:jO i j ρ=(bu i ρ).bind (vx j ρ):=rfl
theorem ZfP:vM i ρ=(bu i ρ).bind Zc1:=rfl
theorem Zhq:vx j ρ true=j ρ:=rfl
theorem Zhr:vx j ρ false=.ret (.bool false):=rfl
theorem ZfO (b:Bool):Zc1 b=.ret (.bool (!b)):=rfl
noncomputable def uy (i j:z9) (ρ:Ap) (b:Bool):Tr PyData:=if b=true then i ρ else j ρ
theorem ZgF:vO p i j ρ=(p ρ).bind (uy i j ρ):=rfl
theorem ZgD:uy i j ρ true=i ρ:=rfl
theorem ZgE:uy i j ρ false=j ρ:=rfl
noncomputable def qd (g:Ag) (l:z9) (ρ:Ap) (y:PyData) (k:Bool):Tr PyData:=if k=true then (l ρ).bind (aR g y) else .ret (.bool false)
noncomputable def uW (g:Ag) (l:z9) (ρ:Ap) (y z:PyData):Tr PyData:=(rC z).bind (qd g l ρ y)
noncomputable def uX (f g:Ag) (l:z9) (ρ:Ap) (x y:PyData):Tr PyData:=(aR f x y).bind (uW g l ρ y)
noncomputable def ch1 (f g:Ag) (j l:z9) (ρ:Ap) (x:PyData):Tr PyData:=(j ρ).bind (uX f g l ρ x)
theorem Zg2 {f g:Ag}:qI f g i j l ρ=(i ρ).bind (ch1 f g j l ρ):=rfl
theorem Zg7 {f g:Ag}:ch1 f g j l ρ x=(j ρ).bind (uX f g l ρ x):=rfl
theorem Zg6 {f g:Ag}:uX f g l ρ x y=(aR f x y).bind (uW g l ρ y):=rfl
theorem Zg5 {g:Ag} (b:Bool):uW g l ρ y (.bool b)=qd g l ρ y b:=rfl
theorem Zg3 {g:Ag}:qd g l ρ y true=(l ρ).bind (aR g y):=rfl
theorem Zg4 {g:Ag}:qd g l ρ y false=.ret (.bool false):=rfl
noncomputable def uV (x:PyData) (xs:Ai):Tr Ai:=.ret (x::xs)
noncomputable def Zii (is:Aa) (ρ:Ap) (x:PyData):Tr Ai:=(is ρ).bind (uV x)
theorem ZfS:am ρ=.ret []:=rfl
theorem Zg0:ae i is ρ=(i ρ).bind (Zii is ρ):=rfl
theorem ZgZ:Zii is ρ x=(is ρ).bind (uV x):=rfl
theorem ZgY:uV x xs=.ret (x::xs):=rfl
noncomputable def rB (xs:Ai):Tr PyData:=if small xs.length=true then .ret (.tuple xs) else .fail
theorem ZeR:bA is ρ=(is ρ).bind rB:=rfl
theorem ZeQ (h:small xs.length=true):rB xs=.ret (.tuple xs):=by unfold rB; rw [if_pos h]
noncomputable def ZdA (xs:Ai):Tr PyData:=.ret (.list xs)
theorem Zf5:cf is ρ=(is ρ).bind ZdA:=rfl
theorem Zf4:ZdA xs=.ret (.list xs):=rfl
noncomputable def kQ (xs:Ai):Tr Ai:=if small xs.length=true then .ret xs else .fail
theorem Zf7:dC is ρ=(is ρ).bind kQ:=rfl
theorem Zf6 (h:small xs.length=true):kQ xs=.ret xs:=by unfold kQ; rw [if_pos h]
theorem b7 {n:Nat} (h:n<=10000):small n=true:=decide_eq_true (ww h (by decide))
noncomputable def bR (g:List PyData->Option PyData) (xs:Ai):Tr PyData:=Tr.of (g xs)
noncomputable def qe (g:List PyData->Option Ai) (xs:Ai):Tr Ai:=Tr.of (g xs)
theorem Zhb {g:List PyData->Option PyData}:bb g is ρ=(is ρ).bind (bR g):=rfl
theorem Zg8 {g:List PyData->Option Ai}:qJ g is ρ=(is ρ).bind (qe g):=rfl
theorem uI:bR c7 [.list xs]=.ret (.int xs.length):=rfl
theorem Zf9:bR c7 [.tuple xs]=.ret (.int xs.length):=rfl
theorem ZhD (n:Int):bR lx [.int n]=.ret (.int (qE n)):=rfl
theorem Zf1 (m n:Int):bR iO [.int m,.int n]=.ret (.int (b8 m n)):=rfl
theorem Zgt (n:Int):bR iU [.int n]=.ret (.int n):=rfl
theorem Zgu (b:Bool):bR iU [.bool b]=.ret (.int (if b then 1 else 0)):=rfl
theorem ZeP:bR eO [.list xs]=.ret (.tuple xs):=rfl
theorem ZeN:bR eO [.tuple xs]=.ret (.tuple xs):=rfl
theorem Zf3:qe kN [.list xs]=.ret xs:=rfl
theorem Zf2:qe kN [.tuple xs]=.ret xs:=rfl
theorem mU (h:gt x=true):bR gu [x]=.ret (.str x.shown):=by
 simp [bR,gu,h]
theorem Ze0 (ns:Aj):bR dm [.list (ns.map .int)]=.ret (.int ns.sum):=by
 unfold bR dm fI
 simp
theorem pU (ns:Aj):bR dm [.tuple (ns.map .int)]=.ret (.int ns.sum):=by
 unfold bR dm fI
 simp
theorem Zf0 (ns:Aj) (h:ns.isEmpty=false):bR g9 [.list (ns.map .int)]=.ret (.int (eu ns)):=by
 have h':ns≠[]:=λz=>by subst z; cases h
 unfold bR g9 fI
 simp [h']
theorem Zhw (ns:List Bool):bR nk [.list (ns.map .bool)]=.ret (.bool (ns.all id)):=by
 unfold bR nk fI
 simp
noncomputable def Zea (T:String) (x:PyData):Tr PyData:=.ret (.bool (kY T (iu x)))
theorem Zgs {T:String}:jc T i ρ=(i ρ).bind (Zea T):=rfl
theorem Zgr {T:String}:Zea T x=.ret (.bool (kY T (iu x))):=rfl
noncomputable def gQ (x:PyData) (lo:Option Int) (hi:Option Int):Tr PyData:=Tr.of (ZaV x lo hi)
noncomputable def fD (q:gb) (ρ:Ap) (x:PyData) (lo:Option Int):Tr PyData:=(q ρ).bind (gQ x lo)
noncomputable def sl1 (p q:gb) (ρ:Ap) (x:PyData):Tr PyData:=(p ρ).bind (fD q ρ x)
theorem Ze5 {p q:gb}:i5 i p q ρ=(i ρ).bind (sl1 p q ρ):=rfl
theorem Ze4 {p q:gb}:sl1 p q ρ x=(p ρ).bind (fD q ρ x):=rfl
theorem Ze3 {q:gb} {lo:Option Int}:fD q ρ x lo=(q ρ).bind (gQ x lo):=rfl
theorem pV {lo hi:Option Int}:gQ (.list xs) lo hi=.ret (.list (fO xs lo hi)):=rfl
theorem Ze2 {lo hi:Option Int}:gQ (.tuple xs) lo hi=.ret (.tuple (fO xs lo hi)):=rfl
theorem ZfH:i7 ρ=.ret none:=rfl
noncomputable def pa1:PyData->Tr (Option Int)
 | .int n=>.ret (some n)
 | _=>.fail
theorem ZfG:ik i ρ=(i ρ).bind pa1:=by
 unfold ik
 refine congrArg (Tr.bind (i ρ)) (funext λx=>?_)
 cases x <;> rfl
theorem ZfF (n:Int):pa1 (.int n)=.ret (some n):=rfl
noncomputable def rA (xs:Ai):Tr PyData:=(Tr.of (ma xs)).bind λys=>.ret (.tuple ys)
theorem ZeO:vK is ρ=(is ρ).bind rA:=rfl
theorem uG {lo hi:Int} (h:md lo hi=true):rA [.int lo,.int hi]=.ret (.tuple (aN lo hi)):=by
 simp [rA,ma,h]
theorem ZhG:aq ρ=.ret []:=rfl
noncomputable def nr (x:Sl) (xs:Ap):Tr Ap:=.ret (x::xs)
noncomputable def qF (as:List Sl->Tr Ap) (ρ:Ap) (x:PyData):Tr Ap:=(as ρ).bind (nr (.d x))
theorem ZhH:ad i as ρ=(i ρ).bind (qF as ρ):=rfl
theorem ZhJ:qF as ρ x=(as ρ).bind (nr (.d x)):=rfl
theorem ZhI {xs:Ap}:nr sl xs=.ret (sl::xs):=rfl
noncomputable def ki:Nat->List Sl->Tr Unit
 | 0,.pen::_=>.ret ()
 | k+1,_::ρ=>ki k ρ
 | _,_=>.fail
theorem ZfC:ki 0 (.pen::ρ)=.ret ():=rfl
theorem ZfB:ki (k+1) (sl::ρ)=ki k ρ:=rfl
noncomputable def aap (as:List Sl->Tr Ap) (ρ:Ap) (_:Unit):Tr Ap:=(as ρ).bind (nr .pen)
theorem ZhF:bC k as ρ=(ki k ρ).bind (aap as ρ):=by
 have key:∀ (k:Nat) (σ:Ap) (as:List Sl->Tr Ap) (ρ:Ap),(match σ[k]? with | some Sl.pen=>(as ρ).bind λxs=>Tr.ret (Sl.pen::xs) | _=>Tr.fail)=(ki k σ).bind (aap as ρ):=by
  intro k
  induction k with
  | zero =>
   intro σ as ρ
   cases σ with
   | nil=>rfl
   | cons s r=>cases s <;> rfl
  | succ k ih =>
   intro σ as ρ
   cases σ with
   | nil=>rfl
   | cons s r=>exact ih r as ρ
 exact key k ρ as ρ
theorem ZhE (u:Unit):aap as ρ u=(as ρ).bind (nr .pen):=rfl
theorem Zhd:av f as ρ=(as ρ).bind f:=rfl
noncomputable def re1 (r:Re):Tr PyData:=.ret r.val
theorem ZfA:ay f ρ=(f ρ).bind re1:=rfl
theorem Zfz (r:Re):re1 r=.ret r.val:=rfl
theorem ZgX {as:Ap} (h:as.length=n):bo n k s as=(s (as++List.replicate k .un)).bind pR:=by
 unfold bo
 rw [if_pos (decide_eq_true h)]
theorem ZgP:pR (.next ρ)=.ret (.d .none):=rfl
theorem ZgO (r:Re):pR (.ret r)=.ret r:=rfl
noncomputable def lV (t:Ac):Ou->Tr Ou
 | .next ρ=>t ρ
 | o=>.ret o
theorem Zfi:aj s t ρ=(s ρ).bind (lV t):=by
 unfold aj
 refine congrArg (Tr.bind (s ρ)) (funext λo=>?_)
 cases o <;> rfl
theorem Zff:lV t (.next ρ)=t ρ:=rfl
theorem Zfe (r:Re):lV t (.ret r)=.ret (.ret r):=rfl
theorem Zfh:lV t (.brk ρ)=.ret (.brk ρ):=rfl
theorem Zfg:lV t (.cont ρ)=.ret (.cont ρ):=rfl
theorem Ze6:bY ρ=.ret (.next ρ):=rfl
noncomputable def uv (s t:Ac) (ρ:Ap) (b:Bool):Tr Ou:=if b=true then s ρ else t ρ
theorem Zgy:bZ p s t ρ=(p ρ).bind (uv s t ρ):=rfl
theorem Zgw:uv s t ρ true=s ρ:=rfl
theorem Zgx:uv s t ρ false=t ρ:=rfl
noncomputable def Zb5 (x:PyData):Tr Ou:=.ret (.ret (.d x))
theorem Zfy:bg i ρ=(i ρ).bind Zb5:=rfl
theorem Zfx:Zb5 x=.ret (.ret (.d x)):=rfl
noncomputable def Zb4 (xs:Ai):Tr Ou:=.ret (.ret (.own xs))
theorem Zfw:vL is ρ=(is ρ).bind Zb4:=rfl
theorem Zfv:Zb4 xs=.ret (.ret (.own xs)):=rfl
noncomputable def Zb3 (r:Re):Tr Ou:=.ret (.ret r)
theorem Zfu:i6 f ρ=(f ρ).bind Zb3:=rfl
theorem Zft (r:Re):Zb3 r=.ret (.ret r):=rfl
theorem Zfs:ga 0 (.d x::ρ)=.ret (.ret (.d x)):=rfl
theorem Zfr:ga 0 (.own xs::ρ)=.ret (.ret (.own xs)):=rfl
theorem Zfq:ga (k+1) (sl::ρ)=ga k ρ:=rfl
noncomputable def nX (k:Nat) (ρ:Ap) (x:PyData):Tr Ou:=.ret (.next (ρ.set k (.d x)))
theorem Zfd:aQ k i ρ=(i ρ).bind (nX k ρ):=rfl
theorem Zfc:nX k ρ x=.ret (.next (ρ.set k (.d x))):=rfl
noncomputable def Zbe (k:Nat) (ρ:Ap) (x:Ai):Tr Ou:=.ret (.next (ρ.set k (.own x)))
theorem Zfb:gL k is ρ=(is ρ).bind (Zbe k ρ):=rfl
theorem Zfa:Zbe k ρ xs=.ret (.next (ρ.set k (.own xs))):=rfl
theorem ZdD {α:Type} {a b:α} {r:List α}:(a::r).set 0 b=b::r:=rfl
theorem ZdC {α:Type} {a b:α} {r:List α}:(a::r).set (k+1) b=a::r.set k b:=rfl
noncomputable def ve (g:Ag) (k:Nat) (ρ:Ap) (x y:PyData):Tr Ou:=(aR g x y).bind (nX k ρ)
noncomputable def ZiR (g:Ag) (k:Nat) (i:z9) (ρ:Ap) (x:PyData):Tr Ou:=(i ρ).bind (ve g k ρ x)
theorem Zhk {g:Ag}:lE g k i ρ=(aa k ρ).bind (ZiR g k i ρ):=rfl
theorem Zhj {g:Ag}:ZiR g k i ρ x=(i ρ).bind (ve g k ρ x):=rfl
theorem Zhi {g:Ag}:ve g k ρ x y=(aR g x y).bind (nX k ρ):=rfl
theorem ZgG (m n:Int):aR pL (.int m) (.int n)=.ret (.int (m+n)):=rfl
theorem Zgv {m n:Int} (h1:fit m=true) (h2:fit n=true):aR mQ (.int m) (.int n)=.ret (.int (m * n)):=by
 simp [aR,mQ,h1,h2]
noncomputable def gY:Nat->List Sl->Tr Ai
 | 0,.own xs::_=>.ret xs
 | k+1,_::ρ=>gY k ρ
 | _,_=>.fail
theorem ZfJ:gY 0 (.own xs::ρ)=.ret xs:=rfl
theorem ZfI:gY (k+1) (sl::ρ)=gY k ρ:=rfl
theorem oM {β:Type} {g:List PyData->Tr β}:∀ (k:Nat) (σ:Ap),(match σ[k]? with | some (Sl.own xs)=>g xs | _=>Tr.fail)=(gY k σ).bind g
 | 0,[]=>rfl
 | 0,s::r=>by cases s <;> rfl
 | k+1,[]=>rfl
 | k+1,s::r=>oM k r
noncomputable def qy (k:Nat) (ρ:Ap) (xs:Ai) (x:PyData):Tr Ou:=if small (xs.length+1)=true then .ret (.next (ρ.set k (.own (xs++[x])))) else .fail
noncomputable def Zi0 (k:Nat) (i:z9) (ρ:Ap) (xs:Ai):Tr Ou:=(i ρ).bind (qy k ρ xs)
theorem Zhp:il k i ρ=(gY k ρ).bind (Zi0 k i ρ):=oM k ρ
theorem Zho:Zi0 k i ρ xs=(i ρ).bind (qy k ρ xs):=rfl
theorem Zhn (h:small (xs.length+1)=true):qy k ρ xs x=.ret (.next (ρ.set k (.own (xs++[x])))):=by unfold qy; rw [if_pos h]
noncomputable def Zb2 (k:Nat) (ρ:Ap) (xs:Ai):Tr Ou:=.ret (.next (ρ.set k (.own xs.reverse)))
theorem Zfp:qH k ρ=(gY k ρ).bind (Zb2 k ρ):=oM k ρ
theorem Zfo:Zb2 k ρ xs=.ret (.next (ρ.set k (.own xs.reverse))):=rfl
theorem ZgH:gN k s ρ=s (fz k ρ):=rfl
theorem Zev:fz 0 (.own xs::ρ)=.d (.list xs)::ρ:=rfl
theorem Zew:fz 0 (.d x::ρ)=.d x::ρ:=rfl
theorem Zeu:fz 0 (.pen::ρ)=.pen::ρ:=rfl
theorem Zet:fz 0 (.un::ρ)=.un::ρ:=rfl
theorem Zex:fz (k+1) (sl::ρ)=sl::fz k ρ:=by
 unfold fz
 rw [yJ]
 cases h:ρ[k]? with
 | none=>rfl
 | some s=>cases s <;> rfl
noncomputable def tP (ρ:Ap):Tr Ou:=.ret (.next ρ)
noncomputable def ZiU (g:Af) (ρ:Ap) (x:PyData):Tr Ou:=(Tr.of (g x ρ)).bind tP
theorem Zhm {g:Af}:di g i ρ=(i ρ).bind (ZiU g ρ):=rfl
theorem Zhl {g:Af}:ZiU g ρ x=(Tr.of (g x ρ)).bind tP:=rfl
theorem ZfN:tP ρ=.ret (.next ρ):=rfl
theorem Zep:ah k x ρ=some (ρ.set k (.d x)):=rfl
theorem Zem {gs:Ae}:bh gs (.tuple xs) ρ=gs xs ρ:=rfl
theorem Zeq:bf [] ρ=some ρ:=rfl
theorem Zer {g:Af} {gs:Ae}:aw g gs (x::xs) ρ=(g x ρ).bind (gs xs):=rfl
theorem Zen {α β:Type} {a:α} {g:α->Option β}:(some a).bind g=g a:=rfl
noncomputable def ZcM (k n:Nat) (ρ:Ap):List PyData->Tr Ou
 | [x,y]=>.ret (.next ((ρ.set k (.d x)).set n (.d y)))
 | _=>.fail
theorem ZfE:jM k n is ρ=(is ρ).bind (ZcM k n ρ):=by
 unfold jM
 refine congrArg (Tr.bind (is ρ)) (funext λxs=>?_)
 match xs with
 | []=>rfl
 | [_]=>rfl
 | [_,_]=>rfl
 | _::_::_::_=>rfl
theorem ZfD:ZcM k n ρ [x,y]=.ret (.next ((ρ.set k (.d x)).set n (.d y))):=rfl
noncomputable def dg (x:PyData):Tr Ai:=Tr.of (gI x)
theorem Zgp:dF i ρ=(i ρ).bind dg:=rfl
theorem Zgo:dg (.list xs)=.ret xs:=rfl
theorem Zgn:dg (.tuple xs)=.ret xs:=rfl
noncomputable def fE (xs:Ai):Tr Ai:=Tr.of (me xs)
noncomputable def gT (xs:Ai):Tr Ai:=Tr.of (kb xs)
theorem Zfm:f9 is ρ=(is ρ).bind fE:=rfl
theorem Zfl:lA is ρ=(is ρ).bind gT:=rfl
theorem dB {n:Int} (h1:-1000000000000<=n) (h2:n<=1000000000000):fY n=true:=decide_eq_true (by omega)
theorem ia {n:Int} (h:fY n=true):fE [.int n]=.ret (aN 0 n):=by
 simp [fE,me,h]
theorem mT {m n:Int} (h1:fY m=true) (h2:fY n=true):gT [.int m,.int n]=.ret (aN m n):=by
 simp [gT,kb,h1,h2]
noncomputable def ra (xs:Ai) (ys:Ai):Tr Ai:=.ret (bS xs ys)
noncomputable def rb (y:PyData) (xs:Ai):Tr Ai:=(dg y).bind (ra xs)
noncomputable def re (x y:PyData):Tr Ai:=(dg x).bind (rb y)
noncomputable def Zab (j:z9) (ρ:Ap) (x:PyData):Tr Ai:=(j ρ).bind (re x)
theorem ZeK:jL i j ρ=(i ρ).bind (Zab j ρ):=rfl
theorem ZeJ:Zab j ρ x=(j ρ).bind (re x):=rfl
theorem ZeI:re x y=(dg x).bind (rb y):=rfl
theorem ZeH:rb y xs=(dg y).bind (ra xs):=rfl
theorem ZeG:ra xs ys=.ret (bS xs ys):=rfl
noncomputable def uK (xs:Ai):Tr Ai:=.ret (eE xs)
noncomputable def ZhR (x:PyData):Tr Ai:=(dg x).bind uK
theorem ZgU:lC i ρ=(i ρ).bind ZhR:=rfl
theorem ZgW:ZhR x=(dg x).bind uK:=rfl
theorem ZgV:uK xs=.ret (eE xs):=rfl
noncomputable def ZeD (g:Af) (s:Ac) (ρ:Ap) (xs:Ai):Tr Ou:=bT g s xs ρ
theorem ZgM {g:Af}:cZ is g s ρ=(is ρ).bind (ZeD g s ρ):=rfl
theorem ZgL {g:Af}:ZeD g s ρ xs=bT g s xs ρ:=rfl
noncomputable def k8 (g:Af) (s:Ac) (xs:Ai):Ou->Tr Ou
 | .next ρ=>bT g s xs ρ
 | .cont ρ=>bT g s xs ρ
 | .brk ρ=>.ret (.next ρ)
 | .ret r=>.ret (.ret r)
noncomputable def jE (g:Af) (s:Ac) (xs:Ai) (ρ:Ap):Tr Ou:=(s ρ).bind (k8 g s xs)
theorem pP {g:Af}:bT g s [] ρ=.ret (.next ρ):=rfl
theorem eW {g:Af}:bT g s (x::xs) ρ=(Tr.of (g x ρ)).bind (jE g s xs):=by
 rw [bT]
 refine congrArg (Tr.bind (Tr.of (g x ρ))) (funext λρ1=>?_)
 unfold jE
 refine congrArg (Tr.bind (s ρ1)) (funext λo=>?_)
 cases o <;> rfl
theorem fZ {g:Af}:jE g s xs ρ=(s ρ).bind (k8 g s xs):=rfl
theorem eD {g:Af}:k8 g s xs (.next ρ)=bT g s xs ρ:=rfl
theorem ZgJ {g:Af}:k8 g s xs (.cont ρ)=bT g s xs ρ:=rfl
theorem ZgK {g:Af}:k8 g s xs (.brk ρ)=.ret (.next ρ):=rfl
theorem ZgI {g:Af} (r:Re):k8 g s xs (.ret r)=.ret (.ret r):=rfl
noncomputable def cu (g:Af) (el:z9) (τ:Ap) (x:PyData):Tr PyData:=(Tr.of (g x τ)).bind el
noncomputable def ud (n:Nat) (ix:List Nat) (g:Af) (el:z9) (ρ:Ap) (xs:Ai):Tr Ai:=if small xs.length=true then bG (cu g el (blk n ix ρ)) xs else .fail
theorem Zgi {ix:List Nat} {g:Af}:dh is n ix g i ρ=(is ρ).bind (ud n ix g i ρ):=rfl
theorem Zgh {ix:List Nat} {g:Af} (h:small xs.length=true):ud n ix g i ρ xs=bG (cu g i (blk n ix ρ)) xs:=by unfold ud; rw [if_pos h]
theorem Zgg {τ:Ap} {g:Af}:cu g i τ x=(Tr.of (g x τ)).bind i:=rfl
theorem Zdu {h:PyData->Tr PyData} {n:Nat} {P:PyData->Prop}:∀ {xs:Ai},(∀ x∈xs,(h x).all n P)->(bG h xs).all (xs.length * n) λys=>ys.length=xs.length/\∀ y∈ys,P y
 | [],_=>⟨rfl,λy hy=>by cases hy⟩
 | x::xs,hx=>by
  have e:(x::xs).length * n=n+(xs.length * n+0):=by rw [wl,yb]; omega
  rw [e,bG]
  refine Tr.all_bind (hx x (by simp)) λy hy=>Tr.all_bind (Zdu λz hz=>hx z (v8 _ hz)) λys hys=>?_
  exact ⟨by simp [hys.1],λz hz=>by
   rcases wt.mp hz with rfl | hz
   ·exact hy
   ·exact hys.2 z hz⟩
theorem ZeC {g:Af} {n:Nat} (I:List PyData->List Sl->Prop) {Q:Ou->Prop} :
  ∀ {xs pre:Ai} {ρ:Ap},I pre ρ->(∀ pre x post ρ,pre++x::post=pre++x::post->I pre ρ->x∈xs->∃ ρ1,g x ρ=some ρ1/\(s ρ1).all n λo=>∃ ρ2,o=.next ρ2/\I (pre++[x]) ρ2)->(∀ ρ,I (pre++xs) ρ->Q (.next ρ))->(bT g s xs ρ).all (xs.length * n) Q
 | [],pre,ρ,h0,_,hq=>hq ρ (by rw [wZ]; exact h0)
 | x::xs,pre,ρ,h0,ht,hq=>by
  obtain ⟨ρ1,e,ha⟩:=ht pre x xs ρ rfl h0 (by simp)
  have en:(x::xs).length * n=n+xs.length * n:=by rw [wl,yb]; omega
  rw [en,eW,e,Tr.of_some,Tr.ret_bind]
  unfold jE
  refine Tr.all_bind ha λo ⟨ρ2,eo,h2⟩=>?_
  subst eo
  rw [eD]
  exact ZeC I h2 (λpre y post ρ e h hy=>ht pre y post ρ e h (v8 _ hy)) (λρ h=>hq ρ (by rw [xx] at h; exact h))
theorem Zot {α:Type} {w:Int} {k:Int->Tr α} {n:Nat} {P:α->Prop} (h1:0 < w) (h2:w < 1073741824) (h:∀ r,0<=r->r < w->(k r).all n P):(Tr.draw w k).all (n+1) P:=⟨h1,h2,h⟩
noncomputable def tW (y:PyData) (ys:Ai):Tr Ai:=.ret (y::ys)
noncomputable def mt1 (h:PyData->Tr PyData) (xs:Ai) (y:PyData):Tr Ai:=(bG h xs).bind (tW y)
theorem Zdg {h:PyData->Tr PyData}:bG h []=.ret []:=rfl
theorem Zdh {h:PyData->Tr PyData} {x:PyData} {xs:Ai}:bG h (x::xs)=(h x).bind (mt1 h xs):=rfl
theorem Zdj {h:PyData->Tr PyData} {y:PyData} {xs:Ai}:mt1 h xs y=(bG h xs).bind (tW y):=rfl
theorem Zdi {y:PyData} {ys:Ai}:tW y ys=.ret (y::ys):=rfl
theorem pick {α:Type} {xs:List α} {r:Int} (h0:0<=r) (h1:r < xs.length):∃ v,bz xs r=some v/\v∈xs:=by
 have h:r.toNat < xs.length:=by omega
 exact ⟨xs[r.toNat],ft h0 (by simp [h]),xQ h⟩
theorem Zm3 {α:Type} {xs:List α} (h:xs.length=7):∃ a b c d e f g,xs=[a,b,c,d,e,f,g]:=by
 rcases xs with _ | ⟨a,_ | ⟨b,_ | ⟨c,_ | ⟨d,_ | ⟨e,_ | ⟨f,_ | ⟨g,_ | ⟨k,xs⟩⟩⟩⟩⟩⟩⟩⟩
 ·cases h
 ·cases h
 ·cases h
 ·cases h
 ·cases h
 ·cases h
 ·cases h
 ·exact ⟨a,b,c,d,e,f,g,rfl⟩
 ·exact absurd h (by simp)
theorem Zm4 {α:Type} {xs:List α} (h:xs.length=3):∃ a b c,xs=[a,b,c]:=by
 match xs,h with
 | [a,b,c],_=>exact ⟨a,b,c,rfl⟩
end L2
namespace L2
@[irreducible] noncomputable def Al {α:Type} (t:Tr α) (n:Nat) (P:α->Prop):Prop:=t.all n P
section
variable {α β:Type} {t:Tr α} {n n' N:Nat} {P:α->Prop} {P':β->Prop}
theorem Al.of (h:t.all n P):Al t n P:=by unfold Al; exact h
theorem Al.out (h:Al t n P):t.all n P:=by unfold Al at h; exact h
theorem dE {a:α} (h:P a):Al (.ret a) n P:=.of h
theorem cM {w:Int} {k:Int->Tr α} (h1:0 < w) (h2:w < 1073741824) (hN:n+1<=N) (h:∀ r,0<=r->r < w->Al (k r) n P):Al (.draw w k) N P:=.of (Tr.all_mono (Zot h1 h2 λr a b=>(h r a b).out) hN λ_ h=>h)
theorem eZ {f:α->Tr β} (h:Al t n P) (hN:n+n'<=N) (hf:∀ a,P a->Al (f a) n' P'):Al (t.bind f) N P':=.of (Tr.all_mono (Tr.all_bind h.out λa ha=>(hf a ha).out) hN λ_ h=>h)
theorem nn {Q:α->Prop} (h:Al t n P) (hN:n<=N) (hq:∀ a,P a->Q a):Al t N Q:=.of (Tr.all_mono h.out hN hq)
theorem Zqs {g:Af} {s:Ac} {xs:Ai} {ρ:Ap} {Q:Ou->Prop} (I:List Sl->Prop) (h0:I ρ) (hN:xs.length * n<=N) (ht:∀ x ρ,x∈xs->I ρ->∃ ρ1,g x ρ=some ρ1/\Al (s ρ1) n λo=>∃ ρ2,o=.next ρ2/\I ρ2) (hq:∀ ρ,I ρ->Q (.next ρ)):Al (bT g s xs ρ) N Q :=
 .of (Tr.all_mono (ZeC (λ_ ρ=>I ρ) (pre:=[]) h0 (λpre x post ρ _ h hx=>let ⟨ρ1,e,a⟩:=ht x ρ hx h; ⟨ρ1,e,a.out⟩) λρ h=>hq ρ h) hN λ_ h=>h)
theorem Zqr {h:PyData->Tr PyData} {P:PyData->Prop} {xs:Ai} {Q:List PyData->Prop} (hN:xs.length * n<=N) (hx:∀ x∈xs,Al (h x) n P) (hq:∀ ys,ys.length=xs.length->(∀ y∈ys,P y)->Q ys):Al (bG h xs) N Q :=
 .of (Tr.all_mono (Zdu λx m=>(hx x m).out) hN λys ⟨a,b⟩=>hq ys a b)
end
def kZ (lo hi:Int) (x:PyData):Prop:=∃ z:Int,x=.int z/\lo<=z/\z<=hi
theorem Zed {lo hi:Int}:∀ {xs:Ai},(∀ x∈xs,kZ lo hi x)->∃ ns:Aj,xs=ns.map PyData.int/\∀ n∈ns,lo<=n/\n<=hi
 | [],_=>⟨[],rfl,λn hn=>by cases hn⟩
 | x::xs,h=>by
  obtain ⟨ns,e,hn⟩:=Zed (xs:=xs) λy hy=>h y (v8 _ hy)
  obtain ⟨z,rfl,h1,h2⟩:=h x (by simp)
  exact ⟨z::ns,by rw [e]; rfl,λn hn'=>by
   rcases wt.mp hn' with rfl | hn'
   ·exact ⟨h1,h2⟩
   ·exact hn n hn'⟩
theorem cS {lo hi:Int}:(aN lo hi).length=(hi - lo).toNat:=by unfold aN; rw [v7,dU]
theorem tH {xs:Ai} {lo hi r:Int} (h:∀ x∈xs,kZ lo hi x) (h0:0<=r) (h1:r < xs.length):∃ z:Int,bz xs r=some (.int z)/\lo<=z/\z<=hi:=by
 obtain ⟨v,e,m⟩:=pick h0 h1
 obtain ⟨z,rfl,a,b⟩:=h v m
 exact ⟨z,e,a,b⟩
end L2
set_option Elab.async false
set_option linter.all false
set_option maxRecDepth 100000
namespace L2
variable {PK:Pk} {X:Cx} {a b c e:Expr} {es:List Expr} {pos:Pos} {i j l:z9} {is:Aa} {p q:Ab} {st:Stmt}
noncomputable def uF:PyData->Bool
 | .none=>true
 | .bool _=>true
 | .int _=>true
 | .str _=>true
 | _=>false
end L2
set_option Elab.async false
set_option linter.all false
set_option maxRecDepth 100000
namespace L2
variable {PK:Pk} {X:Cx} {a b c e:Expr} {es:List Expr} {pos:Pos} {i j l:z9} {as:List Sl->Tr Ap}
structure PkLow (PK:Pk):Prop where
 low:∀ {o o':HO} {G G':Hp} {m m':Nat},PK.is o G m->Sub G G'->PK.is o' G' m'->PK.is o' G m'
inductive ArB (pa:Addr) (G H:Hp):V->Sl->Prop
 | ok {v:V} {s:Sl}:ArOk pa G v s->ArB pa G H v s
 | own {p:Addr} {vs:An} {xs:Ai}:H p=some (.lst vs)->G p=none->pa≠p->DnAll G vs xs->ArB pa G H (.ref p) (.d (.list xs))
inductive ArsB (pa:Addr) (G H:Hp):List V->List Sl->Prop
 | nil:ArsB pa G H [] []
 | cons {v:V} {vs:An} {s:Sl} {ss:Ap}:ArB pa G H v s->ArsB pa G H vs ss->ArsB pa G H (v::vs) (s::ss)
theorem ArB.step {pa:Addr} {G H G' H':Hp} {v:V} {s:Sl} (h:ArB pa G H v s) (st:Stp pa G H G' H'):ArB pa G' H' v s:=by
 cases h with
 | ok h=>exact .ok (h.mono st.gs)
 | @own p vs xs h1 h2 h3 h4 =>
  refine .own (st.hk _ _ h1 (Ne.symm h3)) ?_ h3 (DnAll.mono st.gs h4)
  cases e:G' p with
  | none=>rfl
  | some u =>
   rcases st.gn p u e with z | z
   ·rw [h2] at z; cases z
   ·rw [h1] at z; cases z
theorem ArsB.ok {pa:Addr} {m:Nat} {G H:Hp}:∀ {vs:An} {ss:Ap} {G1:Hp},Sub G G1->Wd PK pa m G1 H->ArsB pa G H vs ss->∃ G2,Sub G1 G2/\Wd PK pa m G2 H/\ArsOk pa G2 vs ss
 | _,_,G1,_,w,.nil=>⟨G1,λ_ _ h=>h,w,.nil⟩
 | _,_,G1,sb,w,.cons h t=>by
  obtain ⟨G2,s2,w2,t2⟩:=ArsB.ok sb w t
  cases h with
  | ok h=>exact ⟨G2,s2,w2,.cons (h.mono (sb.trans s2)) t2⟩
  | @own p vs xs h1 h2 h3 h4 =>
   cases e:G2 p with
   | none =>
    have s3:Sub G2 (upd G2 p (.lst vs)):=Sub.new e
    exact ⟨upd G2 p (.lst vs),s2.trans s3,w2.freeze h1 e h3,.cons (.d (.lst cA (DnAll.mono ((sb.trans s2).trans s3) h4))) (ArsOk.mono s3 t2)⟩
   | some u =>
    have:=w2.sub p u e
    rw [h1] at this
    cases this
    exact ⟨G2,s2,w2,.cons (.d (.lst e (DnAll.mono (sb.trans s2) h4))) t2⟩
def TAb (PK:Pk) (i:List Sl->Tr Ap):TA:=λσ H Q=>∃ pa Aq H₀ m ρ G,Rl PK pa Aq H₀ m σ ρ G H/\(i ρ).ok m λm' as=>∀ vs G' H',Stp pa G H G' H'->Wd PK pa m' G' H'->ArsB pa G' H' vs as->Q vs H'
theorem TAb.then {σ:St} {H:Hp} {β:Type} {k:List Sl->Tr β} {Z:Nat->β->Prop} {Q:List V->Hp->Prop} {pa:Addr} {Aq H₀ G:Hp} {m:Nat} {ρ:Ap} (R:Rl PK pa Aq H₀ m σ ρ G H) (h:((as ρ).bind k).ok m Z)
  (hq:∀ m1 xs vs G1 H1,Stp pa G H G1 H1->Wd PK pa m1 G1 H1->Rl PK pa Aq H₀ m1 σ ρ G1 H1->ArsB pa G1 H1 vs xs->(k xs).ok m1 Z->Q vs H1):TAb PK as σ H Q:=by
 refine ⟨pa,Aq,H₀,m,ρ,G,R,Tr.ok_mono (Tr.ok_bind.mp h) λm1 x hx v G1 H1 s1 w1 d1=>?_⟩
 exact hq m1 x v G1 H1 s1 w1 (R.step s1 w1) d1 hx
theorem vI:PA X [] (TAb PK aq):=cC.imp λσ H Q hz0=>by
 obtain ⟨pa,Aq,H₀,m,ρ,G,R,z⟩:=hz0
 exact z [] G H .refl R.wd .nil
noncomputable def ly (k:Nat) (as:List Sl->Tr Ap):List Sl->Tr Ap:=λρ=>match ρ[k]? with
 | some (.own xs)=>(as ρ).bind λys=>.ret (.d (.list xs)::ys)
 | some (.d x)=>(as ρ).bind λys=>.ret (.d x::ys)
 | _=>.fail
theorem vJ {k:Nat} (ha:PE X e (fA k)) (hr:PA X es (TAb PK as)) (hs:starEach (e::es) X.env=(false,eval e X.env)::starEach es X.env:=by rfl):PA X (e::es) (TAb PK (ly k as)):=(bI ha hr hs).imp λσ H Q hz0=>by
 obtain ⟨pa,Aq,H₀,m,ρ,G,R,z⟩:=hz0
 unfold ly at z
 split at z
 ·rename_i xs hk
  obtain ⟨o,h1,h2⟩:=R.sl k _ hk
  cases h2 with
  | @own p vs _ a1 a2 a3 a4 =>
   have hne:pa≠p:=λe=>by
    obtain ⟨u,hu⟩:=R.p0
    rw [e,a3] at hu; cases hu
   refine ⟨_,h1,?_⟩
   refine TAb.then R z λm2 ys ws G2 H2 s2 w2 R2 d2 q2=>?_
   exact q2 _ _ _ s2 w2 (.cons ((ArB.own a1 a2 hne a4).step s2) d2)
 ·rename_i x hk
  obtain ⟨o,h1,h2⟩:=R.sl k _ hk
  cases h2 with
  | d d1 =>
   refine ⟨_,h1,?_⟩
   refine TAb.then R z λm2 ys ws G2 H2 s2 w2 R2 d2 q2=>?_
   exact q2 _ _ _ s2 w2 (.cons (.ok (.d (d1.mono s2.gs))) d2)
 ·exact z.elim
theorem Dn.flat_any {G G':Hp} {v:V} {x:PyData} (h:Dn G v x) (f:uF x=true):Dn G' v x:=by
 cases h with
 | non=>exact .non
 | bl b=>exact .bl b
 | int i=>exact .int i
 | str s=>exact .str s
 | _=>cases f
variable {ρ:Ap} {k:Nat} {xs:Ai} {x:PyData} {sl:Sl} {f:Ad}
noncomputable def jA:Nat->List Sl->Tr PyData
 | 0,.own xs::_=>.ret (.list xs)
 | 0,.d x::_=>.ret x
 | k+1,_::ρ=>jA k ρ
 | _,_=>.fail
theorem Zgb:jA 0 (.own xs::ρ)=.ret (.list xs):=rfl
theorem Zgc:jA 0 (.d x::ρ)=.ret x:=rfl
theorem Zga:jA (k+1) (sl::ρ)=jA k ρ:=rfl
theorem Zf8:ly k as ρ=(jA k ρ).bind (qF as ρ):=by
 have key:∀ (k:Nat) (σ:Ap) (as:List Sl->Tr Ap) (ρ:Ap),(match σ[k]? with | some (.own xs)=>(as ρ).bind λys=>Tr.ret (Sl.d (.list xs)::ys) | some (.d x)=>(as ρ).bind λys=>Tr.ret (Sl.d x::ys) | _=>Tr.fail)=(jA k σ).bind (qF as ρ):=by
  intro k
  induction k with
  | zero =>
   intro σ as ρ
   cases σ with
   | nil=>rfl
   | cons s r=>cases s <;> rfl
  | succ k ih =>
   intro σ as ρ
   cases σ with
   | nil=>rfl
   | cons s r=>exact ih r as ρ
 exact key k ρ as ρ
end L2
set_option Elab.async false
set_option linter.all false
set_option maxRecDepth 100000
namespace L2
theorem Zpq {prog:Program} {w:World} {A:Around} {R:Result->Shared->Prop} {s:Shared} {elt target iter cnd:Expr} {scope:Scope} {pos:Pos} {it acc:Value} {env:Env} (J:Nat->Shared->Prop)
  (step:∀ k s0,J k s0->wpAny (model prog w) A (pyNext it) (λgot s1=>match got with
   | none=>R (.ok .next) s1
   | some v=>wpAny (model prog w) A (letOwnedTupleGo target it v) (λ_ s2=>wpAny (model prog w) A (assign target env v) (λ_ s3=>wpAny (model prog w) A (isTrue cnd env (eval cnd env)) (λok s3'=>if ok=true then wpAny (model prog w) A (eval elt env) (λy s4 =>
     wpAny (model prog w) A (call (.builtin "list.append") [acc,y]) (λ_ s5=>∃ j,j < k/\J j s5) (λ_ _=>False) s4) (λ_ _=>False) s3' else ∃ j,j < k/\J j s3') (λ_ _=>False) s3) (λ_ _=>False) s2) (λ_ _=>False) s1) (λ_ _=>False) s0)
  (k:Nat) (h:J k s):codeAny (model prog w) A (.compLoop (.ListComp elt [⟨target,iter,[cnd],0⟩] scope pos) 0 it acc env) R s:=by
 refine codeAny_loop rfl J (λk0 s0 hJ=>?_) k h
 show wpAny _ _ ((compTurn (.ListComp elt [⟨target,iter,[cnd],0⟩] scope pos) 0 it acc env).onRaise (λx=>do noteFrame x env; theTreesLotGoes x)) _ _ s0
 apply wpAny_noted
 rw [compTurn_list]
 refine wpAny_bind (wpAny_standAt (wpAny_bind (wpAny_mono (step k0 s0 hJ) (λgot s1 h1=>?_) λ_ _ z=>z.elim)))
 cases got with
 | none=>exact wpAny_pure h1
 | some v =>
  refine wpAny_bind (wpAny_mono h1 (λ_ s2 h2=>?_) λ_ _ z=>z.elim)
  refine wpAny_bind (wpAny_mono h2 (λ_ s3 h3=>?_) λ_ _ z=>z.elim)
  refine wpAny_bind (wpAny_mono (wpAny_tests_one h3) (λok s3' h3'=>?_) λ_ _ z=>z.elim)
  cases ok with
  | false=>exact wpAny_pure ⟨rfl,h3'⟩
  | true =>
   refine wpAny_bind (wpAny_bind (wpAny_mono h3' (λy s4 h4=>?_) λ_ _ z=>z.elim))
   exact wpAny_bind (wpAny_mono h4 (λ_ s5 h5=>wpAny_pure (wpAny_pure ⟨rfl,h5⟩)) λ_ _ z=>z.elim)
def lN (wi:TI) (n:Nat) (ix:List Nat) (g:Blk->TG) (tc:Blk->TT) (te:Blk->TE):TE:=λσ H Q=>wi σ H λJ H1=>∀ b:Blk,∃ W:Nat->Nat->St->List V->Hp->Prop,(∃ m,W 0 m (dL n ix σ) [] H1)/\∀ i m τ ys H2,W i m τ ys H2 ->
 (J.stop i H2/\∀ p v H',H2 p=none->v=V.ref p->H'=upd H2 p (.lst ys)->Q v H') \/
 (J.go i H2/\ys.length < sizeLine/\∀ x H3,J.yld i H2 x H3->g b x τ H3 λτ2 H4=>tc b τ2 H4 λok H4'=>if ok=true then te b τ2 H4' λy H5=>∃ m',m' < m/\W (i+1) m' τ2 (ys++[y]) H5 else ∃ m',m' < m/\W (i+1) m' τ2 ys H4')
section
variable {X:Cx} {pins:List (Addr×Obj)} {σ:St} {H:Hp} {s:Shared}
theorem ZdV {elt target iter cnd:Expr} {scope:Scope} {pos:Pos} {Nx ts:Am} {ix:List Nat} {g:Blk->TG} {tc:Blk->TT} {te:Blk->TE} {cl:List (Str×Addr)} {s2:Shared} {itv:Value} {R:Value->Addr->Result->Shared->Prop}
  {E:Ah} {Q:VK}
  (hc:X.calm=true) (hg:∀ b,PG (bU X (bN Nx ts ix) scope b) target (g b)) (hcn:∀ b,PT (bU X (bN Nx ts ix) scope b) cnd (tc b)) (he:∀ b,PE (bU X (bN Nx ts ix) scope b) elt (te b))
  (hNx:X.N=Nx) (ok:BlkOk Nx X.env.scope scope ix) (cl1:∀ x c,cl.lookup x=some c->X.env.cells.lookup x=some c) (cl2:∀ y∈scope.names,y.2=.free->∃ c,cl.lookup y.1=some c)
  (h2:qR X pins σ target (λJ H1=>∀ b:Blk,∃ W:Nat->Nat->St->List V->Hp->Prop,(∃ m,W 0 m (dL ts.length ix σ) [] H1)/\∀ i m τ ys H2,W i m τ ys H2 ->
   (J.stop i H2/\∀ p v H',H2 p=none->v=V.ref p->H'=upd H2 p (.lst ys)->Q v H') \/
   (J.go i H2/\ys.length < sizeLine/\∀ x H3,J.yld i H2 x H3->g b x τ H3 λτ2 H4=>tc b τ2 H4 λok H4'=>if ok=true then te b τ2 H4' λy H5=>∃ m',m' < m/\W (i+1) m' τ2 (ys++[y]) H5 else ∃ m',m' < m/\W (i+1) m' τ2 ys H4')) itv s2)
  (hR:∀ (D C:Addr) (H':Hp) (s':Shared) (v:V),Inv X pins σ H' s'->v=.ref D->Q v H'->(∃ m,s'.heap.Ns C m)->H' C=none->C≠X.env.locals->X.s₀.heap.objs.size<=C->(∀ x c,X.env.cells.lookup x=some c->c≠C)->(∀ p∈X.pn++pins,p.1≠C) ->
   R (.ref D) C (.ok .next) s') :
  wpAny (model X.prog X.w) X.A (newList []) (λacc s₃=>wpAny (model X.prog X.w) X.A (newFunctionEnv scope X.env.globals cl [] X.env.qual none .none (some X.env)) (λcenv s₄ =>
   codeAny (model X.prog X.w) X.A (.compStart (.ListComp elt [⟨target,iter,[cnd],0⟩] scope pos) 0 itv acc { cenv with scope:=relabel scope X.env }) (R acc cenv.locals) s₄) E s₃) E s2:=by
 obtain ⟨it,fp,tn,J,H1,e,I2,T,st2,f2,q2⟩:=h2
 subst e
 refine wpAny_newObj_type (Zaj ?_)
 dsimp only
 generalize hG:s2.heap.push { cls:=.type "list",dict:=none,data:=.seq ([]:Ak).toArray }=G
 have hGs:G.objs.size=s2.heap.objs.size+1:=by rw [<- hG,wX]
 have hfs:∀ b∈fp,b < s2.heap.objs.size:=λb hb=>let ⟨o,e,_⟩:=T.obj _ _ st2 b hb; wq e
 have kpG:∀ b o,G.get? b=some o->(pushCells (G.push { cls:=.type "dict",data:=.dict #[] }) scope.names).get? b=some o:=λb o e=>pushCells_keeps _ _ _ _ (v6 _ e)
 have hns3:(pushCells (G.push { cls:=.type "dict",data:=.dict #[] }) scope.names).Ns G.objs.size (λ_=>none):=(Heap.Ns.new G (.type "dict")).keeps (pushCells_keeps _ _)
 obtain ⟨sp1,sp2,sp4,sp3⟩:=Zim scope.names (G.push { cls:=.type "dict",data:=.dict #[] }) cl
 rw [wX] at sp1 sp2 sp3 sp4
 generalize hh3:pushCells (G.push { cls:=.type "dict",data:=.dict #[] }) scope.names=h3 at kpG hns3 sp1 ⊢
 have kp:∀ b o,s2.heap.get? b=some o->h3.get? b=some o:=λb o e=>kpG b o (by rw [<- hG]; exact v6 _ e)
 have hD3:h3.get? s2.heap.objs.size=some { cls:=.type "list",data:=.seq ([]:Ak).toArray }:=kpG _ _ (by rw [<- hG]; exact wc _ rfl)
 have clB:∀ x c,cl.lookup x=some c->c < G.objs.size+1:=λx c e=>by
  obtain ⟨v,q⟩:=I2.cell x c (cl1 x c e)
  exact xZ (wk q.lt (by rw [hGs]; exact Nat.le_succ _))
 have csI:=sp3 clB λx y c e1 e2=>I2.ok.inj x y c (cl1 x c e1) (cl1 y c e2)
 have cs1:∀ x c,(cellsFrom (G.objs.size+1) scope.names cl).lookup x=some c->X.env.cells.lookup x=some c\/(G.objs.size < c/\h3.IsCell c none/\(x,NameKind.cell)∈scope.names):=λx c e=>by
  rcases sp1 x c e with z | ⟨z1,z2,z3⟩
  ·exact .inl (cl1 x c z)
  ·exact .inr ⟨by omega,z2,z3⟩
 have cs2:∀ y∈scope.names,(y.2=.free\/y.2=.cell)->∃ c,(cellsFrom (G.objs.size+1) scope.names cl).lookup y.1=some c:=λy hy hk=>by
  refine sp2 y.1 ?_
  rcases hk with z | z
  ·exact .inr (cl2 y hy z)
  ·exact .inl (by rw [<- z]; exact hy)
 have csA:∀ x c,(x,NameKind.cell)∈scope.names->(cellsFrom (G.objs.size+1) scope.names cl).lookup x=some c->G.objs.size<=c:=λx c e1 e2=>yD (sp4 x c e1 e2)
 generalize hcs:cellsFrom (G.objs.size+1) scope.names cl=cs at csI cs1 cs2 csA ⊢
 generalize hCe:G.objs.size=C at hns3 cs1 csA ⊢
 have hC:s2.heap.objs.size<=C:=by omega
 have hDC:s2.heap.objs.size≠C:=by omega
 let B:Blk:=⟨cs,C,s2,H1,fp,X.pn++pins⟩
 have I3:Inv (bU X (bN Nx ts ix) scope B) [] (dL ts.length ix σ) H1 { s2 with heap:=h3 }:=Zec I2 hNx ok cs1 csI cs2 csA f2 hfs hC kp hns3
 have fC:H1 s2.heap.objs.size=none:=I2.hok.fresh (wa _)
 have cellIn:∀ x c,cs.lookup x=some c->c≠s2.heap.objs.size:=λx c e=>by
  rcases cs1 x c e with z | ⟨z,_,_⟩
  ·obtain ⟨v,q⟩:=I2.cell x c z
   exact wz q.lt
  ·exact xb (xE hC z)
 have pinIn:∀ p∈X.pn++pins,p.1 < s2.heap.objs.size:=λp hp=>wq (I2.pin p hp).1
 have nofrs:s2.heap.objs.size ∉ frs X.stack:=λhb=>by
  rcases wt.mp (I2.stkSub _ hb) with z | z
  ·exact absurd I2.lt (by rw [<- z]; exact wH _)
  ·exact I2.nofs (wa _) z
 -- a state with the list at its place,pinned
 have pinD:∀ {τ:St} {H':Hp} {s':Shared} {ob:Obj},Inv (bU X (bN Nx ts ix) scope B) [] τ H' s'->s'.heap.get? s2.heap.objs.size=some ob->H' s2.heap.objs.size=none->(∀ v,ob.data≠.cell v)->Inv (bU X (bN Nx ts ix) scope B) [(s2.heap.objs.size,ob)] τ H' s' :=
  λ{τ H' s' ob} I' ho hn hd=>I'.pins_of λp hp=>by
   have e:p=(s2.heap.objs.size,ob):=by simpa using hp
   subst e
   exact ⟨ho,hn,hDC,nofrs,hd⟩
 obtain ⟨W,⟨m0,w0⟩,turn⟩:=q2 B
 have stat:∀ {H':Hp} {ob:Obj},(∀ b∈fp,H' b=none)->∀ b∈fp,gg (bU X (bN Nx ts ix) scope B) [(s2.heap.objs.size,ob)] H' b:=λ{H' ob} hn b hb=>by
  refine ⟨hn b hb,wz (wk (hfs b hb) hC),λz=>?_,.inl hb,λx c e=>by
   rcases cs1 x c e with z | ⟨z,_,_⟩
   ·exact (f2 b hb).2.2.2.2.1 x c z
   ·exact xb (wk (hfs b hb) (ww hC (yl z))),λp hp=>?_⟩
  ·rcases wt.mp (I2.stkSub _ z) with q | q
   ·exact (f2 b hb).2.1 q
   ·exact (f2 b hb).2.2.1 q
  ·rcases xT.mp hp with z | z
   ·exact (f2 b hb).2.2.2.2.2 p z
   ·have e:p=(s2.heap.objs.size,ob):=by simpa using z
    subst e
    exact xb (hfs b hb)
 have loop:∀ s4:Shared,s4={ s2 with heap:=h3 } ->
   codeAny (model X.prog X.w) X.A (.compLoop (.ListComp elt [⟨target,iter,[cnd],0⟩] scope pos) 0 (.ref it) (.ref s2.heap.objs.size) (compEnvC scope cs C X.env)) (R (.ref s2.heap.objs.size) C) s4:=by
  rintro s4 rfl
  refine Zpq (λk s'=>∃ i τ ys its n H',Inv (bU X (bN Nx ts ix) scope B) [(s2.heap.objs.size,({ cls:=.type "list",data:=.seq (List.toArray its) n }:Obj))] τ H' s'/\tn i s'.heap/\(∀ b∈fp,H' b=none)/\Vals ys its/\ys.length<=sizeLine/\W i k τ ys H') ?_ m0
   ⟨0,_,[],[],_,H1,pinD I3 hD3 fC (λv z=>by cases z),T.keep _ _ _ st2 λb hb o e=>kp b o e,λb hb=>(f2 b hb).1,.nil,xz _,w0⟩
  rintro k s5 ⟨i,τ,ys,its,n,H5,I5,st5,fr5,rv,hz,w5⟩
  rcases turn i k τ ys H5 w5 with ⟨stop,qn⟩ | ⟨go,hlt,step⟩
  ·refine thn (T.done (bU X (bN Nx ts ix) scope B) rfl rfl rfl hc i _ s5 τ H5 _ I5 (stat fr5) st5 stop) λgot s6 hz0=>?_
   obtain ⟨hr,I6⟩:=hz0
   subst hr
   obtain ⟨ho,hn,_,_,_⟩:=I6.pin (s2.heap.objs.size,({ cls:=.type "list",data:=.seq (List.toArray its) n }:Obj)) (wo _ (by simp))
   have I7:Inv X pins σ H5 s6:=I2.call' (ch:=fp) (H':=H5) (by exact I6.os) I6.base I6.hok I6.bare λb hb=>⟨(f2 b hb).2.2.2.1,(f2 b hb).2.1,(f2 b hb).2.2.2.2.1,(f2 b hb).2.2.2.2.2⟩
   have hs0:X.s₀.heap.objs.size<=s2.heap.objs.size:=I2.sz
   have I8:=I7.track hn ho rv hz (xb I2.lt) hs0 (λx c e z=>by
    obtain ⟨v,q⟩:=I2.cell x c e
    exact absurd q.lt (by rw [z]; exact wH _)) (λp hp=>wz (pinIn p hp))
   obtain ⟨m6,hm6,_⟩:=I6.loc
   refine hR _ C _ s6 _ I8 rfl (qn _ _ _ hn rfl rfl) ⟨m6,hm6⟩ ?_ (λz=>?_) (ww hs0 hC) (λx c e z=>?_) λp hp=>wz (wk (pinIn p hp) hC)
   ·rw [bc (Ne.symm hDC)]
    exact I6.free
   ·exact absurd (wk I2.lt hC) (by rw [z]; exact wH _)
   ·obtain ⟨v,q⟩:=I2.cell x c e
    exact absurd (wk q.lt hC) (by rw [z]; exact wH _)
  ·refine thn (T.item (bU X (bN Nx ts ix) scope B) rfl rfl rfl hc i _ s5 τ H5 _ I5 (stat fr5) st5 go) λgot s6 hz0=>?_
   obtain ⟨u,hr,h6⟩:=hz0
   subst hr
   refine thn h6 λ_ s7 hz0=>?_
   obtain ⟨x,H7,I7,r7,y7,st7,fr7⟩:=hz0
   have I7':=I7.pinned (stat fr7) (T.obj _ _ st7)
   refine thn (hg B _ s7 τ H7 x u _ I7' r7 (step x H7 y7)) λ_ s8 hz0=>?_
   obtain ⟨τ8,H8,I8,q8⟩:=hz0
   refine thn (hcn B _ s8 τ8 H8 _ I8 q8) λokk s8' hz0=>?_
   obtain ⟨H8',I8',q8'⟩:=hz0
   cases okk with
   | false =>
    obtain ⟨m',hm',w9⟩:=q8'
    obtain ⟨ho,hn,_,_,_⟩:=I8'.pin (s2.heap.objs.size,({ cls:=.type "list",data:=.seq (List.toArray its) n }:Obj)) (wo _ (x8 _ (by simp)))
    have I9':Inv (bU X (bN Nx ts ix) scope B) [] τ8 H8' s8':=I8'.pins_of λp hp=>absurd hp (by simp)
    refine ⟨m',hm',i+1,τ8,ys,its,n,H8',pinD I9' ho hn (λv z=>by cases z),?_,λb hb=>?_,rv,hz,w9⟩
    ·refine T.keep _ _ _ st7 λb hb o e=>?_
     exact (I8'.pin (b,o) (wo _ (wo _ (iN hb e)))).1
    ·obtain ⟨o,e,d⟩:=T.obj _ _ st7 b hb
     exact (I8'.pin (b,o) (wo _ (wo _ (iN hb e)))).2.1
   | true =>
   refine thn (he B _ s8' τ8 H8' _ I8' q8') λy s9 hz0=>?_
   obtain ⟨vy,H9,I9,r9,m',hm',w9⟩:=hz0
   obtain ⟨ho,hn,_,_,_⟩:=I9.pin (s2.heap.objs.size,({ cls:=.type "list",data:=.seq (List.toArray its) n }:Obj)) (wo _ (x8 _ (by simp)))
   have lenv:=rv.length
   refine wpAny_list_append_plain (l:=s2.heap.objs.size) ⟨n,ho⟩ (λh' hpl hsb=>?_) (by rw [wj]; omega)
   obtain ⟨n',ho'⟩:=hpl
   have eobj:(its.toArray.push y)=List.toArray (its++[y]):=by simp
   rw [eobj] at ho'
   have I9':Inv (bU X (bN Nx ts ix) scope B) [] τ8 H9 s9:=I9.pins_of λp hp=>absurd hp (by simp)
   have I10:Inv (bU X (bN Nx ts ix) scope B) [] τ8 H9 { s9 with heap:=h' }:=I9'.turned (it:=s2.heap.objs.size) (t':=s9.toks) (λb o hb e=>(hsb.2 b hb).trans e) hn hDC (.inr (wa _)) cellIn (λp hp=>by
    have hp':p∈(X.pn++pins)++[]:=hp
    rw [wZ] at hp'
    exact wz (pinIn p hp'))
   refine ⟨m',hm',i+1,τ8,ys++[vy],its++[y],n',H9,pinD I10 ho' hn (λv z=>by cases z),?_,λb hb=>?_,rv.append (.cons r9 .nil),by rw [wx]; show ys.length+1<=_; omega,w9⟩
   ·refine T.keep _ _ _ st7 λb hb o e=>?_
    have q:=(I9.pin (b,o) (wo _ (wo _ (iN hb e)))).1
    exact (hsb.2 b (wz (hfs b hb))).trans q
   ·obtain ⟨o,e,d⟩:=T.obj _ _ st7 b hb
    exact (I9.pin (b,o) (wo _ (wo _ (iN hb e)))).2.1
 exact codeAny_compStart_list (loop _ rfl) (T.self X.A 0 _ _ _ (T.keep _ _ _ st2 λb hb o e=>kp b o e) (loop _ rfl))
theorem ZcK {elt target iter cnd:Expr} {scope:Scope} {pos:Pos} {wi:TI} {g:Blk->TG} {tc:Blk->TT} {te:Blk->TE} (Nx:Am) (ts:Am) (ix:List Nat)
  (hc:X.calm=true) (hi:PI X target iter wi) (hg:∀ b,PG (bU X (bN Nx ts ix) scope b) target (g b)) (hcn:∀ b,PT (bU X (bN Nx ts ix) scope b) cnd (tc b)) (he:∀ b,PE (bU X (bN Nx ts ix) scope b) elt (te b))
  (hNx:X.N=Nx) (ok:BlkOk Nx X.env.scope scope ix) (hs:∀ x,foldedSetIterable iter X.env x=pure x:=by intro _; rfl) :
  PE X (.ListComp elt [⟨target,iter,[cnd],0⟩] scope pos) (lN wi ts.length ix g tc te):=by
 intro pins s σ H Q I h
 obtain ⟨cl,hcl,cl1,cl2⟩:=qc (scope:=scope) (env:=X.env) λy hy hf=>I.ok.has y.1 (ok.frees y hy hf)
 rw [eval_ListComp]
 refine wpAny_comprehension_free (use:=none) rfl hs hcl ok.kind ok.locs (thn (hi pins s σ H _ I h) λv s1 h1=>thn h1 λitv s2 h2=>?_)
 refine ZdV (R:=λacc C=>compPost (model X.prog X.w) X.A X.xe none (EP X pins σ Q) acc C) hc hg hcn he hNx ok cl1 cl2 h2 ?_
 rintro D C H' s' v I' rfl q ⟨m,hm⟩ hn hL h0 hcl' hp
 exact ⟨m,hm,λh' hsb=>⟨.ref D,H',I'.turned (it:=C) (t':=s'.toks) (λb o hb e=>(hsb.2 b hb).trans e) hn hL (.inr h0) hcl' hp,rfl,q⟩⟩
theorem ZcA {elt target iter cnd:Expr} {scope:Scope} {pos pos' spos:Pos} {wi:TI} {g:Blk->TG} {tc:Blk->TT} {te:Blk->TE} {i:Nat} {x:Str} (Nx:Am) (ts:Am) (ix:List Nat)
  (hc:X.calm=true) (hN:X.N.Nodup) (hix:X.N[i]?=some x) (hx:X.env.scope.names.lookup x=some .local) (hi:PI X target iter wi) (hg:∀ b,PG (bU X (bN Nx ts ix) scope b) target (g b)) (hcn:∀ b,PT (bU X (bN Nx ts ix) scope b) cnd (tc b)) (he:∀ b,PE (bU X (bN Nx ts ix) scope b) elt (te b))
  (hNx:X.N=Nx) (ok:BlkOk Nx X.env.scope scope ix) (hsw:swapsWith (.ListComp elt [⟨target,iter,[cnd],0⟩] scope pos) (some (.Name x pos')) spos.line X.env=pure true) (hs:∀ x,foldedSetIterable iter X.env x=pure x:=by intro _; rfl) :
  PS X (.Assign [.Name x pos'] (.ListComp elt [⟨target,iter,[cnd],0⟩] scope pos) spos) (fg (lN wi ts.length ix g tc te) (fq i)):=by
 intro pins s σ H D0 I h
 obtain ⟨cl,hcl,cl1,cl2⟩:=qc (scope:=scope) (env:=X.env) λy hy hf=>I.ok.has y.1 (ok.frees y hy hf)
 rw [exec_Assign_Name_used _ _ _ _ hsw]
 refine wpAny_bind (wpAny_standAt (wpAny_bind ?_))
 show wpAny _ X.A (do let _ <- comprehension (.ListComp elt [⟨target,iter,[cnd],0⟩] scope pos) scope X.env _ (newList []) false (eval iter X.env) (some (assign (.Name x pos') X.env))) _ _ s
 refine wpAny_bind (thn (wpAny_comprehension_free (use:=some (assign (.Name x pos') X.env)) (Q:=λ_ s'=>SP X pins D0 .next s') rfl hs hcl ok.kind ok.locs (thn (hi pins s σ H _ I h) λv s1 h1=>thn h1 λitv s2 h2=>?_)) λ_ s' hq=>wpAny_pure (wpAny_pure hq))
 refine ZdV (R:=λacc C=>compPost (model X.prog X.w) X.A X.xe (some (assign (.Name x pos') X.env)) (λ_ s'=>SP X pins D0 .next s') acc C) (Q:=λx H1=>fq i x σ H1 D0.nx) hc hg hcn he hNx ok cl1 cl2 h2 ?_
 rintro D C H' s' v I' rfl q ⟨m,hm⟩ hn hL h0 hcl' hp
 show wpAny _ X.A (assign (.Name x pos') X.env (.ref D)) _ _ _
 refine wpAny_assign_Name (rK I' hN hix (.inl hx) (show RelV (.ref D) (.ref D) from rfl) (λs'' I'' hch=>?_) (.inr hx))
 obtain ⟨a,hsb,ha⟩:=hch
 have haC:C≠a:=by
  rcases ha with z | z
  ·rw [z]; exact hL
  ·exact λe=>hcl' _ _ z e.symm
 exact ⟨m,hm.sameBut hsb haC,λh'' hs''=>⟨_,H',I''.turned (it:=C) (t':=s''.toks) (λb o hb e=>(hs''.2 b hb).trans e) hn hL (.inr h0) hcl' hp,q⟩⟩
end
section
variable {PK:Pk} {X:Cx} {e:Expr} {st:Stmt} {i:z9} {is:Aa} {p:Ab}
noncomputable def mz (y:Option PyData) (ys:Ai):Tr Ai:=.ret (match y with
 | some y=>y::ys
 | none=>ys)
noncomputable def eU (h:PyData->Tr (Option PyData)):List PyData->Tr Ai
 | []=>.ret []
 | x::xs=>(h x).bind λy=>(eU h xs).bind (mz y)
noncomputable def k7 (p:Ab) (i:z9) (τ:Ap):Tr (Option PyData):=(p τ).bind λok=>if ok=true then (i τ).bind λy=>.ret (some y) else .ret none
noncomputable def i9 (is:Aa) (n:Nat) (ix:List Nat) (g:Af) (p:Ab) (el:z9):Aa:=λρ =>
 (is ρ).bind λxs=>if small xs.length=true then eU (λx=>(Tr.of (g x (blk n ix ρ))).bind (k7 p el)) xs else .fail
theorem ZdU {n:Nat} {ix:List Nat} {g:Af} (hn:io n g):∀ σ H Q,fe PK (i9 is n ix g p i) σ H Q->lN (fu PK is) n ix (λ_=>gf PK g) (λ_=>TAt PK p) (λ_=>TAe PK i) σ H Q:=by
 rintro σ H Q ⟨pa,Aq,H₀,m,ρ,G,R,z⟩
 refine ⟨pa,Aq,H₀,m,ρ,G,R,Tr.ok_mono (Tr.ok_bind.mp z) λm1 xs k J G1 H1 s1 w1 jo=>λB=>?_⟩
 obtain ⟨hs,k⟩:=gZ k
 have hs:xs.length<=sizeLine:=of_decide_eq_true hs
 let el:PyData->Tr (Option PyData):=λx=>(Tr.of (g x (blk n ix ρ))).bind (k7 p i)
 let W:Nat->Nat->St->List V->Hp->Prop:=λk mm τ ys H2=>mm=xs.length - k/\k<=xs.length/\ys.length<=k/\∃ m G2 ds,Sub G1 G2/\Stp pa G H G2 H2/\Rl PK pa Aq H₀ m τ (blk n ix ρ) G2 H2 /\
  DnAll G2 ys ds/\(eU el (xs.drop k)).ok m λm' zs=>Ko1 PK pa m' G H (ds++zs) Q
 refine ⟨W,⟨xs.length,rfl,xz _,wa _,m1,G1,[],.refl,s1,(R.step s1 w1).blk n ix,.nil,k⟩,?_⟩
 rintro k mm τ ys H2 ⟨rfl,hk,hy,m2,G2,ds,sb,st2,R2,dn,k2⟩
 obtain ⟨j1,j2⟩:=jo m2 G2 H2 sb R2.wd
 by_cases hlt:k < xs.length
 ·have hx:xs[k]?=some xs[k]:=by simp [hlt]
  obtain ⟨jg,jy⟩:=j1 k _ hx
  refine .inr ⟨jg,by omega,λx H3 y=>?_⟩
  obtain ⟨G3,s3,w3,d3⟩:=jy x H3 y
  rw [xn hlt] at k2
  unfold eU at k2
  rw [Tr.ok_bind,Tr.ok_bind] at k2
  obtain ⟨ρ3,hg3,k3⟩:=Tr.ok_of k2
  refine ⟨pa,Aq,H₀,m2,_,G3,_,ρ3,R2.step s3 w3,d3,hg3,λτ4 R4=>?_⟩
  obtain ⟨pl,pk⟩:=hn _ _ _ hg3
  have hback:∀ (q:Nat) (sl:Sl),(blk n ix ρ)[q]?=some sl->sl=.un\/ρ3[q]?=some sl:=λq sl hq=>by
   by_cases hqn:q < n
   ·left
    unfold blk at hq
    rw [wS (by simpa using hqn),wN,if_pos hqn] at hq
    cases hq
    rfl
   ·right
    rw [pk q (yq hqn)]
    exact hq
  unfold k7 at k3
  rw [Tr.ok_bind] at k3
  refine ⟨pa,Aq,H₀,m2,ρ3,G3,R4,Tr.ok_mono k3 λm4 ok k4 G4 H4 s4 w4=>?_⟩
  have R4':=R4.step s4 w4
  have s34:=s3.trans s4 w3.some
  cases ok with
  | false =>
   have k4':((eU el (xs.drop (k+1))).bind (mz none)).ok m4 λm' zs=>Ko1 PK pa m' G H (ds++zs) Q:=k4
   refine ⟨xs.length - (k+1),by omega,rfl,hlt,by omega,m4,G4,ds,sb.trans s34.gs,st2.trans s34 R2.wd.some,R4'.weak pl hback,DnAll.mono s34.gs dn,?_⟩
   exact Tr.ok_mono (Tr.ok_bind.mp k4') λm6 zs k6=>k6
  | true =>
   have k4':((i ρ3).bind λy=>.ret (some y)).ok m4 λm' y=>((eU el (xs.drop (k+1))).bind (mz y)).ok m' λm' zs=>Ko1 PK pa m' G H (ds++zs) Q:=k4
   rw [Tr.ok_bind] at k4'
   refine ⟨pa,Aq,H₀,m4,ρ3,G4,R4',Tr.ok_mono k4' λm5 yd k5=>?_⟩
   intro v G5 H5 s5 w5 d5
   have s35:=s34.trans s5 w4.some
   refine ⟨xs.length - (k+1),by omega,rfl,hlt,by rw [wx]; show ys.length+1<=_; omega,m5,G5,ds++[yd],sb.trans s35.gs,st2.trans s35 R2.wd.some,(R4'.step s5 w5).weak pl hback,(DnAll.mono s35.gs dn).snoc d5,?_⟩
   have k5':((eU el (xs.drop (k+1))).bind (mz (some yd))).ok m5 λm' zs=>Ko1 PK pa m' G H (ds++zs) Q:=k5
   refine Tr.ok_mono (Tr.ok_bind.mp k5') λm6 zs k6=>?_
   rw [xx]
   exact k6
 ·have e:k=xs.length:=by omega
  subst e
  refine .inl ⟨j2,λp v H' hp ev eH=>?_⟩
  subst ev eH
  rw [yN] at k2
  have k2':Ko1 PK pa m2 G H (ds++[]) Q:=k2
  rw [wZ] at k2'
  exact (Ko1.later k2' st2 R2.wd.some).new R2.wd dn hp
theorem Zi1 {n:Nat} {ix:List Nat} {g:Af} (h:PE X e (lN (fu PK is) n ix (λ_=>gf PK g) (λ_=>TAt PK p) (λ_=>TAe PK i))) (hn:io n g):PE X e (fe PK (i9 is n ix g p i)):=h.imp (ZdU hn)
end
end L2
set_option Elab.async false
set_option linter.all false
set_option maxRecDepth 100000
namespace L2
section
variable {X:Cx}
theorem ZmB (x:Int) (t:Tok) (l:Addr) (items:Array Value) (n:Nat) (dd:Option Addr) (sl:Array (Option Value)) (h1:x<=0) (h2:-1000<=x) (h3:items.isEmpty=false) :
  Meets (Builtin.«tuple.__mul__» ⟨[.ref l,.int x t],[]⟩) (λ_ R s=>s.heap.get? l=some { cls:=.type "tuple",dict:=dd,data:=.seq items n,slots:=sl } /\
   R (.ok (.ret (.ref s.heap.objs.size))) { s with heap:=s.heap.push { cls:=.type "tuple",data:=.seq #[] } }):=by
 refine .of_wp λprog w A R s h=>?_
 obtain ⟨hp,g,d,tk,os⟩:=s
 obtain ⟨hl,h⟩:=h
 wp_walk
 refine wpAny_ite_split (λz=>absurd z (by simp; omega)) (λ_=>?_)
 refine wpAny_bind ?_
 unfold Builtin.Tuple.tupleItemsOf
 refine wpAny_bind (wpAny_seqItems hl rfl (wpAny_pure ?_))
 refine wpAny_ite_split (λz=>absurd z (by rw [h3]; simp; omega)) (λ_=>?_)
 refine wpAny_ite_split (λ_=>?_) (λz=>absurd (by simp; exact .inl h1) z)
 unfold Builtin.Tuple.tupleExact
 exact wpAny_bind (wpAny_newObj_type (wpAny_pure ⟨_,rfl,h⟩) (by size_fits))
theorem ZmA (t:Tok) (l:Addr) (items:Array Value) (n:Nat) (dd:Option Addr) (sl:Array (Option Value)) :
  Meets (Builtin.«tuple.__mul__» ⟨[.ref l,.int 1 t],[]⟩) (λ_ R s=>s.heap.get? l=some { cls:=.type "tuple",dict:=dd,data:=.seq items n,slots:=sl }/\R (.ok (.ret (.ref l))) s):=by
 refine .of_wp λprog w A R s h=>?_
 obtain ⟨hp,g,d,tk,os⟩:=s
 obtain ⟨hl,h⟩:=h
 wp_walk
 exact ⟨_,rfl,h⟩
noncomputable def Zcg (K:zZ):R2:=λx y H Q=>∃ a k xs,x=.ref a/\y=.int k/\SqT K H a xs/\k<=0/\-1000<=k/\xs≠[]/\∀ p,H p=none->Q (.ref p) (upd H p (.tup []))
noncomputable def Zcf (K:zZ):R2:=λx y H Q=>∃ a xs,x=.ref a/\y=.int 1/\SqT K H a xs/\Q (.ref a) H
theorem Zl2:OpR X (binaryOp .Mult) (Zcg X.K):=by
 intro pins s σ H x y v u Q I rx ry h
 obtain ⟨a,k,xs,rfl,rfl,hq,h1,h2,hne,q⟩:=h
 cases rx
 obtain ⟨t,rfl⟩:=ry
 obtain ⟨its,rv,p,hz⟩:=I.tuple hq
 obtain ⟨o,ho,hc,n,hd⟩:=p
 obtain ⟨oc,od,odd,osl⟩:=o
 have hc':oc=.type "tuple":=hc
 have hd':odd=.seq its.toArray n:=hd
 subst hc' hd'
 have hemp:its.toArray.isEmpty=false:=by
  cases its with
  | nil=>cases rv; exact absurd rfl hne
  | cons i r=>rfl
 refine wpAny_binaryOp_repeat_ref (T:="tuple") (U:="int") (by decide) ⟨_,ho,rfl⟩ (λs'=>typeIs_int s' k t) tR yT xD sS PySem.F.slot_int_index.lookup ?_
 refine call_meets xD (typeIs_int s k t) yR (yI _ _) (sP k t a its.toArray n od osl) ⟨ho,rfl,⟨_,ho,rfl⟩,?_⟩
 refine call_meets yP ⟨_,ho,rfl⟩ yG (yB _ _) (ZmB k t a its.toArray n od osl h1 h2 hemp) ⟨ho,?_⟩
 exact ⟨.ref s.heap.objs.size,_,I.laid (t':=s.toks) (λb o e=>v6 _ e) (wa _) (show ObjOk X.prog X.w _ _ _ (.tup []) from ⟨xz _,[],.nil,IsTup.new _ _⟩),rfl,q _ (I.hok.fresh (wa _))⟩
theorem Zl1:OpR X (binaryOp .Mult) (Zcf X.K):=by
 intro pins s σ H x y v u Q I rx ry h
 obtain ⟨a,xs,rfl,rfl,hq,q⟩:=h
 cases rx
 obtain ⟨t,rfl⟩:=ry
 obtain ⟨its,rv,p,hz⟩:=I.tuple hq
 obtain ⟨o,ho,hc,n,hd⟩:=p
 obtain ⟨oc,od,odd,osl⟩:=o
 have hc':oc=.type "tuple":=hc
 have hd':odd=.seq its.toArray n:=hd
 subst hc' hd'
 refine wpAny_binaryOp_repeat_ref (T:="tuple") (U:="int") (by decide) ⟨_,ho,rfl⟩ (λs'=>typeIs_int s' 1 t) tR yT xD sS PySem.F.slot_int_index.lookup ?_
 refine call_meets xD (typeIs_int s 1 t) yR (yI _ _) (sP 1 t a its.toArray n od osl) ⟨ho,rfl,⟨_,ho,rfl⟩,?_⟩
 refine call_meets yP ⟨_,ho,rfl⟩ yG (yB _ _) (ZmA t a its.toArray n od osl) ⟨ho,?_⟩
 exact ⟨.ref a,H,I,rfl,q⟩
noncomputable def Zce (K:zZ):R2:=λx y H Q=>sW K x y H Q\/Zcg K x y H Q\/Zcf K x y H Q
theorem Zl0:OpR X (binaryOp .Mult) (Zce X.K):=ZcS.or (Zl2.or Zl1)
noncomputable def kd:Ag
 | .tuple xs,.int n=>if (decide (-1000<=n) && decide (n<=1000) && !xs.isEmpty && decide (xs.length<=1000))=true then some (.tuple (List.replicate n.toNat xs).flatten) else none
 | _,_=>none
theorem Zjp {K:zZ}:cN (Zce K) kd:=λPK pa m G H x y dx dy dz Q w hx hy hz k=>by
 unfold kd at hz
 split at hz
 ·rename_i xs n
  split at hz
  ·rename_i hc
   simp only [wD,decide_eq_true_eq,yj] at hc
   cases hz; cases hy
   cases hx with
   | tup a1 a2 =>
    have hne:∀ vs:An,DnAll G vs xs->vs≠[]:=λvs a2 e=>by
     have:=hc.1.2
     rw [<- a2.isEmpty,e] at this
     cases this
    by_cases h1:1 < n
    ·exact .inl ⟨_,_,_,rfl,rfl,SqT.of (w.sub _ _ a1),h1,hc.1.1.2,hne _ a2,by rw [a2.length]; exact hc.2,λp hp=>k.tup w (a2.rep _) hp⟩
    ·by_cases h0:n<=0
     ·refine .inr (.inl ⟨_,_,_,rfl,rfl,SqT.of (w.sub _ _ a1),h0,hc.1.1.1,hne _ a2,λp hp=>?_⟩)
      have e:(List.replicate n.toNat xs).flatten=[]:=by rw [show n.toNat=0 by omega]; rfl
      rw [e] at k
      exact k.tup w .nil hp
     ·have e1:n=1:=by omega
      subst e1
      refine .inr (.inr ⟨_,_,rfl,rfl,SqT.of (w.sub _ _ a1),?_⟩)
      have e:(List.replicate (1:Int).toNat xs).flatten=xs:=by simp
      rw [e] at k
      exact k.here w (.tup a1 a2)
  ·cases hz
 ·cases hz
theorem ZiV {PK:Pk} {st:Stmt} {is:Aa} {p:Ab} {i:z9} {n k:Nat} {ix:List Nat} {g:Af} (h:PS X st (fg (lN (fu PK is) n ix (λ_=>gf PK g) (λ_=>TAt PK p) (λ_=>TAe PK i)) (fq k))) (hn:io n g):PS X st (bO PK (aQ k (cf (i9 is n ix g p i)))) :=
 aV (h.imp (ZaE λσ H Q z=>ZdU hn σ H Q (ZcW σ H Q z)))
section
variable {ρ:Ap} {is:Aa} {n:Nat} {i:z9} {p:Ab} {xs:Ai} {x:PyData}
theorem Zn0 {m:Int} (h:(decide (-1000<=m) && decide (m<=1000) && !xs.isEmpty && decide (xs.length<=1000))=true):aR kd (.tuple xs) (.int m)=.ret (.tuple (List.replicate m.toNat xs).flatten):=by
 simp only [aR,kd,h,if_true]
 rfl
noncomputable def iT (g:Af) (p:Ab) (el:z9) (τ:Ap) (x:PyData):Tr (Option PyData):=(Tr.of (g x τ)).bind (k7 p el)
noncomputable def ua (n:Nat) (ix:List Nat) (g:Af) (p:Ab) (el:z9) (ρ:Ap) (xs:Ai):Tr Ai:=if small xs.length=true then eU (iT g p el (blk n ix ρ)) xs else .fail
theorem Zgd {ix:List Nat} {g:Af}:i9 is n ix g p i ρ=(is ρ).bind (ua n ix g p i ρ):=rfl
theorem Zgf {ix:List Nat} {g:Af} (h:small xs.length=true):ua n ix g p i ρ xs=eU (iT g p i (blk n ix ρ)) xs:=by unfold ua; rw [if_pos h]
theorem Zge {τ:Ap} {g:Af}:iT g p i τ x=(Tr.of (g x τ)).bind (k7 p i):=rfl
noncomputable def uw (y:PyData):Tr (Option PyData):=.ret (some y)
noncomputable def ux (i:z9) (τ:Ap) (b:Bool):Tr (Option PyData):=if b=true then (i τ).bind uw else .ret none
theorem Zgz {τ:Ap}:k7 p i τ=(p τ).bind (ux i τ):=rfl
theorem ZgB {τ:Ap}:ux i τ true=(i τ).bind uw:=rfl
theorem ZgC {τ:Ap}:ux i τ false=.ret none:=rfl
theorem ZgA:uw x=.ret (some x):=rfl
end
end
end L2
set_option Elab.async false
set_option linter.all false
set_option maxRecDepth 100000
namespace L2
section
variable {PK:Pk} {X:Cx} {e:Expr} {as:List Sl->Tr Ap}
noncomputable def slD:List Sl->Option Ai
 | []=>some []
 | .d x::r=>(slD r).bind λxs=>some (x::xs)
 | _=>none
theorem ArsOk.slD {pa:Addr} {G:Hp} {vs:An} {ss:Ap} {ds:Ai} (a:ArsOk pa G vs ss) (h:L2.slD ss=some ds):DnAll G vs ds:=by
 induction a generalizing ds with
 | nil=>cases h; exact .nil
 | cons h0 t ih =>
  cases h0 with
  | d h1 =>
   unfold L2.slD at h
   cases e:L2.slD _ with
   | none=>rw [e] at h; cases h
   | some xs =>
    rw [e] at h
    cases h
    exact .cons h1 (ih e)
  | pen=>cases h
noncomputable def mS (d:PyData):Tr PyData:=if uF d=true then .ret d else .fail
noncomputable def nt (f:List PyData->Option PyData) (as:List Sl->Tr Ap):z9:=λρ=>(as ρ).bind λss=>(Tr.of ((slD ss).bind f)).bind mS
theorem vH {r:List V->Hp->VK->Prop} {f:List PyData->Option PyData} (L:PkLow PK) (h:PE X e (fS r (TAb PK as))) (hv:fc r f):PE X e (TAe PK (nt f as)):=h.imp λσ H Q hz0=>by
 obtain ⟨pa,Aq,H₀,m,ρ,G,R,z⟩:=hz0
 refine TAb.then R z λm1 ss vs G1 H1 s1 w1 R1 d1 q1=>?_
 obtain ⟨d,hd,q1⟩:=Tr.ok_of (Tr.ok_bind.mp q1)
 obtain ⟨G2,s2,w2,d2⟩:=ArsB.ok (λ_ _ h=>h) w1 d1
 cases e:slD ss with
 | none=>rw [e] at hd; cases hd
 | some ds =>
  rw [e] at hd
  unfold mS at q1
  obtain ⟨hf,k⟩:=gZ (c:=uF d) q1
  refine hv PK pa m1 G2 H1 vs ds d Q w2 (ArsOk.slD d2 e) hd ?_
  intro v G3 H3 s3 w3 d3
  have s13:Stp pa G1 H1 G1 H3:=⟨λ_ _ h=>h,λ_ _ h=>.inl h,s3.hk⟩
  obtain ⟨o1,e1,p1⟩:=w1.pen
  obtain ⟨o3,e3,p3⟩:=w3.pen
  have w13:Wd PK pa m1 G1 H3:=⟨λb o h=>s3.hk b o (w1.sub b o h) (λz=>by subst z; rw [w1.gpa] at h; cases h),w1.gpa,o3,e3,L.low p1 (s2.trans s3.gs) p3⟩
  exact k v G1 H3 (s1.trans s13 w1.some) w13 (Dn.flat_any d3 hf)
end
section
variable {ρ:Ap} {as:List Sl->Tr Ap} {f:List PyData->Option PyData} {x:PyData} {xs:Ai} {i j:z9} {k:Nat} {p:Ab} {s:Ac}
noncomputable def Zio (f:List PyData->Option PyData) (ss:Ap):Tr PyData:=(Tr.of ((slD ss).bind f)).bind mS
theorem Zha:nt f as ρ=(as ρ).bind (Zio f):=rfl
theorem Zg9:Zio f [.d x]=(bR f [x]).bind mS:=rfl
theorem ZgN (n:Int):mS (.int n)=.ret (.int n):=rfl
noncomputable def lS (k:Nat) (ρ:Ap) (x:PyData) (xs:Ai):PyData->Tr Ou
 | .int y=>(Tr.of (db xs.length y)).bind λt=>.ret (.next (ρ.set k (.own (xs.set t x))))
 | _=>.fail
noncomputable def rN (k:Nat) (n:z9) (ρ:Ap) (x:PyData) (xs:Ai):Tr Ou:=(n ρ).bind (lS k ρ x xs)
noncomputable def rO (k:Nat) (n:z9) (ρ:Ap) (x:PyData):Tr Ou:=(gY k ρ).bind (rN k n ρ x)
theorem Ze9:lz k j i ρ=(i ρ).bind (rO k j ρ):=by
 unfold lz
 refine congrArg (Tr.bind (i ρ)) (funext λx=>?_)
 rw [rO,<- oM k ρ]
 cases ρ[k]? with
 | none=>rfl
 | some sl =>
  cases sl with
  | own xs =>
   show ((j ρ).bind _:Tr Ou)=(j ρ).bind (lS k ρ x xs)
   refine congrArg (Tr.bind (j ρ)) (funext λy=>?_)
   cases y <;> rfl
  | _=>rfl
theorem Ze8 {n:z9}:rO k n ρ x=(gY k ρ).bind (rN k n ρ x):=rfl
theorem Ze7 {n:z9}:rN k n ρ x xs=(n ρ).bind (lS k ρ x xs):=rfl
theorem uH {y:Int} {t:Nat} (h:db xs.length y=some t):lS k ρ x xs (.int y)=.ret (.next (ρ.set k (.own (xs.set t x)))):=by
 simp only [lS,h]
 rfl
end
end L2
set_option Elab.async false
set_option linter.all false
set_option maxRecDepth 100000
namespace L2
open AutoSeq1 (wpAny_loadPart')
noncomputable def lH (hi:Int) (n:Nat):It:=⟨λi _=>i < n,λi H x H'=>H'=H/\x=.int (hi - i),λi _=>n<=i⟩
theorem ZjB {P:Program} {w:World} {K:zZ} {tg:Expr} (it:Addr) (hi:Int) (n:Nat):Turn P w K tg (lH hi n) [it] it (λi h=>IsRangeIter h it (hi+(i:Nat) * (-1)) ((n:Int) - (i:Nat)) (-1)) where
 mem:=by simp
 obj:=λi h st b hb=>by
  have e:b=it:=by simpa using hb
  subst e
  exact ⟨_,st,λv z=>by
   have z':Data.fields _=Data.cell v:=z
   cases z'⟩
 keep:=λi h h' st k=>k it (by simp) _ st
 item:=by
  intro X hP hw hK hc i pins s σ H E I hf st hg
  subst hP hw hK
  obtain ⟨f0,f1,f2,f3,f4,f5⟩:=hf it (by simp)
  have W:=Walks.range (prog:=X.prog) (w:=X.w) (I.ok.hd hc) it hi (-1) n
  refine W.item i s _ _ hg st λv h' tk hv st' kk=>?_
  obtain ⟨t,rfl⟩:=hv
  have I1:Inv X pins σ H { s with heap:=h',toks:=tk }:=I.turned (λb o hb e=>kk b o (by simpa using hb) e) f0 f1 f3 f4 f5
  refine ⟨_,rfl,mR (s:={ s with heap:=h',toks:=tk }) (n:="range_iterator") st' rfl rfl (by decide) ⟨.int (hi - i),H,I1,⟨t,?_⟩,⟨rfl,rfl⟩,st',λb hb=>(hf b hb).1⟩⟩
  have e:hi+(i:Int) * -1=hi - i:=by omega
  rw [e]
 done:=by
  intro X hP hw hK hc i pins s σ H E I hf st hg
  subst hP hw hK
  obtain ⟨f0,f1,f2,f3,f4,f5⟩:=hf it (by simp)
  exact wpAny_pyNext_range_end (I.ok.hd hc) st (by have:n<=i:=hg; omega) λh' eb=>⟨rfl,I.turned (t':=s.toks) (λb o hb e=>eb b o hb e) f0 f1 f3 f4 f5⟩
 self:=λ_ _ _ _ _ st h=>wpAny_pyIter_rangeiter st h
theorem ZmO (r:Addr) (a b c:Int) (t u v:Tok) (hs:¬ (!(Builtin.Range.rangeFitsLong a && Builtin.Range.rangeFitsLong b && Builtin.Range.rangeFitsLong c && Builtin.Range.rangeFitsLong (-c) && Builtin.Range.rangeFitsLong (a - c) && Builtin.Range.rangeFitsLong (Builtin.Range.rangeSize a b c)))=true) :
  Meets (Builtin.«range.__reversed__» ⟨[.ref r],[]⟩) (λ_ R s=>s.heap.get? r=some { cls:=.type "range",dict:=none,data:=.fields #[.int a t,.int b u,.int c v],slots:=#[] } /\
   R (.ok (.ret (.ref s.heap.objs.size))) { s with heap:=s.heap.push { cls:=.type "range_iterator",data:=.fields #[rawInt (a+(Builtin.Range.rangeSize a b c - 1) * c),rawInt (Builtin.Range.rangeSize a b c),rawInt (-c)] },toks:=s.toks }) :=
 .of_wp λprog w A R s h=>by
  obtain ⟨hp,g,d,tk,os⟩:=s
  obtain ⟨hl,h⟩:=h
  have hs':=hs
  rw [yj,Bool.not_eq_false] at hs'
  wp_walk
  rw [if_pos hs']
  exact ⟨_,rfl,h⟩
theorem la {n:Int} (h1:-(2 ^ 63)<=n) (h2:n < 2 ^ 63):Builtin.Range.rangeFitsLong n=true:=by
 unfold Builtin.Range.rangeFitsLong
 simp
 omega
section
variable {prog:Program} {w:World} {A:Around} {E:Ah} {s:Shared}
theorem Zpt {r:Addr} {a b:Int} {t u v:Tok} {Q₁:Ah} (hr:IsRange s.heap r a b 1 t u v) (ha:-(2 ^ 62)<=a) (ha':a < 2 ^ 62) (hb:-(2 ^ 62)<=b) (hb':b < 2 ^ 62)
  (h:Q₁ (.ref s.heap.objs.size) { s with heap:=s.heap.push { cls:=.type "range_iterator",data:=.fields #[rawInt (a+(Builtin.Range.rangeSize a b 1 - 1) * 1),rawInt (Builtin.Range.rangeSize a b 1),rawInt (-1)] } }) :
  codeAny (model prog w) A (.call (.builtin "reversed.__new__") ⟨[.type "reversed",.ref r],[]⟩) (wants Q₁ E) s:=by
 have hT:s.TypeIs (.ref r) "range":=⟨_,hr,rfl⟩
 refine codeAny_of_tree ?_
 show wpAny _ A.in1 (do checkBuiltinCall "reversed.__new__" ⟨[.type "reversed",.ref r],[]⟩; again (.builtin "reversed.__new__" ⟨[.type "reversed",.ref r],[]⟩)) _ _ s
 refine wpAny_bind (wpAny_of_eq (F.newCall_reversed_1 _) (wpAny_pure ⟨plainId_quiet F.plain_reversed_new _,codeAny_builtin F.entry_reversed_new ?_⟩))
 rw [xA F.plain_reversed_new _]
 unfold Builtin.«reversed.__new__»
 refine wpAny_bind (wpAny_of_eq (newClass_reversed _) ?_)
 try dsimp only
 refine wpAny_bind (wpAny_of_eq (a:=()) (by first | rfl | kernel_rfl) ?_)
 refine wpAny_bind (wpAny_of_eq (a:=()) (by first | rfl | kernel_rfl) ?_)
 try dsimp only
 refine wpAny_bind (wpAny_specialOf hT F.slot_range_reversed.lookup ?_)
 try dsimp only
 refine wpAny_bind (wpAny_of_eq (F.slot_range_reversed.bind _) ?_)
 try dsimp only
 first
 | rw [if_neg (show ¬ ((Value.builtin "range.__reversed__" == Value.none)=true) from wn)]
 | (show wpAny _ _ (if (Value.builtin "range.__reversed__" == Value.none)=true then _ else _) _ _ _; rw [if_neg (show ¬ ((Value.builtin "range.__reversed__" == Value.none)=true) from wn)])
 refine wpAny_bind (wpAny_rule ?_)
 have hsz:Builtin.Range.rangeSize a b 1=if a < b then b - a else 0:=rangeSize_one a b
 refine wpAny_bind (m:=runValue (.call (.builtin "range.__reversed__") ⟨[.ref r],[]⟩)) (show wpAny _ _ (call (.builtin "range.__reversed__") [.ref r]) _ _ _ from
  call_meets F.slot_range_reversed hT F.entry_range_reversed (F.args_range_reversed_1 _) (ZmO r a b 1 t u v ?_) ⟨hr,?_⟩)
 ·rw [yj,Bool.not_eq_false,la (by omega) (by omega),la (by omega) (by omega),la (by decide) (by decide),la (by decide) (by decide),la (n:=a - 1) (by omega) (by omega),la (n:=Builtin.Range.rangeSize a b 1) (by rw [hsz]; split <;> omega) (by rw [hsz]; split <;> omega)]
  rfl
 ·first
  | exact wpAny_pure h
  | exact wpAny_bind (wpAny_pure (wpAny_pure h))
theorem Zkg:isSubtype (.type "range_iterator") (.type "reversed")=pure false:=by rw [isSubtype_type]; kernel_rfl
theorem ZpE {r:Addr} {a b:Int} {t u v:Tok} {Q:Ah} (hr:IsRange s.heap r a b 1 t u v) (ha:-(2 ^ 62)<=a) (ha':a < 2 ^ 62) (hb:-(2 ^ 62)<=b) (hb':b < 2 ^ 62)
  (h:Q (.ref s.heap.objs.size) { s with heap:=s.heap.push { cls:=.type "range_iterator",data:=.fields #[rawInt (a+(Builtin.Range.rangeSize a b 1 - 1) * 1),rawInt (Builtin.Range.rangeSize a b 1),rawInt (-1)] } }):wpAny (model prog w) A (call (.type "reversed") [.ref r]) Q E s:=by
 refine callType_other (U:="range_iterator") (Q₁:=λobj s₁=>obj=.ref s.heap.objs.size/\s₁={ s with heap:=s.heap.push { cls:=.type "range_iterator",data:=.fields #[rawInt (a+(Builtin.Range.rangeSize a b 1 - 1) * 1),rawInt (Builtin.Range.rangeSize a b 1),rawInt (-1)] } }) (by trivial) F.create_reversed ⟨_,_,F.mro_reversed⟩ F.made_reversed Zkg (F.typeCall_reversed_1 _) (Zpt hr ha ha' hb hb' ⟨rfl,rfl⟩) ?_
 rintro obj s₁ ⟨rfl,rfl⟩
 exact ⟨⟨_,wc _ rfl,rfl⟩,h⟩
end
theorem ZcO:Manifest.owners.lookup (String.ofList ['d','e','s','r','e','v','e','r'].reverse)=some Manifest.sig_reversed:=by kernel_rfl
theorem Zkm:Slot "reversed" "__init__" "object.__init__" :=
 .of (owner:="object") (n:="__init__") (by rw [typeLookup_type,builtinLookup_eq_fast]; kernel_rfl) (by trivial) (by trivial) (by trivial)
  (by first | exact .inl (by trivial) | exact .inr (by trivial)) (by rw [isSubtype_type]; kernel_rfl)
theorem lR:Slot "reversed" "__next__" "reversed.__next__" :=
 .of (owner:="reversed") (n:="__next__") (by rw [typeLookup_type,builtinLookup_eq_fast]; kernel_rfl) (by trivial) (by trivial) (by trivial)
  (by first | exact .inl (by trivial) | exact .inr (by trivial)) (by rw [isSubtype_type]; kernel_rfl)
theorem ZhS:entryFor table "reversed.__next__"=some Builtin.«reversed.__next__»:=entryFor_of_tree (by kernel_rfl)
theorem ZiY (a:Value):argsOk "reversed.__next__" ⟨[a],[]⟩:=by
 unfold argsOk; rw [signature?_of (id:="reversed.__next__") (n:=['_','_','t','x','e','n','_','_']) (o:=['d','e','s','r','e','v','e','r']) (by kernel_rfl) ZcO]; kernel_rfl
theorem ZaT:Slot "reversed" "__iter__" "reversed.__iter__" :=
 .of (owner:="reversed") (n:="__iter__") (by rw [typeLookup_type,builtinLookup_eq_fast]; kernel_rfl) (by trivial) (by trivial) (by trivial)
  (by first | exact .inl (by trivial) | exact .inr (by trivial)) (by rw [isSubtype_type]; kernel_rfl)
theorem Zqk (a:Value):argsOk "reversed.__iter__" ⟨[a],[]⟩:=by
 unfold argsOk; rw [signature?_of (id:="reversed.__iter__") (n:=['_','_','r','e','t','i','_','_']) (o:=['d','e','s','r','e','v','e','r']) (by kernel_rfl) ZcO]; kernel_rfl
theorem Zn8:entryFor table "reversed.__iter__"=some Builtin.«dict_keyiterator.__iter__» :=
 entryFor_alias (id':="dict_keyiterator.__iter__") (by kernel_rfl) (by first | rfl | decide +kernel | (unfold String.splitOn; simp +decide [String.splitOnAux])) (by trivial) (by kernel_rfl)
theorem ZpA:TypeCalled "reversed" "reversed.__new__" "object.__init__" :=
 ⟨by trivial,by trivial,⟨_,_,F.mro_reversed⟩,F.made_reversed,by trivial,by rw [isSubtype_type]; kernel_rfl,Zkm⟩
theorem Zmq:typeLookup (.type "tuple") "__reversed__"=pure none:=by rw [typeLookup_type,builtinLookup_eq_fast]; kernel_rfl
theorem ZmN (l:Addr) (items:Array Value) (hfit:(items.size:Int) < 2 ^ 63) :
  Meets (Builtin.«reversed.__new__» ⟨[.type "reversed",.ref l],[]⟩) (λ_ R s=>IsTup s.heap l items /\
   R (.ok (.ret (.ref s.heap.objs.size))) { s with heap:=s.heap.push { cls:=.type "reversed",data:=.fields #[.ref l,rawInt ((items.size:Int) - 1)] },toks:=s.toks+1+1 }) :=
 .of_wp λprog w A R s h=>by
  obtain ⟨hp,g,d,tk,os⟩:=s
  obtain ⟨hl,h⟩:=h
  have hl':(Shared.mk hp g d tk os).heap.IsTuple l items:=hl
  unfold Builtin.«reversed.__new__»
  refine wpAny_bind (wpAny_of_eq (newClass_reversed _) ?_)
  try dsimp only
  refine wpAny_bind (wpAny_of_eq (a:=()) (by first | rfl | kernel_rfl) ?_)
  refine wpAny_bind (wpAny_of_eq (a:=()) (by first | rfl | kernel_rfl) ?_)
  try dsimp only
  refine wpAny_bind (wpAny_specialOf hl'.typeIs Zmq ?_)
  try dsimp only
  refine wpAny_bind ?_
  show wpAny _ _ (isInstance (Value.ref l) (.type "dict") >>= _) _ _ _
  refine wpAny_bind (wpAny_isInstance (T:="tuple") (b:=false) hl'.typeIs (by rw [isSubtype_type]; kernel_rfl) ?_)
  show wpAny _ _ (specialOf (Value.ref l) "__getitem__" >>= _) _ _ _
  refine wpAny_bind (wpAny_specialOf hl'.typeIs F.slot_tuple_getitem.lookup ?_)
  refine wpAny_pure ?_
  show wpAny _ _ (call (Value.builtin "len") [Value.ref l] >>= _) _ _ _
  refine wpAny_bind (len_tuple hl hfit ?_)
  refine wpAny_bind (wpAny_of_eq (a:=some (items.size:Int)) rfl ?_)
  show wpAny _ _ (newObj (.type "reversed") (.fields #[.ref l,rawInt ((items.size:Int) - 1)]) >>= _) _ _ _
  refine wpAny_bind (wpAny_newObj_type ?_)
  exact wpAny_pure ⟨_,rfl,h⟩
def IsTRev (h:Heap) (a l:Addr) (i:Int):Prop:=∃ o,h.get? a=some o/\o.cls=.type "reversed"/\o.data=.fields #[.ref l,rawInt i]
theorem IsTRev.at {h h':Heap} {a l:Addr} {i:Int} (x:IsTRev h a l i) (e:∀ o,h.get? a=some o->h'.get? a=some o):IsTRev h' a l i:=let ⟨o,ho,r⟩:=x; ⟨o,e _ ho,r⟩
section
variable {prog:Program} {w:World} {A:Around} {E:Ah} {s:Shared}
theorem ZpD {l:Addr} {items:Array Value} {Q:Ah} (hl:IsTup s.heap l items) (hfit:(items.size:Int) < 2 ^ 63)
  (h:Q (.ref s.heap.objs.size) { s with heap:=s.heap.push { cls:=.type "reversed",data:=.fields #[.ref l,rawInt ((items.size:Int) - 1)] },toks:=s.toks+1+1 }) :
  wpAny (model prog w) A (call (.type "reversed") [.ref l]) Q E s :=
 callType_new ZpA (by decide) (F.typeCall_reversed_1 _) (F.newCall_reversed_1 _) (λobj=>zm obj _) F.entry_reversed_new (ZmN l items hfit) ⟨hl,⟨_,wc _ rfl,rfl⟩,h⟩
theorem Zli {it l:Addr} {i:Nat} {items:Array Value} {x:Value} {Q:Option Value->Shared->Prop} (hit:IsTRev s.heap it l (i:Int)) (hl:IsTup s.heap l items) (hne:l≠it) (hx:items[i]?=some x) (hfit:(items.size:Int) < 2 ^ 63)
  (hQ:∀ h',IsTRev h' it l ((i:Int) - 1)->Heap.SameBut it s.heap h'->Q (some x) { s with heap:=h',toks:=s.toks+1 }):wpAny (model prog w) A (pyNext (.ref it)) Q E s:=by
 obtain ⟨o,ho,hc,hd⟩:=id hit
 have hT:s.TypeIs (.ref it) "reversed":=⟨o,ho,hc⟩
 have hl':s.heap.IsTuple l items:=hl
 have hlt:i < items.size:=(zI.mp hx).1
 unfold pyNext
 refine wpAny_bind (wpAny_attempt (wpAny_callSpecial?_slot (name:=Str.ofString "__next__") hT lR
  (wpAny_call_entry lR hT ZhS ?_ (ZiY _))))
 unfold Builtin.«reversed.__next__»
 refine wpAny_bind (wpAny_of_eq (a:=(Value.ref it,[])) rfl ?_)
 try dsimp only
 refine wpAny_bind (wpAny_field ho hd (x:=.ref l) rfl ?_)
 refine wpAny_bind (wpAny_field ho hd (x:=rawInt (i:Int)) rfl ?_)
 show wpAny _ _ (if (i:Int) < 0 then _ else _) _ _ s
 rw [if_neg (by omega)]
 refine wpAny_bind (wpAny_specialOf hl'.typeIs F.slot_tuple_getitem.lookup ?_)
 show wpAny _ _ (mkInt (i:Int) >>= _) _ _ s
 refine wpAny_bind (wpAny_mkInt ?_)
 refine wpAny_bind (wpAny_attempt (getItem_tuple (j:=i) (x:=x) hl (by omega) (by omega) ?_ hx ?_))
 ·unfold seqIndex?
  simp
  omega
 ·dsimp only
  refine wpAny_bind (wpAny_field ho hd (x:=rawInt (i:Int)) rfl ?_)
  show wpAny _ _ (setField (.ref it) 1 (rawInt ((i:Int) - 1)) >>= _) _ _ _
  refine wpAny_bind (wpAny_setField ho hd (by simp) ?_)
  refine wpAny_pure ⟨x,rfl,wpAny_pure (hQ _ ?_ (yg ..))⟩
  exact ⟨_,xM _ ho (zd (x0 hd _)),(Obj.cls_mapFields ..).trans hc,by
   rw [x0 hd]; simp⟩
theorem Zlj {it l:Addr} {Q:Option Value->Shared->Prop} (hh:A.handled=none) (hit:IsTRev s.heap it l (-1))
  (hQ:∀ h',Heap.ExtBut it s.heap h'->Q none { s with heap:=h' }):wpAny (model prog w) A (pyNext (.ref it)) Q E s:=by
 obtain ⟨o,ho,hc,hd⟩:=id hit
 have hT:s.TypeIs (.ref it) "reversed":=⟨o,ho,hc⟩
 unfold pyNext
 refine wpAny_bind (wpAny_attempt (wpAny_callSpecial?_slot (name:=Str.ofString "__next__") hT lR
  (wpAny_call_entry lR hT ZhS ?_ (ZiY _))))
 unfold Builtin.«reversed.__next__»
 refine wpAny_bind (wpAny_of_eq (a:=(Value.ref it,[])) rfl ?_)
 try dsimp only
 refine wpAny_bind (wpAny_field ho hd (x:=.ref l) rfl ?_)
 refine wpAny_bind (wpAny_field ho hd (x:=rawInt (-1)) rfl ?_)
 show wpAny _ _ (if (-1:Int) < 0 then _ else _) _ _ s
 rw [if_pos (by decide)]
 refine wpAny_bind (wpAny_rule ?_)
 refine wpAny_bind ?_
 show wpAny _ _ (setField (.ref it) 1 (rawInt (-1)) >>= _) _ _ _
 refine wpAny_bind (wpAny_setField ho hd (by simp) ?_)
 have ho2:=xM (Obj.mapFields λx_1=>x_1.setIfInBounds 1 (rawInt (-1))) ho (zd (x0 hd _))
 refine wpAny_setField ho2 (x0 hd _) (by simp) ?_
 have eb:Heap.ExtBut it s.heap ((s.heap.update it (Obj.mapFields λx_1=>x_1.setIfInBounds 1 (rawInt (-1)))).update it (Obj.mapFields λx_1=>x_1.setIfInBounds 0 Value.none)):=λb o' hb e=>(yg _ _ _).extBut b o' hb ((yg _ _ _).extBut b o' hb e)
 show wpAny _ _ (newExc (.type "StopIteration") [] >>= _ >>= _) _ _ _
 refine wpAny_bind ?_
 refine wpAny_bind ?_
 simp only [newExc,newTuple]
 refine wpAny_bind (wpAny_newObj_type ?_ (by size_fits))
 refine wpAny_bind (m:=firstArgMember _ _) (wpAny_of_eq (a:=Value.none) (by first | rfl | (simp only [firstArgMember]; rfl)) ?_)
 refine wpAny_newObj_type ?_ (by size_fits)
 simp only [raiseNew]
 refine wpAny_bind (wpAny_handled ?_)
 first | rw [show A.in1.handled=none from hh] | rw [hh]
 refine wpAny_bind (wpAny_pure (wpAny_throw ?_))
 refine wpAny_bind (wpAny_isInstance (T:="StopIteration") (b:=true) ⟨_,wc _ rfl,rfl⟩ isSubtype_stop ?_)
 exact wpAny_pure (hQ _ ((eb.push _).push _))
theorem Zcx {it l:Addr} {i:Int} {Q:Ah} (hit:IsTRev s.heap it l i) (h:Q (.ref it) s):wpAny (model prog w) A (pyIter (.ref it)) Q E s:=by
 obtain ⟨o,ho,hc,hd⟩:=id hit
 have hT:s.TypeIs (.ref it) "reversed":=⟨o,ho,hc⟩
 refine wpAny_pyIter_slot hT ZaT (wpAny_call_entry ZaT hT Zn8 ?_ (Zqk _))
 show wpAny _ _ (ret (.ref it)) _ _ s
 exact wpAny_pure ⟨_,rfl,"reversed",_,hT,lR.lookup,h⟩
end
noncomputable def nI (b:Bool) (l:Addr) (n:Nat):It :=
 ⟨λi H=>i < n/\∃ xs,H l=some (br b xs)/\xs.length=n,λi H x H'=>H'=H/\∃ xs,H l=some (br b xs)/\xs[n - 1 - i]?=some x,λi _=>i=n⟩
def RvAt (b:Bool) (h:Heap) (it l:Addr) (i:Int):Prop:=match b with
 | true=>h.IsRevIter it l i
 | false=>IsTRev h it l i
theorem RvAt.there {b:Bool} {h:Heap} {it l:Addr} {i:Int} (x:RvAt b h it l i):∃ o n vs,h.get? it=some o/\o.cls=.type n/\o.data=.fields vs/\["enumerate","zip","dict_itemiterator","dict_reverseitemiterator","odict_iterator","itertools.zip_longest","itertools.pairwise"].contains n=false:=by
 cases b with
 | true=>obtain ⟨o,h1,h2,h3⟩:=x; exact ⟨o,_,_,h1,h2,h3,by decide⟩
 | false=>obtain ⟨o,h1,h2,h3⟩:=x; exact ⟨o,_,_,h1,h2,h3,by decide⟩
theorem RvAt.at {b:Bool} {h h':Heap} {it l:Addr} {i:Int} (x:RvAt b h it l i) (e:∀ o,h.get? it=some o->h'.get? it=some o):RvAt b h' it l i:=by
 cases b with
 | true=>exact Heap.IsRevIter.at x e
 | false=>exact IsTRev.at x e
theorem Zau {P:Program} {w:World} {K:zZ} {tg:Expr} {b:Bool} {l:Addr} {n:Nat} (it:Addr) (hn:(n:Int) < 2 ^ 63):Turn P w K tg (nI b l n) [it] it (λi h=>RvAt b h it l ((n:Int) - 1 - (i:Nat))) where
 mem:=by simp
 obj:=λi h st c hb=>by
  have e:c=it:=by simpa using hb
  subst e
  obtain ⟨o,_,_,h1,_,h3,_⟩:=st.there
  exact ⟨o,h1,λv z=>by rw [h3] at z; cases z⟩
 keep:=λi h h' st k=>st.at λo e=>k it (by simp) o e
 item:=by
  intro X hP hw hK hc i pins s σ H E I hf st hg
  subst hP hw hK
  obtain ⟨hi,xs,e1,hlen⟩:=hg
  obtain ⟨us,r1,q1⟩:=dH I.hok e1
  obtain ⟨f0,f1,f2,f3,f4,f5⟩:=hf it (by simp)
  have hxl:n - 1 - i < xs.length:=by omega
  have hx:xs[n - 1 - i]?=some xs[n - 1 - i]:=wp hxl
  obtain ⟨u,hu,ru⟩:=r1.get hx
  have ne:l≠it:=de e1 f0
  have ei:(n:Int) - 1 - (i:Nat)=((n - 1 - i:Nat):Int):=by omega
  have ei2:((n - 1 - i:Nat):Int) - 1=(n:Int) - 1 - ((i+1:Nat):Int):=by omega
  rw [ei] at st
  have usz:us.toArray.size=n:=by rw [wj,<- r1.length]; exact hlen
  have fin:∀ (h':Heap) (tk:Nat),RvAt b h' it l ((n:Int) - 1 - ((i+1:Nat):Int))->Heap.SameBut it s.heap h'->∃ u',some u=some u'/\wpAny (model X.prog X.w) X.A (letOwnedTupleGo tg (.ref it) u') (λ_ s2=>∃ x H',Inv X pins σ H' s2/\RelV x u'/\(nI b l n).yld i H x H'/\RvAt b s2.heap it l ((n:Int) - 1 - ((i+1:Nat):Int))/\∀ b∈[it],H' b=none) E { s with heap:=h',toks:=tk }:=λh' tk st' sb=>by
   have I1:Inv X pins σ H { s with heap:=h',toks:=tk }:=I.turned (λb o hb e=>(sb.2 b hb).trans e) f0 f1 f3 f4 f5
   obtain ⟨o,nm,vs,g1,g2,g3,g4⟩:=st'.there
   exact ⟨u,rfl,mR (s:={ s with heap:=h',toks:=tk }) g1 g2 g3 g4 ⟨_,H,I1,ru,⟨rfl,xs,e1,hx⟩,st',λb hb=>(hf b hb).1⟩⟩
  cases b with
  | true =>
   refine wpAny_pyNext_rev_item (i:=n - 1 - i) st q1 (x:=u) (by simpa using hu) λh' st' sb=>?_
   rw [ei2] at st'
   exact fin h' s.toks st' sb
  | false =>
   refine Zli (i:=n - 1 - i) st q1 ne (x:=u) (by simpa using hu) (by rw [usz]; exact hn) λh' st' sb=>?_
   rw [ei2] at st'
   exact fin h' (s.toks+1) st' sb
 done:=by
  intro X hP hw hK hc i pins s σ H E I hf st hg
  subst hP hw hK
  obtain ⟨f0,f1,f2,f3,f4,f5⟩:=hf it (by simp)
  have hi:i=n:=hg
  subst hi
  have e:(i:Int) - 1 - (i:Nat)=-1:=by omega
  rw [e] at st
  cases b with
  | true=>exact wpAny_pyNext_rev_end (I.ok.hd hc) st λh' eb=>⟨rfl,I.turned (t':=s.toks) (λb o hb e=>eb b o hb e) f0 f1 f3 f4 f5⟩
  | false=>exact Zlj (I.ok.hd hc) st λh' eb=>⟨rfl,I.turned (t':=s.toks) (λb o hb e=>eb b o hb e) f0 f1 f3 f4 f5⟩
 self:=λ_ _ _ _ _ st h=>by
  cases b with
  | true=>exact wpAny_pyIter_revIter st h
  | false=>exact Zcx st h
section
variable {X:Cx} {tg:Expr} {PK:Pk} {a b:Expr} {i j:z9} {p pos:Pos}
def Zej (ta:TE):TI:=λσ H R=>ta σ H λx H1=>(∃ b l xs,x=.ref l/\H1 l=some (br b xs)/\R (nI b l xs.length) H1) \/
 (∃ l lo hi,x=.ref l/\H1 l=some (.rng lo hi)/\-(2 ^ 62)<=lo/\lo < 2 ^ 62/\-(2 ^ 62)<=hi/\hi < 2 ^ 62/\R (lH (lo+(hi - lo).toNat - 1) (hi - lo).toNat) H1)
theorem ZcF {ta:TE} (hg:Gl X "reversed") (hm:X.mg "reversed"=none) (ha:PE X a ta)
  (hs:starEach [a] X.env=[(false,eval a X.env)]:=by rfl):PI X tg (.Call (.Name "reversed" p) [a] [] pos) (Zej ta):=by
 intro pins s σ H R I h
 have hab:PA X [a] (fB ta aY):=bI ha cC (by rw [hs]; rfl)
 have h':fB ta aY σ H λvs H1=>∃ x,vs=[x]/\((∃ b l xs,x=.ref l/\H1 l=some (br b xs)/\R (nI b l xs.length) H1) \/
   (∃ l lo hi,x=.ref l/\H1 l=some (.rng lo hi)/\-(2 ^ 62)<=lo/\lo < 2 ^ 62/\-(2 ^ 62)<=hi/\hi < 2 ^ 62/\R (lH (lo+(hi - lo).toNat - 1) (hi - lo).toNat) H1)):=by
  have h0:ta σ H λx H1=>(∃ b l xs,x=.ref l/\H1 l=some (br b xs)/\R (nI b l xs.length) H1) \/
   (∃ l lo hi,x=.ref l/\H1 l=some (.rng lo hi)/\-(2 ^ 62)<=lo/\lo < 2 ^ 62/\-(2 ^ 62)<=hi/\hi < 2 ^ 62/\R (lH (lo+(hi - lo).toNat - 1) (hi - lo).toNat) H1):=h
  refine cast (congrArg (ta σ H) ?_) h0
  funext x H1
  apply propext
  constructor
  ·exact λq=>⟨x,rfl,q⟩
  ·rintro ⟨y,e,q⟩
   have e':x=y:=by simpa using e
   subst e'
   exact q
 refine Call_ (iS I hg hm boot_reversed (xk (thn (hab pos pins s σ H _ I h') λus s1 hz0=>?_) (by rw [hs]; rfl) rfl))
 obtain ⟨vs,H1,I1,r1,q1⟩:=hz0
 obtain ⟨x,rfl,q1⟩:=q1
 obtain ⟨u,rfl,ru⟩:=eJ r1
 have fp:∀ c∈[s1.heap.objs.size],gg X pins H1 c:=λc hb=>by
  have e:c=s1.heap.objs.size:=by simpa using hb
  subst e
  exact I1.fpOk (wa _) (I1.hok.fresh (wa _))
 have hn:=iR
 rcases q1 with ⟨b,l,xs,rfl,e1,q⟩ | ⟨l,lo,hi,rfl,e1,b1,b2,b3,b4,q⟩
 ·cases ru
  obtain ⟨us,r2,q2⟩:=dH I1.hok e1
  have usz:us.toArray.size=xs.length:=by rw [wj,<- r2.length]
  have hz:xs.length<=sizeLine:=by
   cases b with
   | true=>exact (I1.hok _ _ e1).1
   | false=>exact (I1.hok _ _ e1).1
  cases b with
  | true =>
   refine call_reversed_list q2 (wpAny_pyIter_revIter ⟨_,wc _ rfl,rfl,rfl⟩ ?_)
   refine ⟨_,_,_,_,H1,rfl,I1.kept (t':=s1.toks) λb o e=>v6 _ e,Zau (b:=true) (l:=l) (n:=xs.length) s1.heap.objs.size (by omega),?_,fp,q⟩
   refine ⟨_,wc _ rfl,rfl,?_⟩
   rw [usz]
   show Data.fields #[_,rawInt ((xs.length:Int) - 1)]=Data.fields #[_,rawInt ((xs.length:Int) - 1 - ((0:Nat):Int))]
   simp
  | false =>
   refine ZpD q2 (by rw [usz]; omega) (Zcx ⟨_,wc _ rfl,rfl,rfl⟩ ?_)
   refine ⟨_,_,_,_,H1,rfl,I1.kept (t':=s1.toks+1+1) λb o e=>v6 _ e,Zau (b:=false) (l:=l) (n:=xs.length) s1.heap.objs.size (by omega),?_,fp,q⟩
   refine ⟨_,wc _ rfl,rfl,?_⟩
   rw [usz]
   show Data.fields #[_,rawInt ((xs.length:Int) - 1)]=Data.fields #[_,rawInt ((xs.length:Int) - 1 - ((0:Nat):Int))]
   simp
 ·cases ru
  obtain ⟨t,u,v,e⟩:=I1.hok _ _ e1
  have hsz:Builtin.Range.rangeSize lo hi 1=((hi - lo).toNat:Int):=by rw [rangeSize_one]; split <;> omega
  refine ZpE e b1 b2 b3 b4 (wpAny_pyIter_rangeiter (wc _ rfl) ?_)
  refine ⟨_,_,_,_,H1,rfl,I1.kept (t':=s1.toks) λb o e=>v6 _ e,ZjB s1.heap.objs.size (lo+(hi - lo).toNat - 1) (hi - lo).toNat,?_,fp,q⟩
  rw [hsz]
  have e1:lo+(((hi - lo).toNat:Int) - 1) * 1=lo+(hi - lo).toNat - 1+((0:Nat):Int) * (-1):=by simp; omega
  have e2:((hi - lo).toNat:Int)=((hi - lo).toNat:Int) - ((0:Nat):Int):=by simp
  rw [e1]
  show IsRangeIter _ _ _ (((hi - lo).toNat:Int) - ((0:Nat):Int)) (-1)
  rw [<- e2]
  exact wc _ rfl
end
end L2
set_option Elab.async false
set_option linter.all false
set_option maxRecDepth 100000
namespace L2
section
variable {X:Cx} {tg:Expr} {PK:Pk} {e:Expr} {i j:z9} {is:Aa} {p pos:Pos}
theorem Znq {pa:Addr} {G:Hp} {lo:Int} {n:Nat}:jR PK pa (lH (lo+n - 1) n) G ((ak lo n).map PyData.int).reverse:=λm G2 H2 sb w=>by
 have hl:((ak lo n).map PyData.int).length=n:=by rw [v7,dU]
 refine ⟨λk x hx=>?_,by show n<=_; rw [ya,hl]; exact wa _⟩
 have hk:k < n:=by
  have:=(we.mp hx).1
  rwa [ya,hl] at this
 refine ⟨hk,λy H3 hz0=>?_⟩
 obtain ⟨e1,e2⟩:=hz0
 subst e1 e2
 have:x=.int (lo+n - 1 - k):=by
  rw [yZ (by rw [hl]; exact hk),hl] at hx
  unfold ak at hx
  rw [wu,v9,wm (by omega)] at hx
  cases hx
  show PyData.int (lo+((n - 1 - k:Nat):Int))=_
  congr 1
  omega
 subst this
 exact ⟨G2,.refl,w,.int _⟩
noncomputable def qG (is:Aa):Aa:=λρ=>(is ρ).bind λxs=>(Tr.of (kb xs)).bind λys=>.ret ys.reverse
def ZjS (t:TA):TE:=fS (λxs H Q=>∃ i j:Int,xs=[.int i,.int j]/\∀ p,H p=none->Q (.ref p) (upd H p (.rng i j))) t
theorem Zi3 {iter:Expr} (h:PI X tg iter (Zej (ZjS (TAd PK is)))):PI X tg iter (fu PK (qG is)):=h.imp λσ H R0 hz0=>by
 obtain ⟨pa,Aq,H₀,m,ρ,G,R,z⟩:=hz0
 refine TAd.then R z λm1 xs vs G1 H1 s1 w1 R1 d1 q1=>?_
 rw [Tr.ok_bind] at q1
 obtain ⟨ys,hy,q1⟩:=Tr.ok_of q1
 obtain ⟨k,n,e,⟨h1,h2,h3,h4⟩,rfl⟩:=Zb1 d1 hy
 refine ⟨k,n,e,λp hp=>?_⟩
 obtain ⟨w2,s2⟩:=w1.own (o:=.rng k n) hp
 refine .inr ⟨p,k,n,rfl,cA,h1,h2,h3,h4,?_⟩
 exact q1 (lH (k+(n - k).toNat - 1) (n - k).toNat) G1 _ (s1.trans s2 w1.some) w2 Znq
end
section
variable {X:Cx} {PK:Pk} {i n:z9}
end
section
variable {prog:Program} {w:World} {A:Around} {E:Ah} {s:Shared}
end
section
variable {X:Cx} {PK:Pk} {e st:Expr} {te ts:TE} {i j:z9} {p2 pos:Pos}
end
end L2
set_option Elab.async false
set_option linter.all false
set_option maxRecDepth 100000
namespace L2
abbrev je (h0 h:Heap):Prop:=∀ c o,h0.get? c=some o->h.get? c=some o
noncomputable def Zjf (prog:Program) (w:World) (A:Around) (h0:Heap) (P:Nat->Value->Prop) (bt:Nat->Nat->Bool):Prop :=
 ∀ i j vi vj (s:Shared) (Q:Ah) (E:Ah),j < i->je h0 s.heap->P i vi->P j vj->Q (.bool (bt i j)) s->wpAny (model prog w) A (richCompare .Lt vi vj) Q E s
theorem ZiZ (bt:Nat->Nat->Bool):∀ j,argBest bt j<=j
 | 0=>wa _
 | j+1=>by
  have:=ZiZ bt j
  unfold argBest
  split <;> omega
section
variable {prog:Program} {w:World} {A:Around} {R:Result->Shared->Prop} {I S:Addr} {fp wr:List Addr} {n:Nat} {P:Nat->Value->Prop} {St:Nat->Heap->Prop} {h0:Heap}
theorem oX:(toString "min"++toString ".loop":String)="min.loop":=by decide
theorem ZmK (W:Walks prog w A.in1 I fp wr n P St) (bt:Nat->Nat->Bool) (hcmp:Zjf prog w A.in1 h0 P bt) (hSf:S ∉ fp) (h0w:∀ c o,h0.get? c=some o->c ∉ wr/\c≠S) :
  ∀ (k j:Nat) (s:Shared) (vb:Value) (c:Nat),n - (j+1)=k->j+1<=n->je h0 s.heap->St (j+1) s.heap->P (argBest bt j) vb ->
  s.heap.get? S=some { cls:=.type "list",data:=.seq #[vb,vb] c } ->
  (∀ v h' tk,P (argBest bt (n - 1)) v->(∀ b o,b ∉ wr->b≠S->s.heap.get? b=some o->h'.get? b=some o)->R (.ok (.ret v)) { s with heap:=h',toks:=tk }) ->
  codeAny (model prog w) A (.builtin "min.loop" ⟨[.ref I,.none,.ref S],[]⟩) R s:=by
 have hSw:S ∉ wr:=λh=>hSf (W.sub _ h)
 intro k
 induction k with
 | zero =>
  intro j s vb c hk hj kp hst hPb hS hR
  have hin:j+1=n:=by omega
  refine codeAny_builtin zY (by
   rw [xA xY _]
   show wpAny _ A.in1 (seqItems? (.ref S) >>= _) _ _ s
   refine wpAny_bind (wpAny_seqItems hS rfl ?_)
   show wpAny _ A.in1 (tryCatch (pyNext (.ref I)) _ >>= _) _ _ s
   refine wpAny_bind (wpAny_tryCatch (W.done s _ _ (hin ▸ hst) λh' tk hk'=>?_))
   have hS':=hk' S _ hSw hS
   show wpAny _ A.in1 (updateSeq S (λ_=>#[]) >>= _) _ _ _
   refine wpAny_bind (wpAny_updateSeq hS' rfl (wpAny_bind (wpAny_letGo (wpAny_pure ?_))))
   exact hR vb _ tk (by rw [<- hin]; exact hPb) λb o hbw hbS e=>(xa _ _ (Ne.symm hbS)).trans (hk' b o hbw e))
 | succ k ih =>
  intro j s vb c hk hj kp hst hPb hS hR
  have hlt:j+1 < n:=by omega
  refine codeAny_builtin zY (by
   rw [xA xY _]
   show wpAny _ A.in1 (seqItems? (.ref S) >>= _) _ _ s
   refine wpAny_bind (wpAny_seqItems hS rfl ?_)
   show wpAny _ A.in1 (tryCatch (pyNext (.ref I)) _ >>= _) _ _ s
   refine wpAny_bind (wpAny_tryCatch (W.item (j+1) s _ _ hlt hst λv h' tk hP hst' hk'=>?_))
   have hS':=hk' S _ hSw hS
   have kp':je h0 h':=λc o e=>hk' c o (h0w c o e).1 (kp c o e)
   show wpAny _ A.in1 (tryCatch (holding [v,v] (richCompare .Lt v vb >>= _)) _ >>= _) _ _ _
   refine wpAny_bind (wpAny_tryCatch (wpAny_holding (wpAny_bind (hcmp (j+1) (argBest bt j) v vb _ _ _ (Nat.lt_succ_of_le (ZiZ bt j)) kp' hP hPb (wpAny_bind (wpAny_holding (wpAny_truthy_bool (wpAny_bind (wpAny_letGo (wpAny_pure ?_))))))))))
   cases hb:bt (j+1) (argBest bt j) with
   | true =>
    simp only [if_true]
    refine wpAny_bind (wpAny_updateSeq hS' rfl (wpAny_bind (wpAny_letGo ?_)))
    rw [oX]
    refine wpAny_pure ⟨plainId_quiet xY _,ih (j+1) _ v _ (by omega) hlt (λc o e=>(xa _ _ (Ne.symm (h0w c o e).2)).trans (kp' c o e)) (W.frame _ _ _ hst' λb hbf o e=>?_) (by simp only [argBest,hb,if_true]; exact hP) (xM _ hS' rfl)
     λv' h'' tk'' hP' hk''=>hR v' h'' tk'' hP' λb o hbw hbS e=>hk'' b o hbw hbS ((xa _ _ (Ne.symm hbS)).trans (hk' b o hbw e))⟩
    exact (xa _ _ (λh:S=b=>hSf (by rw [h]; exact hbf))).trans e
   | false =>
    simp only [xt,if_false]
    refine wpAny_bind (wpAny_letGo ?_)
    rw [oX]
    exact wpAny_pure ⟨plainId_quiet xY _,ih (j+1) _ vb c (by omega) hlt kp' hst' (by simp only [argBest,hb,xt,if_false]; exact hPb) hS' λv' h'' tk'' hP' hk'' =>
     hR v' h'' tk'' hP' λb o hbw hbS e=>hk'' b o hbw hbS (hk' b o hbw e)⟩)
theorem ZmL (W:Walks prog w A.in1 I fp wr n P St) (bt:Nat->Nat->Bool) (hcmp:Zjf prog w A.in1 h0 P bt) (hSf:S ∉ fp) (h0w:∀ c o,h0.get? c=some o->c ∉ wr/\c≠S) (hn:0 < n) {s:Shared} {c:Nat} (kp:je h0 s.heap) (hst:St 0 s.heap)
  (hS:s.heap.get? S=some { cls:=.type "list",data:=.seq #[] c })
  (hR:∀ v h' tk,P (argBest bt (n - 1)) v->(∀ b o,b ∉ wr->b≠S->s.heap.get? b=some o->h'.get? b=some o)->R (.ok (.ret v)) { s with heap:=h',toks:=tk }) :
  codeAny (model prog w) A (.builtin "min.loop" ⟨[.ref I,.none,.ref S],[]⟩) R s:=by
 have hSw:S ∉ wr:=λh=>hSf (W.sub _ h)
 refine codeAny_builtin zY (by
  rw [xA xY _]
  show wpAny _ A.in1 (seqItems? (.ref S) >>= _) _ _ s
  refine wpAny_bind (wpAny_seqItems hS rfl ?_)
  show wpAny _ A.in1 (tryCatch (pyNext (.ref I)) _ >>= _) _ _ s
  refine wpAny_bind (wpAny_tryCatch (W.item 0 s _ _ hn hst λv h' tk hP hst' hk'=>?_))
  have hS':=hk' S _ hSw hS
  have kp':je h0 h':=λc o e=>hk' c o (h0w c o e).1 (kp c o e)
  show wpAny _ A.in1 (updateSeq S (λ_=>#[v,v]) >>= _) _ _ _
  refine wpAny_bind (wpAny_updateSeq hS' rfl ?_)
  rw [oX]
  refine wpAny_pure ⟨plainId_quiet xY _,ZmK W bt hcmp hSf h0w _ 0 _ v _ rfl hn (λc o e=>(xa _ _ (Ne.symm (h0w c o e).2)).trans (kp' c o e)) (W.frame _ _ _ hst' λb hbf o e=>?_) hP (xM _ hS' rfl)
   λv' h'' tk'' hP' hk''=>hR v' h'' tk'' hP' λb o hbw hbS e=>hk'' b o hbw hbS ((xa _ _ (Ne.symm hbS)).trans (hk' b o hbw e))⟩
  exact (xa _ _ (λh:S=b=>hSf (by rw [h]; exact hbf))).trans e)
end
section
variable {prog:Program} {w:World} {A:Around} {E:Ah} {s:Shared}
theorem ZmI {a b:Value} {Q:Ah} {c:Bool} (hh:A.handled=none) (hcmp:∀ (s':Shared) (Q:Ah) (E:Ah),je s.heap s'.heap->Q (.bool c) s'->wpAny (model prog w) A.in1 (richCompare .Lt b a) Q E s')
  (h:∀ h' tk,je s.heap h'->Q (if c=true then b else a) { s with heap:=h',toks:=tk }):wpAny (model prog w) A (call (.builtin "min") [a,b]) Q E s:=by
 refine call_function_tree F.kind_min F.plain_min F.entry_min (F.args_min2 _ _) (by
  show wpAny _ A.in1 (Builtin.Builtins.bindParams "min" ["key","default"] 0 ⟨[],[]⟩ >>= _) _ _ s
  refine wpAny_bind (wpAny_of_eq (a:=[none,none]) rfl ?_)
  show wpAny _ A.in1 (newTuple [a,b] >>= _) _ _ s
  refine wpAny_bind (wpAny_newObj_type ?_)
  have hT:(s.heap.push { cls:=.type "tuple",data:=.seq #[a,b] }).IsTuple s.heap.objs.size #[a,b]:=⟨_,wc _ rfl,rfl,0,rfl⟩
  have hsz:(s.heap.push { cls:=.type "tuple",data:=.seq #[a,b] }).objs.size=s.heap.objs.size+1:=wX ..
  have hgk:je s.heap (s.heap.push { cls:=.type "tuple",data:=.seq #[a,b] }):=λc o e=>v6 _ e
  generalize (s.heap.push { cls:=.type "tuple",data:=.seq #[a,b] })=g at hT hsz hgk ⊢
  refine wpAny_bind (wpAny_pyIter_tuple hT (wpAny_bind (wpAny_newObj_type ?_)))
  rw [oX]
  have hlt:∀ {c:Nat} {o:Obj},s.heap.get? c=some o->c < s.heap.objs.size:=λe=>wq e
  have hsz2:∀ ob:Obj,(g.push ob).objs.size=s.heap.objs.size+2:=λob=>by rw [wX,hsz]
  have W:=Walks.tuple (prog:=prog) (w:=w) (A:=A.in1) hh g.objs.size s.heap.objs.size (by rw [hsz]; exact wz (yp _)) #[a,b]
  refine wpAny_pure ⟨plainId_quiet xY _,ZmL (A:=A) (h0:=s.heap) W (λi j=>if i=1/\j=0 then c else false) ?_ ?_ ?_ (show 0 < 2 by decide) ?_ ⟨?_,?_⟩ (wc _ rfl) ?_⟩
  ·intro i j vi vj s' Q' E' hji kp hi hj hq
   have hi2:i < 2:=by
    have:=(zI.mp hi).1
    simpa using this
   have e1:i=1:=by omega
   have e2:j=0:=by omega
   subst e1 e2
   have e3:b=vi:=by simpa using hi
   have e4:a=vj:=by simpa using hj
   subst e3 e4
   exact hcmp s' Q' E' kp (by simpa using hq)
  ·intro hm
   have hm':(g.push { cls:=.type "tuple_iterator",data:=.fields #[.ref s.heap.objs.size,.int 0 0] }).objs.size∈[g.objs.size,s.heap.objs.size]:=hm
   rw [hsz2,hsz] at hm'
   simp at hm'
  ·intro (c:Nat) o e
   have hc:=hlt e
   refine ⟨λhm=>?_,?_⟩
   ·have hm':c=g.objs.size:=by simpa using hm
    rw [hm',hsz] at hc
    omega
   ·show c≠(g.push { cls:=.type "tuple_iterator",data:=.fields #[.ref s.heap.objs.size,.int 0 0] }).objs.size
    rw [hsz2]
    omega
  ·exact λc o e=>v6 _ (v6 _ (hgk c o e))
  ·exact ⟨_,v6 _ (wc _ rfl),rfl,rfl⟩
  ·exact hT.at λo e=>v6 _ (v6 _ e)
  ·intro v h' tk hP hk
   have hv:v=if c=true then b else a:=by
    cases c with
    | true =>
     have e:argBest (λi j=>if i=1/\j=0 then true else false) ((#[a,b]:Array Value).size - 1)=1:=rfl
     rw [e] at hP
     simpa using hP.symm
    | false =>
     have e:argBest (λi j=>if i=1/\j=0 then false else false) ((#[a,b]:Array Value).size - 1)=0:=rfl
     rw [e] at hP
     simpa using hP.symm
   rw [hv]
   refine h h' tk λ(c:Nat) o e=>hk c o (λhm=>?_) ?_ (v6 _ (v6 _ (hgk c o e)))
   ·have hc:=hlt e
    have hm':c=g.objs.size:=by simpa using hm
    rw [hm',hsz] at hc
    omega
   ·have hc:=hlt e
    show c≠(g.push { cls:=.type "tuple_iterator",data:=.fields #[.ref s.heap.objs.size,.int 0 0] }).objs.size
    rw [hsz2]
    omega)
end
section
variable {X:Cx}
noncomputable def Zck:List V->Hp->VK->Prop:=λxs H Q=>∃ a b ns ms,xs=[.ref a,.ref b]/\H a=some (.tup (ns.map V.int))/\H b=some (.tup (ms.map V.int))/\Q (if HT.df ms ns=true then .ref b else .ref a) H
theorem Ziq {k:Nat} (hr:Room k X.A) (hc:X.calm=true):dM X (.builtin "min") Zck:=by
 intro pins s σ H xs us Q I r h
 obtain ⟨a,b,ns,ms,rfl,ha,hb,q⟩:=h
 obtain ⟨u,w',rfl,ru,rw'⟩:=nP r
 cases ru
 cases rw'
 obtain ⟨u1,r1,p1⟩:=dH (b:=false) I.hok ha
 obtain ⟨u2,r2,p2⟩:=dH (b:=false) I.hok hb
 have i1:IntsAre u1.toArray.toList ns:=Zee r1
 have i2:IntsAre u2.toArray.toList ms:=Zee r2
 refine ZmI (c:=HT.df ms ns) (I.ok.hd hc) (λs' Q' E' kp hq=>?_) λh' tk kp=>⟨_,H,I.kept kp,?_,q⟩
 ·have q1:IsTup s'.heap a u1.toArray:=SqAt.at (b:=false) p1 λo e=>kp a o e
  have q2:IsTup s'.heap b u2.toArray:=SqAt.at (b:=false) p2 λo e=>kp b o e
  exact HT.ZmT q2 q1 i2 i1 (show X.A.units+1 < cLine from by have:=hr.units; omega) hq
 ·cases HT.df ms ns
  ·exact rfl
  ·exact rfl
noncomputable def iL:List PyData->Option PyData
 | [.tuple xs,.tuple ys]=>(ints? xs).bind λns=>(ints? ys).bind λms=>some (if HT.df ms ns=true then .tuple (ms.map PyData.int) else .tuple (ns.map PyData.int))
 | _=>none
theorem Zap:fc Zck iL:=λPK pa m G H vs ds d Q w hv hd k=>by
 unfold iL at hd
 split at hd
 ·rename_i xs ys
  cases e1:ints? xs with
  | none=>rw [e1] at hd; cases hd
  | some ns =>
   cases e2:ints? ys with
   | none=>rw [e1,e2] at hd; cases hd
   | some ms =>
    rw [e1,e2] at hd
    have hd':(if HT.df ms ns=true then PyData.tuple (ms.map PyData.int) else .tuple (ns.map PyData.int))=d:=wJ hd
    cases hv with
    | cons h1 h2 =>
     cases h2 with
     | cons h2 h3 =>
      cases h3
      cases h1 with
      | @tup a us _ a1 a2 =>
       cases h2 with
       | @tup b ws _ b1 b2 =>
        obtain ⟨rfl,rfl⟩:=a2.ints_inv e1
        obtain ⟨rfl,rfl⟩:=b2.ints_inv e2
        refine ⟨a,b,ns,ms,rfl,w.sub _ _ a1,w.sub _ _ b1,?_⟩
        subst hd'
        cases hl:HT.df ms ns
        ·rw [hl] at k
         exact k.here w (.tup a1 (DnAll.ints _))
        ·rw [hl] at k
         exact k.here w (.tup b1 (DnAll.ints _))
 ·cases hd
end
section
variable {X:Cx} {PK:Pk} {e:Expr} {is:Aa}
end
end L2
set_option Elab.async false
set_option linter.all false
set_option maxRecDepth 100000
namespace L2
section
variable {prog:Program} {w:World} {A:Around} {E:Ah} {s:Shared}
end
noncomputable def Zqa:List Aj->List Int
 | []=>[]
 | x::r=>r.foldl (λb y=>if HT.df y b=true then y else b) x
section
variable {X:Cx}
noncomputable def tups?:List PyData->Option (List Aj)
 | []=>some []
 | .tuple x::xs=>(ints? x).bind λns=>(tups? xs).bind λr=>some (ns::r)
 | _=>none
noncomputable def Zrr:List PyData->Option PyData
 | [.list xs]=>(tups? xs).bind λnss=>if nss.isEmpty=true then none else some (.tuple ((Zqa nss).map PyData.int))
 | _=>none
end
section
variable {X:Cx} {PK:Pk} {a b:Expr} {pos:Pos} {j:z9}
noncomputable def jC (xs:Ai):PyData->Tr PyData
 | .int i=>Tr.of (bz xs i)
 | _=>.fail
noncomputable def jb (k:Nat) (j:z9):z9:=λρ=>(j ρ).bind λy=>match ρ[k]? with
 | some (.own xs)=>jC xs y
 | some (.d (.list xs))=>jC xs y
 | _=>.fail
theorem Zqh {G:Hp} {vs:An} {xs:Ai} {i:Int} {d:PyData} (h:DnAll G vs xs) (e:bz xs i=some d):∃ v,bz vs i=some v/\Dn G v d:=by
 unfold bz at e ⊢
 rw [h.length]
 cases hi:db xs.length i with
 | none=>rw [hi] at e; cases e
 | some n =>
  rw [hi] at e
  exact h.get n e
theorem pT {α β:Type}:∀ {t:Tr α} {m:Nat} {Z:Nat->β->Prop},(t.bind λ_=>(Tr.fail:Tr β)).ok m Z->False
 | .ret a,m,Z,h=>h
 | .draw n k,m,Z,h=>pT (t:=k 0) (h.2.2.2 0 (wG _) h.2.1)
 | .fail,m,Z,h=>h
theorem qC {k:Nat} (hb:PE X b (TAe PK j)) (ha:PE X a (fA k)) (hs:qP b):PE X (.Subscript a b pos) (TAe PK (jb k j)):=(oD ut ha hb hs).imp λσ H Q hz0=>by
 obtain ⟨pa,Aq,H₀,m,ρ,G,R,z⟩:=hz0
 have key:∀ xs:Ai,(∃ (sl:Sl),ρ[k]?=some sl/\(sl=.own xs\/sl=.d (.list xs)))->((j ρ).bind λy=>jC xs y).ok m (λm1 x=>Kn PK pa m1 G H x Q)->jm (sY X.K) (fA k) (TAe PK j) σ H Q:=λxs ⟨sl,hsl,hx⟩ z=>by
  obtain ⟨o,h1,h2⟩:=R.sl k _ hsl
  have hp:∃ p,o=some (.ref p):=by
   rcases hx with rfl | rfl
   ·cases h2; exact ⟨_,rfl⟩
   ·cases h2 with
    | d q=>cases q; exact ⟨_,rfl⟩
  obtain ⟨p,rfl⟩:=hp
  refine ⟨_,h1,?_⟩
  refine TAe.then R z λm1 y u G1 H1 s1 w1 R1 d1 q1=>?_
  obtain ⟨o',h1',h2'⟩:=R1.sl k _ hsl
  rw [h1] at h1'
  cases h1'
  have hl:∃ vs,H1 p=some (.lst vs)/\DnAll G1 vs xs:=by
   rcases hx with rfl | rfl
   ·cases h2' with
    | own a1 a2 a3 a4=>exact ⟨_,a1,a4⟩
   ·cases h2' with
    | d q=>cases q with
     | lst b1 b2=>exact ⟨_,w1.sub _ _ b1,b2⟩
  obtain ⟨vs,e1,e2⟩:=hl
  cases d1 with
  | int i =>
   obtain ⟨d,hd,kq⟩:=Tr.ok_of q1
   obtain ⟨v,hv,dv⟩:=Zqh e2 hd
   exact ⟨p,vs,i,v,rfl,rfl,SqL.of e1,hv,kq v G1 H1 s1 w1 dv⟩
  | _=>exact q1.elim
 unfold jb at z
 cases hk:ρ[k]? with
 | none=>rw [hk] at z; exact (pT (t:=j ρ) z).elim
 | some sl =>
  rw [hk] at z
  cases sl with
  | own xs=>exact key xs ⟨_,hk,.inl rfl⟩ z
  | d x =>
   cases x with
   | list xs=>exact key xs ⟨_,hk,.inr rfl⟩ z
   | _=>exact (pT (t:=j ρ) z).elim
  | _=>exact (pT (t:=j ρ) z).elim
end
end L2
set_option Elab.async false
set_option linter.all false
set_option maxRecDepth 100000
namespace L2
section
variable {prog:Program} {w:World} {A:Around} {E:Ah} {s:Shared}
theorem Zpz {t b:Addr} {ws:Ak} {Q:Ah} (ht:IsTup s.heap t ([]:Ak).toArray) (hb:IsTup s.heap b ws.toArray) (h1:Q (.ref b) s):wpAny (model prog w) A (binaryOp .Add (.ref t) (.ref b)) Q E s:=by
 obtain ⟨⟨cls,dd,data,sl⟩,ho,hc,n,hd⟩:=id ht
 obtain ⟨⟨cls2,dd2,data2,fD⟩,ho2,hc2,n2,hd2⟩:=id hb
 simp only at hc hd hc2 hd2
 subst hc hd hc2 hd2
 exact concat_meets ⟨_,ho,rfl⟩ ⟨_,ho2,rfl⟩ noFill_tuple_add seq_tuple_add yQ yH (yC _ _) (tuple_addW0 t b _ ws.toArray n n2 dd dd2 sl fD rfl) ⟨ho,ho2,h1⟩
end
section
variable {X:Cx}
noncomputable def Zcs (K:zZ):R2:=λx y H Q=>∃ a b ys,x=.ref a/\y=.ref b/\SqT K H a []/\SqT K H b ys/\Q (.ref b) H
theorem Zmb:OpR X (binaryOp .Add) (Zcs X.K):=by
 intro pins s σ H x y v u Q I rx ry h
 obtain ⟨a,b,ys,rfl,rfl,ha,hb,q⟩:=h
 cases rx
 cases ry
 obtain ⟨its,r1,p1,_⟩:=I.tuple ha
 obtain ⟨its2,r2,p2,_⟩:=I.tuple hb
 cases r1
 exact Zpz p1 p2 ⟨.ref b,H,I,rfl,q⟩
noncomputable def lw:Ag
 | .tuple [],.tuple ys=>some (.tuple ys)
 | x,y=>aM x y
noncomputable def Zcv (K:zZ):R2:=λx y H Q=>sZ K x y H Q\/Zcs K x y H Q
theorem ZcV:OpR X (binaryOp .Add) (Zcv X.K):=aX.or Zmb
theorem Zao {K:zZ}:cN (Zcv K) lw:=λPK pa m G H x y dx dy dz Q w hx hy hz k=>by
 unfold lw at hz
 split at hz
 ·cases hz
  cases hx with
  | tup a1 a2 =>
   cases a2
   cases hy with
   | tup b1 b2=>exact .inr ⟨_,_,_,rfl,rfl,SqT.of (w.sub _ _ a1),SqT.of (w.sub _ _ b1),k.here w (.tup b1 b2)⟩
 ·exact .inl (aW PK pa m G H x y _ _ dz Q w hx hy hz k)
theorem ZhB {ys:Ai}:aR lw (.tuple []) (.tuple ys)=.ret (.tuple ys):=rfl
theorem ZhA {x:PyData} {xs ys:Ai} (h:small ((x::xs).length+ys.length)=true):aR lw (.tuple (x::xs)) (.tuple ys)=.ret (.tuple (x::xs++ys)):=by
 show Tr.of (aM (.tuple (x::xs)) (.tuple ys))=_
 unfold aM
 simp only [yi,xh,yf,h,if_true]
 rfl
end
end L2
set_option Elab.async false
set_option linter.all false
set_option maxRecDepth 100000
namespace L2
section
variable {PK:Pk} {X:Cx} {a b:Expr} {pos:Pos} {i j:z9}
def vR (r:R2) (f:PyData->PyData->Option Ai):Prop:=∀ (PK:Pk) (pa:Addr) (m:Nat) (G H:Hp) (x y:V) (dx dy:PyData) (dz:Ai) (Q:VK),Wd PK pa m G H->Dn G x dx->Dn G y dy->f dx dy=some dz->Ko1 PK pa m G H dz Q->r x y H Q
noncomputable def qL (f:PyData->PyData->Option Ai) (i j:z9):Aa:=λρ=>(i ρ).bind λx=>(j ρ).bind λy=>Tr.of (f x y)
theorem ZqH {r:R2} {f:PyData->PyData->Option Ai} (hv:vR r f):∀ σ H Q,fe PK (qL f i j) σ H Q->jm r (TAe PK i) (TAe PK j) σ H Q:=by
 rintro σ H Q ⟨pa,Aq,H₀,m,ρ,G,R,q⟩
 refine TAe.then R q λm1 x v G1 H1 s1 w1 R1 d1 q1=>?_
 refine TAe.then R1 q1 λm2 y u G2 H2 s2 w2 R2 d2 q2=>?_
 obtain ⟨z,hz,k⟩:=Tr.ok_of q2
 exact hv PK pa m2 G2 H2 v u x y z Q w2 (d1.mono s2.gs) d2 hz (Ko1.later k (s1.trans s2 w1.some) w2.some)
theorem Zqn {op:Operator} {r:R2} {f:PyData->PyData->Option Ai} (ho:OpR X (binaryOp op) r) (hv:vR r f) (ha:PE X a (TAe PK i)) (hb:PE X b (TAe PK j)):PE X (.BinOp a op b pos) (fe PK (qL f i j)) :=
 (cz ho ha hb).imp (ZqH hv)
noncomputable def kc:PyData->PyData->Option Ai
 | .list xs,.int k=>if (decide (-1000<=k) && decide (k<=1000) && decide (xs.length<=1000))=true then some (List.replicate k.toNat xs).flatten else none
 | _,_=>none
theorem Zh6 {G:Hp}:∀ {vs:An} {ds:Ai} {us:An} {es:Ai},DnAll G vs ds->DnAll G us es->DnAll G (vs++us) (ds++es)
 | _,_,_,_,.nil,h=>h
 | _,_,_,_,.cons a b,h=>.cons a (Zh6 b h)
theorem Zh5 {G:Hp} {vs:An} {ds:Ai} (h:DnAll G vs ds):∀ k:Nat,DnAll G (List.replicate k vs).flatten (List.replicate k ds).flatten
 | 0=>.nil
 | k+1=>by
  rw [wF,wF,w6,w6]
  exact Zh6 h (Zh5 h k)
theorem Zjo:vR sX kc:=λPK pa m G H x y dx dy dz Q w hx hy hz k=>by
 unfold kc at hz
 split at hz
 ·split at hz
  ·rename_i hc
   cases hz
   simp only [wD,decide_eq_true_eq] at hc
   cases hx with
   | lst a1 a2 =>
    cases hy
    refine ⟨_,_,_,rfl,rfl,w.sub _ _ a1,by omega,by omega,?_,λp hp=>?_⟩
    ·rw [a2.length]
     have h0:∀ z:Int,z<=1000->z.toNat<=1000:=λz hz=>by omega
     exact ww (zJ hc.2 (h0 _ hc.1.2)) (show 1000 * 1000<=sizeLine by decide)
    ·exact k.new w (Zh5 a2 _) hp
  ·cases hz
 ·cases hz
noncomputable def m9 (f:PyData->PyData->Option Ai) (x y:PyData):Tr Ai:=Tr.of (f x y)
noncomputable def ZiJ (f:PyData->PyData->Option Ai) (j:z9) (ρ:Ap) (x:PyData):Tr Ai:=(j ρ).bind (m9 f x)
theorem Zn2 {f:PyData->PyData->Option Ai} {ρ:Ap}:qL f i j ρ=(i ρ).bind (ZiJ f j ρ):=rfl
theorem Zn1 {f:PyData->PyData->Option Ai} {ρ:Ap} {x:PyData}:ZiJ f j ρ x=(j ρ).bind (m9 f x):=rfl
theorem Zk4 {xs:Ai} {k:Int} (h:(decide (-1000<=k) && decide (k<=1000) && decide (xs.length<=1000))=true):m9 kc (.list xs) (.int k)=.ret (List.replicate k.toNat xs).flatten:=by
 simp only [m9,kc,h,if_true]
 rfl
end
theorem mL {α:Type} {n:Nat}:∀ {us:List α},us.length=n+1->∃ (a:α) (t:List α),us=a::t/\t.length=n
 | a::t,h=>⟨a,t,rfl,Nat.succ.inj h⟩
theorem Zm8 {α:Type} {us:List α} (h:us.length=0):us=[]:=List.eq_nil_of_length_eq_zero h
theorem ZdS {α:Type} {us:List α} (h:us.length=1):∃ a,us=[a]:=by
 obtain ⟨a,t,rfl,h2⟩:=mL h
 exact ⟨a,by rw [Zm8 h2]⟩
theorem ZdR {α:Type} {us:List α} (h:us.length=2):∃ a0 a1,us=[a0,a1]:=by
 obtain ⟨a0,t,rfl,h2⟩:=mL h
 obtain ⟨a1,rfl⟩:=ZdS h2
 exact ⟨a0,a1,rfl⟩
theorem ZdQ {α:Type} {us:List α} (h:us.length=3):∃ a0 a1 a2,us=[a0,a1,a2]:=by
 obtain ⟨a0,t,rfl,h2⟩:=mL h
 obtain ⟨a1,a2,rfl⟩:=ZdR h2
 exact ⟨a0,a1,a2,rfl⟩
theorem ZdP {α:Type} {us:List α} (h:us.length=4):∃ a0 a1 a2 a3,us=[a0,a1,a2,a3]:=by
 obtain ⟨a0,t,rfl,h2⟩:=mL h
 obtain ⟨a1,a2,a3,rfl⟩:=ZdQ h2
 exact ⟨a0,a1,a2,a3,rfl⟩
theorem Znc {α:Type} {us:List α} (h:us.length=5):∃ a0 a1 a2 a3 a4,us=[a0,a1,a2,a3,a4]:=by
 obtain ⟨a0,t,rfl,h2⟩:=mL h
 obtain ⟨a1,a2,a3,a4,rfl⟩:=ZdP h2
 exact ⟨a0,a1,a2,a3,a4,rfl⟩
end L2
set_option Elab.async false
set_option linter.all false
set_option maxRecDepth 100000
namespace L2
section
variable {PK:Pk} {X:Cx} {pos:Pos} {n:Nat} {is:Aa} {s t:Ac}
end
end L2
set_option Elab.async false
set_option linter.all false
set_option maxRecDepth 100000
namespace L2
section
variable {PK:Pk} {X:Cx} {a b c d e:Expr} {pos:Pos} {i j l n:z9}
end
end L2
set_option Elab.async false
set_option linter.all false
set_option maxRecDepth 100000
set_option exponentiation.threshold 9000
namespace Tw
open L2
def nb (k:Nat) (n:Int):Prop:=n.natAbs < 2 ^ k
theorem aH {k:Nat} {n:Int} (h:nb k n) (hk:k<=8000):fit n=true:=decide_eq_true (wk h (y6 (by decide) hk))
theorem aT {k l:Nat} {n:Int} (h:nb k n) (hk:k<=l):nb l n:=wk h (y6 (by decide) hk)
theorem bJ {k l:Nat} {m n:Int} (h:nb k m) (h':nb l n):nb (k+l) (m * n):=by
 unfold nb at *
 rw [xG,Nat.pow_add]
 exact Nat.mul_lt_mul'' h h'
theorem dO {k l:Nat} {m n:Int} (h:nb k m) (h':nb l n):nb (max k l+1) (m+n):=by
 have h1:=aT h (Nat.le_max_left k l)
 have h2:=aT h' (Nat.le_max_right k l)
 unfold nb at *
 rw [Nat.pow_succ,Nat.mul_two]
 exact xE (Int.natAbs_add_le m n) (Nat.add_lt_add h1 h2)
theorem ku {k:Nat} {n:Int} (h:nb k n):nb k (-n):=by
 unfold nb at *
 omega
theorem fJ {k l:Nat} {m n:Int} (h:nb k m) (h':nb l n):nb (max k l+1) (m - n):=by
 rw [Int.sub_eq_add_neg]
 exact dO h (ku h')
theorem bP {k:Nat} {n:Int} (h1:-(2 ^ k:Nat) < n) (h2:n < (2 ^ k:Nat)):nb k n:=by
 unfold nb
 omega
theorem mt {k:Nat} {c:Prop} [Decidable c] {m n:Int} (h:nb k m) (h':nb k n):nb k (if c then m else n):=by split <;> assumption
noncomputable def ws (f:Int->Int):Nat->List Int->Int
 | _,[]=>0
 | k,w::l=>w * f k+ws f (k+1) l
theorem Zaf {f:Int->Int} {a b:Nat} (hf:∀ x:Int,0<=x->nb b (f x)):∀ {l:Aj} {k:Nat},(∀ w∈l,nb a w)->nb (a+b+l.length) (ws f k l)
 | [],k,h=>by unfold ws nb; exact xr (by simp)
 | w::l,k,h=>by
  unfold ws
  have h1:=bJ (h w (by simp)) (hf k (by omega))
  have h2:=Zaf hf (l:=l) (k:=k+1) λv hv=>h v (v8 _ hv)
  refine aT (dO h1 h2) ?_
  rw [wl]
  omega
theorem lJ {f g:Int->Int}:∀ {l:Aj} {k:Nat},(∀ x:Int,0<=x->f x=g x)->ws f k l=ws g k l
 | [],k,h=>rfl
 | w::l,k,h=>by
  unfold ws
  rw [h k (by omega),lJ h]
theorem ZaL {a:Nat}:∀ {l:Aj},(∀ w∈l,nb a w)->nb (a+l.length) l.sum
 | [],h=>by unfold nb; simp; exact xr (by simp)
 | w::l,h=>by
  rw [xu]
  refine aT (dO (h w (by simp)) (ZaL (l:=l) λv hv=>h v (v8 _ hv))) ?_
  rw [wl]
  omega
structure Shp where
 top:Int
 depth:Int
 start:Int
 piece:Int
 keep:Int
 lack:Int
 lost:Int
 back:Int
 late:Int
noncomputable def Shp.l (s:Shp):Aj:=[s.top,s.depth,s.start,s.piece,s.keep,s.lack,s.lost,s.back,s.late]
@[irreducible] noncomputable def Shp.d (s:Shp):PyData:=.tuple (s.l.map PyData.int)
structure Shp.Ok (s:Shp):Prop where
 t0:0<=s.top
 d0:0<=s.depth
 td:s.top+s.depth<=100
 start0:0<=s.start
 start:nb 45 s.start
 piece:nb 45 s.piece
 keep:nb 45 s.keep
 lack:nb 45 s.lack
 lost:nb 45 s.lost
 back:nb 45 s.back
 late:nb 45 s.late
theorem Za7 (s:Shp):aR ao s.d (.int 0)=.ret (.int s.top):=by unfold Shp.d; rw [eX]; exact congrArg Tr.of jH
theorem Za6 (s:Shp):aR ao s.d (.int 1)=.ret (.int s.depth):=by unfold Shp.d; rw [eX]; exact congrArg Tr.of ng
theorem Za5 (s:Shp):aR ao s.d (.int 2)=.ret (.int s.start):=by unfold Shp.d; rw [eX]; exact congrArg Tr.of qr
theorem Za4 (s:Shp):aR ao s.d (.int 3)=.ret (.int s.piece):=by unfold Shp.d; rw [eX]; exact congrArg Tr.of qq
theorem Za3 (s:Shp):aR ao s.d (.int 4)=.ret (.int s.keep):=by unfold Shp.d; rw [eX]; exact congrArg Tr.of qp
theorem Za2 (s:Shp):aR ao s.d (.int 5)=.ret (.int s.lack):=by unfold Shp.d; rw [eX]; exact congrArg Tr.of vn
theorem Za1 (s:Shp):aR ao s.d (.int 6)=.ret (.int s.lost):=by unfold Shp.d; rw [eX]; exact congrArg Tr.of vh
theorem Za0 (s:Shp):aR ao s.d (.int 7)=.ret (.int s.back):=by unfold Shp.d; rw [eX]; exact congrArg Tr.of vg
theorem ZaZ (s:Shp):aR ao s.d (.int 8)=.ret (.int s.late):=by unfold Shp.d; rw [eX]; exact congrArg Tr.of vf
section
variable (s:Shp)
noncomputable def Shp.nx (y f:Int):Int:=b8 (y - f) (-s.depth)
noncomputable def Shp.day (y f:Int):Int:=(if s.nx y f > 0 then s.keep * s.nx y f else s.lack * -s.nx y f)+s.lost * (s.nx y f - (y - f))
noncomputable def Shp.ord (x y:Int):Int:=if y<=x then 0 else s.start+s.piece * (y - x)
noncomputable def Shp.wg (day:Aj) (y:Int) (ahead:Int->Int) (sc:Int):Int:=ws (λf=>sc * s.day y f+ahead (s.nx y f)) 0 day
noncomputable def Shp.sm (day:Aj) (ahead:Int->Int) (sc:Int) (y:Int):Int:=sc * day.sum * s.piece * y+s.wg day y ahead sc
end
noncomputable def Shp.n (s:Shp):Nat:=(s.top+1 - -s.depth).toNat
noncomputable def Shp.row (s:Shp) (f:Int->Int):Aj:=(ak (-s.depth) s.n).map f
noncomputable def lI (l:Aj):PyData:=.list (l.map PyData.int)
noncomputable def tI (l:Aj):PyData:=.tuple (l.map PyData.int)
theorem Shp.Ok.n_eq {s:Shp} (h:s.Ok):(s.n:Int)=s.top+s.depth+1:=by have:=h.t0; have:=h.d0; unfold Shp.n; omega
theorem gS (s:Shp) (f:Int->Int):(s.row f).length=s.n:=by unfold Shp.row; rw [v7,dU]
theorem gq {s:Shp} {f:Int->Int} {x:Int} (h1:-s.depth<=x) (h2:x<=s.top):(s.row f)[(x+s.depth).toNat]?=some (f x):=by
 unfold Shp.row ak
 rw [wu,v9,wm (by unfold Shp.n; omega)]
 show some (f (-s.depth+((x+s.depth).toNat:Int)))=_
 congr 2
 omega
theorem l8 {s:Shp} {f:Int->Int} {x:Int} (h1:-s.depth<=x) (h2:x<=s.top):bz ((s.row f).map PyData.int) (x+s.depth)=some (.int (f x)) :=
 ft (by omega) (by rw [v9,gq h1 h2]; rfl)
theorem gA (s:Shp) (y f:Int):-s.depth<=s.nx y f:=by unfold Shp.nx b8; split <;> omega
theorem gz {s:Shp} (h:s.Ok) {y f:Int} (hy:y<=s.top) (hf:0<=f):s.nx y f<=s.top:=by have:=h.t0; have:=h.d0; unfold Shp.nx b8; split <;> omega
end Tw
set_option Elab.async false
set_option linter.all false
set_option maxRecDepth 100000
namespace L2
variable {ρ:Ap} {s t:Ac} {i j l:z9} {is:Aa} {k n:Nat} {x y d:PyData} {xs ys:Ai} {sl:Sl}
theorem rb2 {α β:Type} {a:α} {f:α->Tr β}:(Tr.ret a).bind f=f a:=Eq.trans (Tr.ret_bind a f) (Eq.refl _)
noncomputable def sH (xs:Ai):Tr Ai:=.ret xs.reverse
theorem Zfk:sH xs=.ret xs.reverse:=rfl
noncomputable def ZbV (xs:Ai):Tr Ai:=(gT xs).bind sH
theorem Zfn:qG is ρ=(is ρ).bind ZbV:=rfl
theorem Zfj:ZbV xs=(gT xs).bind sH:=rfl
noncomputable def Zrv (k:Nat) (ρ:Ap) (xs:Ai):PyData->Tr Ou
 | .list ys=>if small (xs.length+ys.length)=true then .ret (.next (ρ.set k (.own (xs++ys)))) else .fail
 | _=>.fail
theorem pW (a b c d:Int):bR iL [.tuple [.int a,.int b],.tuple [.int c,.int d]]=.ret (if c < a\/c=a/\d < b then .tuple [.int c,.int d] else .tuple [.int a,.int b]):=by
 have h1:ints? [PyData.int a,.int b]=some [a,b]:=ints?_map [a,b]
 have h2:ints? [PyData.int c,.int d]=some [c,d]:=ints?_map [c,d]
 unfold bR iL
 simp only [h1,h2]
 show Tr.of (some _)=_
 rw [Tr.of_some]
 have e:HT.df [c,d] [a,b]=true ↔ (c < a\/c=a/\d < b):=by
  simp only [HT.ZdM,HT.ZdL]
  by_cases hca:c=a
  ·subst hca
   by_cases hdb:d=b
   ·simp [hdb]
   ·simp [hdb]
  ·simp [hca]
 by_cases hc:(c < a\/c=a/\d < b)
 ·rw [if_pos (e.mpr hc),if_pos hc]; rfl
 ·rw [if_neg (λz=>hc (e.mp z)),if_neg hc]; rfl
theorem Zdr (ns:Aj) (h:ns≠[]):bR iM [.list (ns.map PyData.int)]=.ret (.int (eh ns)):=by
 unfold bR iM fI
 simp [h]
theorem tY (ns:Aj) (h:ns≠[]):bR g9 [.list (ns.map PyData.int)]=.ret (.int (eu ns)):=by
 unfold bR g9 fI
 simp [h]
noncomputable def jB:Nat->List Sl->PyData->Tr PyData
 | 0,.own xs::_,y=>jC xs y
 | 0,.d (.list xs)::_,y=>jC xs y
 | k+1,_::ρ,y=>jB k ρ y
 | _,_,_=>.fail
theorem Zgm:jb k j ρ=(j ρ).bind (jB k ρ):=by
 have key:∀ (k:Nat) (σ:Ap) (y:PyData),(match σ[k]? with | some (Sl.own xs)=>jC xs y | some (Sl.d (.list xs))=>jC xs y | _=>Tr.fail)=jB k σ y:=by
  intro k
  induction k with
  | zero =>
   intro σ y
   cases σ with
   | nil=>rfl
   | cons s r =>
    cases s with
    | d x=>cases x <;> rfl
    | _=>rfl
  | succ k ih =>
   intro σ y
   cases σ with
   | nil=>rfl
   | cons s r=>exact ih r y
 unfold jb
 exact congrArg (Tr.bind (j ρ)) (funext λy=>key k ρ y)
theorem Zgl (n:Int):jB 0 (.own xs::ρ) (.int n)=Tr.of (bz xs n):=rfl
theorem Zgk (n:Int):jB 0 (.d (.list xs)::ρ) (.int n)=Tr.of (bz xs n):=rfl
theorem Zgj:jB (k+1) (sl::ρ) y=jB k ρ y:=rfl
theorem Zqt {α:Type} {t:Tr α} {P:α->Prop} (h:Al t 0 P):∃ a,t=.ret a/\P a:=by
 have h':=h.out
 cases t with
 | ret a=>exact ⟨a,rfl,h'⟩
 | draw w k=>exact h'.elim
 | fail=>exact h'.elim
theorem vA {α:Type} {t:Tr α} {a:α} (h:Al t 0 λb=>b=a):t=.ret a:=by
 obtain ⟨b,e,rfl⟩:=Zqt h
 exact e
theorem Zqq {α:Type} {t:Tr α} {a:α} {P:α->Prop} {N:Nat} (h:t=.ret a) (hp:P a):Al t N P:=by rw [h]; exact dE hp
theorem ZeB {s:Ac} {g:Af} {n:Nat} {full:Ai} (I:List PyData->List Sl->Prop) {Q:Ou->Prop} (ht:∀ pre x post ρ,full=pre++x::post->I pre ρ->∃ ρ1,g x ρ=some ρ1/\(s ρ1).all n λo=>∃ ρ2,o=.next ρ2/\I (pre++[x]) ρ2) (hq:∀ ρ,I full ρ->Q (.next ρ)) :
  ∀ {xs pre:Ai} {ρ:Ap},full=pre++xs->I pre ρ->(bT g s xs ρ).all (xs.length * n) Q
 | [],pre,ρ,e,h0=>hq ρ (by rw [e,wZ]; exact h0)
 | x::xs,pre,ρ,e0,h0=>by
  obtain ⟨ρ1,e,ha⟩:=ht pre x xs ρ e0 h0
  have en:(x::xs).length * n=n+xs.length * n:=by rw [wl,yb]; omega
  rw [en,eW,e,Tr.of_some,Tr.ret_bind]
  unfold jE
  refine Tr.all_bind ha λo ⟨ρ2,eo,h2⟩=>?_
  subst eo
  rw [eD]
  exact ZeB I ht hq (by rw [e0,xx]; rfl) h2
theorem qz {n N:Nat} {g:Af} {s:Ac} {xs:Ai} {ρ:Ap} {Q:Ou->Prop} (I:List PyData->List Sl->Prop) (h0:I [] ρ) (hN:xs.length * n<=N) (ht:∀ pre x post ρ,xs=pre++x::post->I pre ρ->∃ ρ1,g x ρ=some ρ1/\Al (s ρ1) n λo=>∃ ρ2,o=.next ρ2/\I (pre++[x]) ρ2) (hq:∀ ρ,I xs ρ->Q (.next ρ)):Al (bT g s xs ρ) N Q :=
 .of (Tr.all_mono (ZeB (full:=xs) I (λpre x post ρ e h=>let ⟨ρ1,e,a⟩:=ht pre x post ρ e h; ⟨ρ1,e,a.out⟩) hq (pre:=[]) rfl h0) hN λ_ h=>h)
theorem Zey {g:Af} {s:Ac} {f:PyData->Option Re} (I:List Sl->Prop) :
  ∀ {xs:Ai} {ρ:Ap},(∀ x∈xs,∀ ρ,I ρ->∃ ρ1,g x ρ=some ρ1/\((∃ r,f x=some r/\s ρ1=.ret (.ret r))\/(f x=none/\∃ ρ2,s ρ1=.ret (.next ρ2)/\I ρ2)))->I ρ ->
   (∃ r,xs.findSome? f=some r/\bT g s xs ρ=.ret (.ret r))\/(xs.findSome? f=none/\∃ ρ2,bT g s xs ρ=.ret (.next ρ2)/\I ρ2)
 | [],ρ,_,h0=>.inr ⟨rfl,ρ,rfl,h0⟩
 | x::xs,ρ,h,h0=>by
  obtain ⟨ρ1,e,hx⟩:=h x (by simp) ρ h0
  rw [eW,e,Tr.of_some,Tr.ret_bind]
  unfold jE
  rcases hx with ⟨r,e1,e2⟩ | ⟨e1,ρ2,e2,h2⟩
  ·exact .inl ⟨r,by simp [e1],by rw [e2,Tr.ret_bind]; rfl⟩
  ·rw [e2,Tr.ret_bind,eD]
   rcases Zey I (λy hy=>h y (v8 _ hy)) h2 with ⟨r,q1,q2⟩ | ⟨q1,ρ3,q2,q3⟩
   ·exact .inl ⟨r,by simp [e1,q1],q2⟩
   ·exact .inr ⟨by simp [e1,q1],ρ3,q2,q3⟩
theorem sO {lo hi:Int} {pre post:Ai} {x:PyData} (h:aN lo hi=pre++x::post):x=.int (lo+pre.length)/\(pre.length:Int) < hi - lo:=by
 have h1:(aN lo hi)[pre.length]?=some x:=by rw [h]; simp
 have hl:pre.length < (aN lo hi).length:=(we.mp h1).1
 rw [cS] at hl
 unfold aN ak at h1
 rw [wu,v9,wm (by omega)] at h1
 refine ⟨?_,by omega⟩
 cases h1
 rfl
theorem Zk0 {lo hi:Int} {pre post:Ai} {x:PyData} (h:(aN lo hi).reverse=pre++x::post):x=.int (hi - 1 - pre.length)/\(pre.length:Int) < hi - lo:=by
 have h1:((aN lo hi).reverse)[pre.length]?=some x:=by rw [h]; simp
 have hl:pre.length < ((aN lo hi).reverse).length:=(we.mp h1).1
 rw [ya,cS] at hl
 rw [yZ (by rw [cS]; exact hl),cS] at h1
 unfold aN ak at h1
 rw [wu,v9,wm (by omega)] at h1
 refine ⟨?_,by omega⟩
 cases h1
 show PyData.int (lo+(((hi - lo).toNat - 1 - pre.length:Nat):Int))=_
 congr 1
 omega
theorem Zk1 {lo hi:Int} {x:PyData} (h:x∈aN lo hi):∃ z:Int,x=.int z/\lo<=z/\z < hi:=by
 unfold aN at h
 obtain ⟨z,hz,rfl⟩:=wL.mp h
 have:=fj hz
 exact ⟨z,rfl,by omega,by omega⟩
theorem Zdt {h:PyData->Tr PyData} {f:Int->PyData} {lo hi:Int} (hx:∀ z:Int,lo<=z->z < hi->h (.int z)=.ret (f z)):bG h (aN lo hi)=.ret ((ak lo (hi - lo).toNat).map f):=by
 have key:∀ l:Aj,(∀ z∈l,lo<=z/\z < hi)->bG h (l.map PyData.int)=.ret (l.map f):=by
  intro l
  induction l with
  | nil=>intro _; rfl
  | cons z l ih =>
   intro hz
   have hh:=hz z (by simp)
   rw [wf,bG,hx z hh.1 hh.2,Tr.ret_bind,ih λy hy=>hz y (v8 _ hy)]
   rfl
 unfold aN
 refine key _ λz hz=>?_
 have:=fj hz
 omega
theorem Zn6 {xs:Ai} {pre post:Ai} {x:PyData} (h:eE xs=pre++x::post):∃ y,xs[pre.length]?=some y/\x=.tuple [.int pre.length,y]:=by
 have h1:(eE xs)[pre.length]?=some x:=by rw [h]; simp
 unfold eE at h1
 rw [List.getElem?_zipWith] at h1
 cases hx:xs[pre.length]? with
 | none=>rw [hx] at h1; simp at h1
 | some y =>
  have hl:pre.length < xs.length:=(we.mp hx).1
  rw [hx,wm hl] at h1
  simp at h1
  exact ⟨y,rfl,h1.symm⟩
theorem Zn7 (xs:Ai):(eE xs).length=xs.length:=by unfold eE; simp
end L2
set_option Elab.async false
set_option linter.all false
set_option maxRecDepth 100000
namespace Tw
open L2
noncomputable def bst (g:Int->Int) (top:Int):Nat->Int×Int
 | 0=>(g top,top)
 | n+1=>if (bst g top n).1 < g (top - ((n+1:Nat):Int)) then bst g top n else (g (top - ((n+1:Nat):Int)),top - ((n+1:Nat):Int))
theorem qk (g:Int->Int) (top:Int):∀ n:Nat,top - n<=(bst g top n).2/\(bst g top n).2<=top/\g (bst g top n).2=(bst g top n).1
 | 0=>by unfold bst; simp
 | n+1=>by
  have ih:=qk g top n
  unfold bst
  split
  ·exact ⟨by omega,ih.2.1,ih.2.2⟩
  ·exact ⟨wG _,by omega,rfl⟩
theorem u9 (g:Int->Int) (top:Int):∀ (n:Nat) (y:Int),top - n<=y->y<=top->(bst g top n).1<=g y
 | 0,y,h1,h2=>by
  have:y=top:=by omega
  subst this
  unfold bst
  exact wG _
 | n+1,y,h1,h2=>by
  by_cases hy:y=top - ((n+1:Nat):Int)
  ·unfold bst
   split
   ·subst hy; omega
   ·subst hy; exact wG _
  ·have ih:=u9 g top n y (by omega) h2
   unfold bst
   split
   ·exact ih
   ·omega
theorem ZiF (g:Int->Int) (top:Int):∀ (n:Nat) (y:Int),top - n<=y->y < (bst g top n).2->(bst g top n).1 < g y
 | 0,y,h1,h2=>by
  unfold bst at h2
  dsimp only at h2
  omega
 | n+1,y,h1,h2=>by
  by_cases hc:(bst g top n).1 < g (top - ((n+1:Nat):Int))
  ·have e:bst g top (n+1)=bst g top n:=by rw [bst,if_pos hc]
   rw [e] at h2 ⊢
   by_cases hy:y=top - ((n+1:Nat):Int)
   ·subst hy; exact hc
   ·exact ZiF g top n y (by omega) h2
  ·have e:bst g top (n+1)=(g (top - ((n+1:Nat):Int)),top - ((n+1:Nat):Int)):=by rw [bst,if_neg hc]
   rw [e] at h2
   dsimp only at h2
   omega
noncomputable def pck (g:Int->Int) (top K x:Int):Int×Int :=
 match (top - x).toNat with
 | 0=>(g x,x)
 | n+1=>if K+(bst g top n).1 < g x then (K+(bst g top n).1,(bst g top n).2) else (g x,x)
noncomputable def cst (g:Int->Int) (top K P x:Int):Int:=(pck g top K x).1 - P * x
noncomputable def lvl (g:Int->Int) (top K x:Int):Int:=(pck g top K x).2
theorem fW (g:Int->Int) (top K:Int):pck g top K top=(g top,top):=by
 unfold pck
 rw [Int.sub_self]
 rfl
theorem gv (g:Int->Int) (top K:Int) (n:Nat):pck g top K (top - ((n+1:Nat):Int))=if K+(bst g top n).1 < g (top - ((n+1:Nat):Int)) then (K+(bst g top n).1,(bst g top n).2) else (g (top - ((n+1:Nat):Int)),top - ((n+1:Nat):Int)):=by
 unfold pck
 have e:(top - (top - ((n+1:Nat):Int))).toNat=n+1:=by omega
 rw [e]
theorem oG {g:Int->Int} {top K x:Int} (hx:x<=top):(pck g top K x).1<=g x/\∀ y,x < y->y<=top->(pck g top K x).1<=K+g y:=by
 by_cases ht:x=top
 ·subst ht
  rw [fW]
  exact ⟨wG _,λy h1 h2=>by omega⟩
 ·obtain ⟨n,hn⟩:∃ n:Nat,x=top - ((n+1:Nat):Int):=⟨(top - x - 1).toNat,by omega⟩
  subst hn
  rw [gv]
  split
  ·rename_i hc
   exact ⟨by dsimp only; omega,λy h1 h2=>by have:=u9 g top n y (by omega) h2; dsimp only; omega⟩
  ·rename_i hc
   exact ⟨wG _,λy h1 h2=>by have:=u9 g top n y (by omega) h2; dsimp only; omega⟩
theorem eS {g:Int->Int} {top K x:Int} (hx:x<=top):x<=(pck g top K x).2/\(pck g top K x).2<=top/\(((pck g top K x).2=x/\(pck g top K x).1=g x)\/(x < (pck g top K x).2/\(pck g top K x).1=K+g (pck g top K x).2/\(pck g top K x).1 < g x)):=by
 by_cases ht:x=top
 ·subst ht
  rw [fW]
  exact ⟨wG _,wG _,.inl ⟨rfl,rfl⟩⟩
 ·obtain ⟨n,hn⟩:∃ n:Nat,x=top - ((n+1:Nat):Int):=⟨(top - x - 1).toNat,by omega⟩
  subst hn
  rw [gv]
  have hb:=qk g top n
  split
  ·rename_i hc
   exact ⟨by dsimp only; omega,hb.2.1,.inr ⟨by dsimp only; omega,by dsimp only; rw [hb.2.2],hc⟩⟩
  ·exact ⟨wG _,by dsimp only; omega,.inl ⟨rfl,rfl⟩⟩
theorem ZlY {g:Int->Int} {top K x y:Int} (hx:x<=top) (h1:x < y) (h2:y < (pck g top K x).2):(pck g top K x).1 < K+g y:=by
 by_cases ht:x=top
 ·subst ht
  rw [fW] at h2
  dsimp only at h2
  omega
 ·obtain ⟨n,hn⟩:∃ n:Nat,x=top - ((n+1:Nat):Int):=⟨(top - x - 1).toNat,by omega⟩
  subst hn
  rw [gv] at h2 ⊢
  split at h2
  ·rename_i hc
   rw [if_pos hc]
   have:=ZiF g top n y (by omega) h2
   dsimp only
   omega
  ·dsimp only at h2
   omega
theorem ZcL {g g':Int->Int} {top K x:Int} (h:∀ y,x<=y->y<=top->g y=g' y) (hx:x<=top):pck g top K x=pck g' top K x:=by
 have key:∀ n:Nat,x<=top - n->bst g top n=bst g' top n:=by
  intro n
  induction n with
  | zero=>intro hn; unfold bst; rw [h top (by omega) (by omega)]
  | succ n ih =>
   intro hn
   unfold bst
   rw [ih (by omega),h _ hn (by omega)]
 by_cases ht:x=top
 ·subst ht
  rw [fW,fW,h x (by omega) (by omega)]
 ·obtain ⟨n,hn⟩:∃ n:Nat,x=top - ((n+1:Nat):Int):=⟨(top - x - 1).toNat,by omega⟩
  subst hn
  rw [gv,gv,key n (by omega),h _ (by omega) (by omega)]
structure DayB (l:Aj):Prop where
 len:l.length<=16
 nb:∀ w∈l,nb 30 w
 w0:∀ w∈l,0<=w
 pos:0 < l.sum
theorem lg {s:Shp} (h:s.Ok) {y f:Int} (hy:nb 20 y) (hf:nb 40 f):nb 100 (s.day y f):=by
 have hd:nb 7 s.depth:=by have:=h.t0; have:=h.d0; have:=h.td; exact bP (by show -128 < _; omega) (by show _ < 128; omega)
 have hn:nb 50 (s.nx y f):=by
  unfold Shp.nx b8
  exact mt (aT (ku hd) (by decide)) (aT (fJ hy hf) (by decide))
 unfold Shp.day
 refine aT (dO (mt (k:=95) (bJ h.keep hn) (bJ h.lack (ku hn))) (bJ h.lost (fJ hn (fJ hy hf)))) (by decide)
def Bd (s:Shp) (b:Nat) (f:Int->Int):Prop:=∀ x,-s.depth<=x->x<=s.top->nb b (f x)
theorem Zjk {s:Shp} (h:s.Ok) {day:Aj} (hd:DayB day) {y:Int} (y1:-s.depth<=y) (y2:y<=s.top) {A:Int->Int} {b:Nat} (hA:Bd s b A) {sc:Int} (hs:nb b sc):nb (b+150) (s.wg day y A sc):=by
 have:=h.t0
 have:=h.d0
 have:=h.td
 have hlen:=hd.len
 have hy:nb 20 y:=bP (by show -1048576 < _; omega) (by show _ < 1048576; omega)
 have key:∀ (l:Aj) (k:Nat),(∀ w∈l,nb 30 w)->k+l.length<=16->nb (30+(b+101)+l.length) (ws (λf=>sc * s.day y f+A (s.nx y f)) k l):=by
  intro l
  induction l with
  | nil=>intro k _ _; unfold ws nb; exact xr (by simp)
  | cons w l ih =>
   intro k hw hk
   rw [wl] at hk ⊢
   have hf:nb 40 (k:Int):=bP (by show -1099511627776 < _; omega) (by show _ < 1099511627776; omega)
   have b1:=dO (bJ hs (lg h hy hf)) (hA _ (gA s y k) (gz h y2 (show (0:Int)<=k by omega)))
   have h1:=bJ (hw w (by simp)) b1
   have h2:=ih (k+1) (λv hv=>hw v (v8 _ hv)) (by omega)
   unfold ws
   exact aT (dO h1 h2) (by omega)
 exact aT (key day 0 hd.nb (by omega)) (by omega)
theorem dG {day:Aj} (hd:DayB day):nb 46 day.sum:=aT (ZaL hd.nb) (by have:=hd.len; omega)
theorem ZaS {s:Shp} (h:s.Ok) {day:Aj} (hd:DayB day) {A:Int->Int} {b:Nat} (hA:Bd s b A) {sc:Int} (hs:nb b sc):Bd s (b+151) (s.sm day A sc):=λy y1 y2=>by
 have:=h.t0
 have:=h.d0
 have:=h.td
 have hy:nb 20 y:=bP (by show -1048576 < _; omega) (by show _ < 1048576; omega)
 unfold Shp.sm
 exact aT (dO (bJ (bJ (bJ hs (dG hd)) h.piece) hy) (Zjk h hd y1 y2 hA hs)) (by omega)
end Tw
set_option Elab.async false
set_option linter.all false
set_option maxRecDepth 100000
namespace Tw
open L2
noncomputable abbrev rng (lo hi:Int):Aj:=ak lo (hi - lo).toNat
variable {α:Type}
theorem mf (lo:Int) (a b:Nat):ak lo (a+b)=ak lo a++ak (lo+a) b:=by
 unfold ak
 rw [List.range_add,wT,wu]
 congr 1
 apply wR
 intro k _
 show lo+((a+k:Nat):Int)=lo+(a:Int)+(k:Int)
 omega
noncomputable def f3 (lo a b c:Int) (t:Int->Int->Int->Option α):Option α:=(rng lo a).findSome? λu=>(rng (u+1) b).findSome? λv=>(rng (v+1) c).findSome? λw=>t u v w
end Tw
set_option Elab.async false
set_option linter.all false
set_option maxRecDepth 100000
namespace Tw
open L2
noncomputable def enu:Nat->List Int->List PyData
 | _,[]=>[]
 | k,n::ns=>.tuple [.int k,.int n]::enu (k+1) ns
theorem ZhQ:∀ (ns:Aj) (k:Nat),(List.range' k (ns.map PyData.int).length).zipWith (λ(n:Nat) x=>PyData.tuple [.int n,x]) (ns.map PyData.int)=enu k ns
 | [],k=>rfl
 | n::ns,k=>by
  rw [wf,wl,List.range'_succ,List.zipWith_cons_cons,ZhQ ns (k+1)]
  rfl
theorem uJ (ns:Aj):eE (ns.map PyData.int)=enu 0 ns:=by
 unfold eE
 rw [List.range_eq_range',ZhQ]
theorem ZhP:∀ (ns:Aj) (k:Nat),(enu k ns).length=ns.length
 | [],k=>rfl
 | n::ns,k=>by rw [enu,wl,wl,ZhP ns]
noncomputable def fh:Nat->List Int->List Int
 | _,[]=>[]
 | k,n::ns=>if n > 0 then (k:Int)::fh (k+1) ns else fh (k+1) ns
theorem rM:∀ {ns:Aj} {k:Nat},(∃ n∈ns,n > 0)->fh k ns≠[]
 | [],k,h=>by obtain ⟨n,h,_⟩:=h; cases h
 | n::ns,k,h=>by
  unfold fh
  split
  ·simp
  ·rename_i hn
   obtain ⟨m,hm,hp⟩:=h
   rcases wt.mp hm with rfl | hm
   ·exact absurd hp hn
   ·exact rM ⟨m,hm,hp⟩
noncomputable def great (ls:Aj):Int:=eu (fh 0 ls)
structure DayOk (most:Nat) (ls:Aj):Prop where
 len:ls.length<=most
 pos:∃ n∈ls,n > 0
 le:∀ n∈ls,0<=n/\n<=1001
theorem Zkf {ls:Aj} (h:∀ n∈ls,0<=n):∀ n∈ls,n<=ls.sum:=by
 induction ls with
 | nil=>intro n hn; cases hn
 | cons a l ih =>
  intro n hn
  have h0:0<=l.sum:=by
   clear ih hn
   have h':∀ n∈l,0<=n:=λm hm=>h m (v8 _ hm)
   clear h
   induction l with
   | nil=>decide
   | cons b l ih2 =>
    rw [xu]
    have:=h' b (by simp)
    have:=ih2 λm hm=>h' m (v8 _ hm)
    omega
  have ha:=h a (by simp)
  rw [xu]
  rcases wt.mp hn with rfl | hn
  ·omega
  ·have:=ih (λm hm=>h m (v8 _ hm)) n hn
   omega
theorem DayOk.B {m:Nat} {ls:Aj} (h:DayOk m ls) (hm:m<=16):DayB ls:=by
 refine ⟨ww h.len hm,λw hw=>?_,λw hw=>(h.le w hw).1,?_⟩
 ·have:=h.le w hw
  exact bP (by show -1073741824 < _; omega) (by show _ < 1073741824; omega)
 ·obtain ⟨n,hn,hp⟩:=h.pos
  have:=Zkf (λn hn=>(h.le n hn).1) n hn
  omega
structure Shp.Dr (s:Shp):Prop where
 t0:0<=s.top
 d0:0<=s.depth
 td:s.top+s.depth<=39
 p:∀ n∈[s.start,s.piece,s.keep,s.lack,s.lost,s.back,s.late],0<=n/\n<=1000000
theorem Shp.Dr.ok {s:Shp} (h:s.Dr):s.Ok:=by
 have hp:=h.p
 simp only [wt,xC,or_false,forall_eq_or_imp,forall_eq] at hp
 obtain ⟨h1,h2,h3,h4,h5,h6,h7⟩:=hp
 have k:∀ n:Int,0<=n/\n<=1000000->nb 45 n:=λn hn=>bP (by show -35184372088832 < _; omega) (by show _ < 35184372088832; omega)
 exact ⟨h.t0,h.d0,by have:=h.td; omega,h1.1,k _ h1,k _ h2,k _ h3,k _ h4,k _ h5,k _ h6,k _ h7⟩
theorem rP {a b c d e f g h i:Int}:PyData.tuple [.int a,.int b,.int c,.int d,.int e,.int f,.int g,.int h,.int i]=(Shp.mk a b c d e f g h i).d:=by
 unfold Shp.d
 rfl
theorem pJ (l:Aj):dg (tI l)=.ret (l.map PyData.int):=rfl
theorem Zd8 (l:Aj):dg (lI l)=.ret (l.map PyData.int):=rfl
theorem gj (l:Aj):bR dm [tI l]=.ret (.int l.sum):=pU l
theorem Zna (l:Aj):bR c7 [lI l]=.ret (.int l.length):=by
 show Tr.ret (PyData.int ((l.map PyData.int).length:Int))=_
 rw [v7]
end Tw
set_option Elab.async false
set_option linter.all false
set_option maxRecDepth 100000
set_option exponentiation.threshold 9000
namespace Tw
open L2
structure Rp (d:PyData) (k n:Nat):Prop where
 hd:d.hasDict=false
 sh:d.showable=true
 dp:d.depth<=k
 ln:d.shown.length<=n
theorem ZbX {d:PyData} {k n:Nat} (h:Rp d k n) (hk:k<=32) (hn:n<=10000000):gt d=true:=by
 unfold gt
 rw [h.hd,h.sh,decide_eq_true (ww h.dp hk),decide_eq_true (ww h.ln (ww hn (by rw [sizeLine_eq]; decide)))]
 rfl
theorem j9 {d:PyData} {k n k' n':Nat} (h:Rp d k n) (hk:k<=k') (hn:n<=n'):Rp d k' n':=⟨h.hd,h.sh,ww h.dp hk,ww h.ln hn⟩
theorem sK {i:Int} (h:nb 1900 i):Rp (.int i) 0 1901:=by
 have h1:=Za9 [i] λn hn=>by simp at hn; subst hn; exact h
 have h2:=(Za8 [i] λn hn=>by simp at hn; subst hn; exact h).1
 refine ⟨rfl,?_,xz _,?_⟩
 ·simp only [wf,xv,PyData.showableAll,zi] at h1
  exact h1
 ·simp only [wf,xv,PyData.shownAll,xu,List.sum_nil,wl,xo] at h2
  omega
theorem ZbZ {k n:Nat}:∀ {xs:Ai},(∀ x∈xs,Rp x k n)->PyData.hasDictAll xs=false/\PyData.showableAll xs=true/\PyData.depthAll xs<=k/\((PyData.shownAll xs).map (·.length)).sum<=xs.length * n/\(PyData.shownAll xs).length=xs.length
 | [],_=>⟨rfl,rfl,xz _,by simp [PyData.shownAll],rfl⟩
 | x::xs,h=>by
  obtain ⟨h1,h2,h3,h4,h5⟩:=ZbZ (xs:=xs) λy hy=>h y (v8 _ hy)
  have hx:=h x (by simp)
  refine ⟨?_,?_,?_,?_,?_⟩
  ·rw [PyData.hasDictAll,hx.hd,h1]; rfl
  ·rw [PyData.showableAll,hx.sh,h2]; rfl
  ·rw [PyData.depthAll]; have:=hx.dp; omega
  ·rw [PyData.shownAll,wf,xu,wl,yb]; have:=hx.ln; omega
  ·rw [PyData.shownAll,wl,wl,h5]
theorem sI {xs:Ai} {k n:Nat} (h:∀ x∈xs,Rp x k n):Rp (.tuple xs) (k+1) (xs.length * n+2 * xs.length+10):=by
 obtain ⟨h1,h2,h3,h4,h5⟩:=ZbZ h
 have c3:=tupleText_len_le (PyData.shownAll xs)
 refine ⟨?_,?_,?_,?_⟩
 ·rw [PyData.hasDict,h1]
 ·rw [PyData.showable,h2]
 ·rw [PyData.depth]; omega
 ·rw [PyData.shown]; omega
theorem ZbW {l:Aj} {m:Nat} (h:∀ n∈l,nb 1900 n) (hl:l.length<=m):Rp (tI l) 1 (m * 1903+10):=by
 refine j9 (sI (k:=0) (n:=1901) λx hx=>?_) (wa _) ?_
 ·obtain ⟨i,hi,rfl⟩:=wL.mp hx
  exact sK (h i hi)
 ·rw [v7]
  have:l.length * 1903<=m * 1903:=y8 _ hl
  omega
theorem ZkU {s:Shp} (h:s.Ok):Rp s.d 1 20000:=by
 have e:s.d=tI s.l:=by unfold Shp.d; rfl
 rw [e]
 refine j9 (ZbW (m:=9) (λn hn=>?_) (wa _)) (wa _) (by decide)
 have:=h.t0
 have:=h.d0
 have:=h.td
 unfold Shp.l at hn
 simp only [wt,xC,or_false] at hn
 have k:∀ n:Int,nb 45 n->nb 1900 n:=λn hn=>aT hn (by decide)
 have k1:nb 1900 s.top:=k _ (bP (by show -35184372088832 < _; omega) (by show _ < 35184372088832; omega))
 have k2:nb 1900 s.depth:=k _ (bP (by show -35184372088832 < _; omega) (by show _ < 35184372088832; omega))
 rcases hn with rfl | rfl | rfl | rfl | rfl | rfl | rfl | rfl | rfl
 ·exact k1
 ·exact k2
 ·exact k _ h.start
 ·exact k _ h.piece
 ·exact k _ h.keep
 ·exact k _ h.lack
 ·exact k _ h.lost
 ·exact k _ h.back
 ·exact k _ h.late
theorem ZkW {l:Aj} (h:DayB l):Rp (tI l) 1 40000:=j9 (ZbW (m:=16) (λn hn=>aT (h.nb n hn) (by decide)) h.len) (wa _) (by decide)
theorem nT (x:Str):(x == x)=true:=by simp
end Tw
set_option Elab.async false
set_option linter.all false
set_option maxRecDepth 100000
set_option exponentiation.threshold 9000
namespace Tw
open L2
theorem euclid {p:Ab} {s:Ac} {E:Nat->Nat->List Sl} (hp:∀ a b:Nat,p (E a b)=.ret (decide (b≠0))) (hs:∀ a b:Nat,b≠0->s (E a b)=.ret (.next (E b (a % b)))) :
  ∀ n k a b:Nat,b < 2 ^ n->cX p s (2 * n+1+k) (E a b)=.ret (.next (E (Nat.gcd a b) 0)):=by
 have stop:∀ k a:Nat,cX p s (k+1) (E a 0)=.ret (.next (E a 0)):=λk a=>by
  rw [cX,hp,Tr.ret_bind]
  rfl
 have go:∀ k a b:Nat,b≠0->cX p s (k+1) (E a b)=cX p s k (E b (a % b)):=λk a b hb=>by
  rw [cX,hp,Tr.ret_bind,decide_eq_true hb,if_pos rfl,hs a b hb,Tr.ret_bind]
 intro n
 induction n with
 | zero =>
  intro k a b hb
  have e:b=0:=by simp at hb; exact hb
  subst e
  rw [Nat.gcd_zero_right,yx (2 * 0+1) k]
  exact stop k a
 | succ n ih =>
  intro k a b hb
  by_cases h0:b=0
  ·subst h0
   have e:2 * (n+1)+1+k=(2 * (n+1)+k)+1:=by omega
   rw [Nat.gcd_zero_right,e]
   exact stop _ a
  ·have e:2 * (n+1)+1+k=(2 * n+2+k)+1:=by omega
   rw [e,go _ a b h0]
   have hr:a % b < b:=Nat.mod_lt _ (xr h0)
   by_cases h1:a % b=0
   ·rw [h1]
    have e2:2 * n+2+k=(2 * n+1+k)+1:=by omega
    have eg:Nat.gcd a b=b:=by rw [yV,Nat.gcd_rec,h1,Nat.gcd_zero_left]
    rw [e2,eg]
    exact stop _ b
   ·have e2:2 * n+2+k=(2 * n+1+k)+1:=by omega
    rw [e2,go _ b (a % b) h1]
    have hlt:b % (a % b) < 2 ^ n:=by
     have h2:b % (a % b) < a % b:=Nat.mod_lt _ (xr h1)
     have h3:b % (a % b)+a % b<=b:=by
      have h4:=Nat.div_add_mod b (a % b)
      have h5:1<=b / (a % b):=(Nat.le_div_iff_mul_le (xr h1)).mpr (by omega)
      have h6:a % b<=(a % b) * (b / (a % b)):=Nat.le_mul_of_pos_right _ h5
      omega
     rw [Nat.pow_succ] at hb
     omega
    rw [ih k (a % b) (b % (a % b)) hlt]
    have eg:Nat.gcd a b=Nat.gcd (a % b) (b % (a % b)):=by
     rw [yV a b,Nat.gcd_rec b a,Nat.gcd_rec (a % b) b,yV]
    rw [eg]
theorem ZeF (a b:Nat):(a:Int).fmod (b:Int)=((a % b:Nat):Int):=by
 rw [zG _ (Int.natCast_nonneg b)]
 rfl
theorem Zi4 (n:Int):qE n=(n.natAbs:Int):=by
 unfold qE
 split <;> omega
noncomputable def c5 (t b:Int):PyData:=.tuple [.int (Gc.cm t b),.int (Gc.b9 t b)]
theorem t3 {t b:Int} {k l:Nat} (ht:nb k t) (hb:nb l b) (h0:b≠0):nb k (Gc.cm t b)/\nb l (Gc.b9 t b):=by
 obtain ⟨h1,h2⟩:=Gc.ZmY (t:=t) h0
 exact ⟨xE h1 ht,xE h2 hb⟩
theorem Zib {t b:Int} {l:Nat} (hb:nb l b) (h0:b≠0):nb l (Gc.den t b):=by
 unfold nb
 rw [Gc.uS]
 exact xE (Nat.gcd_le_right _ (by omega)) hb
noncomputable def pr (p:Int×Int):Aj:=[p.1,p.2]
end Tw
set_option Elab.async false
set_option linter.all false
set_option maxRecDepth 100000
namespace L2
variable {PK:Pk} {X:Cx} {st:Stmt} {i n:z9}
noncomputable def Zco (K:zZ):V->V->Hp->VK->Prop:=λx y H Q=>∃ p xs i v,x=.ref p/\y=.int i/\SqL K H p xs/\0<=i/\bz xs i=some v/\Q v H
theorem Zel:Zi8 X (Zco X.K):=by
 intro pins s σ H x y v u Q I rx ry h
 obtain ⟨p,xs,i,z,rfl,rfl,hq,h0,he,q⟩:=h
 cases rx
 obtain ⟨t,rfl⟩:=ry
 obtain ⟨its,r,pl,hz⟩:=I.list hq
 obtain ⟨j,h1,h2,h3,h4,h5⟩:=qu he
 obtain ⟨w,ew,rw'⟩:=r.get h2
 have hl:=r.length
 have hn:=iR
 have fin:EP X pins σ Q w s:=⟨z,H,I,rw',q⟩
 have hj:i.toNat=j:=by
  rw [seqIndex_of h0 h5] at h1
  exact wJ h1
 exact wpAny_getItem_list pl.isList h0 (by omega) (by rw [hj]; simpa using ew) fin
noncomputable def tQ (xs:Ai):PyData->Option (Nat×Int)
 | .int y=>if 0<=y then (match xs[y.toNat]? with | some (.int a)=>some (y.toNat,a) | _=>none) else none
 | _=>none
noncomputable def Zef:PyData->Option Int
 | .int b=>some b
 | _=>none
noncomputable def jN (g:Int->Int->Int) (k:Nat) (n i:z9):Ac:=λρ=>match ρ[k]? with
 | some (.own xs)=>(n ρ).bind λy=>(Tr.of (tQ xs y)).bind λja=>(i ρ).bind λz=>(Tr.of (Zef z)).bind λb=>.ret (.next (ρ.set k (.own (xs.set ja.1 (.int (g ja.2 b))))))
 | _=>.fail
theorem ZiX {k:Nat} {g:Int->Int->Int} (h:PS X st (ZaC (fA k) (TAe PK n) (TAe PK i) (Zco X.K) (uu g) sV)):PS X st (bO PK (jN g k n i)):=h.imp λD σ H hz0=>by
 obtain ⟨pa,Aq,H₀,m,ρ,G,R,z⟩:=hz0
 unfold jN at z
 split at z
 ·rename_i xs hx
  obtain ⟨o,h1,h2⟩:=R.sl k _ hx
  cases h2 with
  | @own p vs _ a1 a2 a3 a4 =>
   refine ⟨_,h1,?_⟩
   refine TAe.then R z λm1 y v G1 H1 s1 w1 R1 d1 q1=>?_
   rw [Tr.ok_bind] at q1
   obtain ⟨ja,hja,q1⟩:=Tr.ok_of q1
   cases d1 with
   | int y =>
    have hy:∃ a,0<=y/\xs[y.toNat]?=some (.int a)/\ja=(y.toNat,a):=by
     have hja:(if 0<=y then (match xs[y.toNat]? with | some (.int a)=>some (y.toNat,a) | _=>none) else none)=some ja:=hja
     by_cases h0:0<=y
     ·rw [if_pos h0] at hja
      cases e:xs[y.toNat]? with
      | none=>rw [e] at hja; cases hja
      | some u =>
       rw [e] at hja
       cases u with
       | int a=>cases hja; exact ⟨a,h0,rfl,rfl⟩
       | _=>cases hja
     ·rw [if_neg h0] at hja; cases hja
    obtain ⟨a,h0,hat,rfl⟩:=hy
    obtain ⟨o,h1',h2⟩:=R1.sl k _ hx
    rw [h1] at h1'
    cases h1'
    cases h2 with
    | @own _ vs1 _ b1 b2 b3 b4 =>
     obtain ⟨va,hva,da⟩:=DnAll.get y.toNat b4 hat
     cases da
     refine ⟨p,vs1,y,.int a,rfl,rfl,SqL.of b1,h0,ft h0 hva,?_⟩
     refine TAe.then R1 q1 λm2 z2 u G2 H2 s2 w2 R2 d2 q2=>?_
     rw [Tr.ok_bind] at q2
     obtain ⟨b,hb,q2⟩:=Tr.ok_of q2
     cases d2 with
     | int b' =>
      cases hb
      obtain ⟨o,h1',h2⟩:=R2.sl k _ hx
      rw [h1] at h1'
      cases h1'
      cases h2 with
      | @own _ vs2 _ c1 c2 c3 c4 =>
       have hlt:y.toNat < xs.length:=(we.mp hat).1
       refine ⟨a,b,rfl,rfl,p,vs2,y,y.toNat,rfl,rfl,c1,?_,?_⟩
       ·unfold db
        rw [if_pos h0,if_pos (by rw [c4.length]; omega)]
       ·exact q2 σ G2 _ (s1.gs.trans s2.gs) (R2.change hx h1 (c4.set y.toNat (.int _)))
     | _=>cases hb
   | _=>cases hja
 ·exact z.elim
variable {ρ:Ap} {k:Nat} {g:Int->Int->Int} {xs:Ai} {sl:Sl}
noncomputable def ag3 (g:Int->Int->Int) (k:Nat) (xs:Ai) (ρ:Ap) (ja:Nat×Int) (b:Int):Tr Ou:=.ret (.next (ρ.set k (.own (xs.set ja.1 (.int (g ja.2 b))))))
noncomputable def vD (g:Int->Int->Int) (k:Nat) (xs:Ai) (ρ:Ap) (ja:Nat×Int) (z:PyData):Tr Ou:=(Tr.of (Zef z)).bind (ag3 g k xs ρ ja)
noncomputable def vE (g:Int->Int->Int) (k:Nat) (i:z9) (xs:Ai) (ρ:Ap) (ja:Nat×Int):Tr Ou:=(i ρ).bind (vD g k xs ρ ja)
noncomputable def vF (g:Int->Int->Int) (k:Nat) (i:z9) (xs:Ai) (ρ:Ap) (y:PyData):Tr Ou:=(Tr.of (tQ xs y)).bind (vE g k i xs ρ)
theorem Zhh (h:ρ[k]?=some (.own xs)):jN g k n i ρ=(n ρ).bind (vF g k i xs ρ):=by
 unfold jN
 rw [h]
 rfl
theorem Zhz {y:Int} {a:Int} (h0:0<=y) (h:xs[y.toNat]?=some (.int a)):vF g k i xs ρ (.int y)=vE g k i xs ρ (y.toNat,a):=by
 have e:tQ xs (.int y)=some (y.toNat,a):=by
  show (if 0<=y then (match xs[y.toNat]? with | some (.int a)=>some (y.toNat,a) | _=>none) else none)=_
  rw [if_pos h0,h]
 unfold vF
 rw [e]
 rfl
theorem Zhy {ja:Nat×Int}:vE g k i xs ρ ja=(i ρ).bind (vD g k xs ρ ja):=rfl
theorem Zhx {ja:Nat×Int} (b:Int):vD g k xs ρ ja (.int b)=.ret (.next (ρ.set k (.own (xs.set ja.1 (.int (g ja.2 b)))))):=rfl
end L2
set_option Elab.async false
set_option linter.all false
set_option maxRecDepth 100000
namespace L2
variable {PK:Pk} {X:Cx} {e:Expr} {pos:Pos} {is:Aa} {st:Stmt} {s:Ac}
noncomputable def rem (H:Hp) (p:Addr):Hp:=λb=>if b=p then none else H b
theorem sT {H:Hp} {p b:Addr} (h:b≠p):rem H p b=H b:=if_neg h
theorem Zk6 {H:Hp} {p:Addr}:rem H p p=none:=if_pos rfl
theorem Zk5 {H:Hp} {p b:Addr} {o:HO} (h:rem H p b=some o):H b=some o:=by
 unfold rem at h
 split at h
 ·cases h
 ·exact h
def ZqD (PK:Pk) (f:Ad):Sp:=λvs H Q _=>∃ p us xs pa m G,vs=[.ref p]/\H p=some (.lst us)/\G p=none/\p≠pa/\Wd PK pa m G H/\DnAll G us xs/\(f [.own xs]).ok m λm' r=>Kr PK pa m' G (rem H p) r Q
def v5 (PK:Pk) (P:Program) (w:World) (K:zZ) (mg:Ao) (base:Heap) (x:Str) (k:Nat) (y:Str) (f:Ad):Prop:=Callee P w K mg base x k [y] (ZqD PK f)
theorem ZqB {P:Program} {w:World} {K:zZ} {mg:Ao} {base:Heap} {x y:Str} {N:Am} {kk k:Nat} (D:Def K mg x st [y]) (S:FnScope N [y] (aP st)) (hk:N.length - 1=k) (hN:1<=N.length)
  (hbody:∀ (f:Addr) (cdv:Value) (A:Around) (outer:List Env) (sh:Shared) (H:Hp) (E:XK),Room kk (A.deeper (envOfC x (aP st) sh.heap.objs.size f cdv)) ->
   PSs (ie iq P w K mg base N x (aP st) f cdv A outer sh H E).nox (gJ st) (bO PK s)):v5 PK P w K mg base x (kk+1) y (bo 1 k s):=by
 refine D.ok S (λvs H Q E h=>?_) λf cdv A outer sh H vs Q E hr hsp=>?_
 ·obtain ⟨p,us,xs,pa,m,G,rfl,_⟩:=h
  rfl
 ·obtain ⟨p,us,xs,pa,m,G,rfl,h1,h2,h3,wd,dn,z⟩:=hsp
  refine ⟨_,hbody f cdv A outer sh H E hr,?_⟩
  unfold bo at z
  obtain ⟨_,z⟩:=gZ z
  have R:Rl PK pa G (rem H p) m (L2.start N [.ref p]) ([.own xs]++List.replicate k .un) G H:=by
   obtain ⟨o,ho,hpk⟩:=wd.pen
   have hs:∀ (q:Nat) (sl:Sl),([Sl.own xs]++List.replicate k .un)[q]?=some sl->(q=0/\sl=.own xs)\/(1<=q/\q < k+1/\sl=.un):=λq sl h=>by
    cases q with
    | zero=>simp at h; exact .inl ⟨rfl,h.symm⟩
    | succ q =>
     simp only [yO,xK,yJ,wN] at h
     split at h
     ·cases h
      exact .inr ⟨by omega,by omega,rfl⟩
     ·cases h
   refine ⟨wd,⟨λ_ _ h=>h,λ_ _ h=>.inl h,λb o h _=>Zk5 h⟩,⟨o,by rw [sT (Ne.symm h3)]; exact ho⟩,λq sl h=>?_,?_,λq n xs ys hn q1 q2=>?_,λq n xs ys hn q1 q2=>?_⟩
   ·rcases hs q sl h with ⟨rfl,rfl⟩ | ⟨a,b,rfl⟩
    ·exact ⟨_,rfl,.own h1 h2 Zk6 dn⟩
    ·unfold L2.start
     refine ⟨none,?_,.un⟩
     rw [wM (by simpa using a),wN,if_pos (by simp; omega)]
   ·unfold L2.start
    simp
    omega
   ·rcases hs q _ q1 with ⟨rfl,_⟩ | ⟨_,_,z⟩
    ·rcases hs n _ q2 with ⟨rfl,_⟩ | ⟨_,_,z⟩
     ·exact absurd rfl hn
     ·cases z
    ·cases z
   ·rcases hs q _ q1 with ⟨_,z⟩ | ⟨_,_,z⟩ <;> cases z
  refine ⟨pa,G,rem H p,m,_,G,R,Tr.ok_mono (Tr.ok_bind.mp z) λm1 o ko=>?_⟩
  cases o with
  | next ρ=>exact λσ G1 H1 sb R1=>ko .non G1 H1 R1.st R1.wd .non
  | ret r=>exact ko
  | brk ρ=>exact ko.elim
  | cont ρ=>exact ko.elim
noncomputable def cO (f:Ad) (xs:Ai):Tr Re:=f [.own xs]
noncomputable def vP (f:Ad) (is:Aa):Ad:=λρ=>(is ρ).bind (cO f)
theorem Zhc {f:Ad} {ρ:Ap}:vP f is ρ=(is ρ).bind (cO f):=rfl
theorem Zhe {f:Ad} {xs:Ai}:cO f xs=f [.own xs]:=rfl
theorem Zql {x y:Str} {k:Nat} {f:Ad} {pp:Pos} (C:v5 PK X.prog X.w X.K X.mg X.base x k y f) (hr:Room k X.A) (hg:Gl X x) (ha:PE X e (fe PK is))
  (hdb:(x == ("__debug__":Str))=false:=by decide)
  (hs:starEach [e] X.env=(false,eval e X.env)::starEach [] X.env:=by rfl) (hpl:(backTo pos (starEach [] X.env)).any (·.1)=false:=by rfl):PE X (.Call (.Name x pp) [e] [] pos) (nw PK (vP f is)) :=
 (oE C hr hg (bI ha cC hs) hdb hs hpl).imp λσ H Q hz0=>by
  obtain ⟨pa,Aq,H₀,m,ρ,G,R,z⟩:=hz0
  refine ⟨pa,Aq,H₀,m,ρ,G,R,Tr.ok_mono (Tr.ok_bind.mp z) λm1 xs q1=>?_⟩
  intro p vs G' H' s1 w1 hp hgp hl dn
  obtain ⟨o,ho,_⟩:=R.wd.pen
  have hne:p≠pa:=λe=>by rw [e,ho] at hp; cases hp
  refine ⟨p,vs,xs,pa,m1,G',rfl,hl,hgp,hne,w1,dn,Tr.ok_mono q1 λm2 r k=>?_⟩
  refine Kr.later k ⟨s1.gs,s1.gn,λb o h n=>?_⟩ ?_
  ·have hb:b≠p:=λe=>by rw [e,hp] at h; cases h
   rw [sT hb]
   exact s1.hk b o h n
  ·obtain ⟨o',ho',_⟩:=w1.pen
   exact ⟨o',by rw [sT (Ne.symm hne)]; exact ho'⟩
end L2
set_option Elab.async false
set_option linter.all false
set_option maxRecDepth 100000
namespace Tw
open L2
theorem Zai {f g:Int->Int}:∀ {l:Aj} {k:Nat},ws (λx=>f x+g x) k l=ws f k l+ws g k l
 | [],k=>rfl
 | w::l,k=>by
  unfold ws
  rw [Zai (l:=l),xc]
  omega
theorem jh {f:Int->Int} {m:Int}:∀ {l:Aj} {k:Nat},ws (λx=>m * f x) k l=m * ws f k l
 | [],k=>by unfold ws; simp
 | w::l,k=>by
  unfold ws
  rw [jh (l:=l)]
  grind
theorem ZiE {g:Int->Int} {top m:Int} (hm:0 < m):∀ n:Nat,bst (λy=>m * g y) top n=(m * (bst g top n).1,(bst g top n).2)
 | 0=>rfl
 | n+1=>by
  unfold bst
  rw [ZiE hm n]
  dsimp only
  by_cases h:(bst g top n).1 < g (top - ((n+1:Nat):Int))
  ·rw [if_pos h,if_pos (x6 h hm)]
  ·rw [if_neg h,if_neg (λz=>h (yy z (wy hm)))]
theorem oF {g:Int->Int} {top K m x:Int} (hm:0 < m) (hx:x<=top):pck (λy=>m * g y) top (m * K) x=(m * (pck g top K x).1,(pck g top K x).2):=by
 by_cases ht:x=top
 ·subst ht
  rw [fW,fW]
 ·obtain ⟨n,hn⟩:∃ n:Nat,x=top - ((n+1:Nat):Int):=⟨(top - x - 1).toNat,by omega⟩
  subst hn
  rw [gv,gv,ZiE hm]
  dsimp only
  rw [<- xc]
  by_cases h:K+(bst g top n).1 < g (top - ((n+1:Nat):Int))
  ·rw [if_pos h,if_pos (x6 h hm)]
  ·rw [if_neg h,if_neg (λz=>h (yy z (wy hm)))]
end Tw
set_option Elab.async false
set_option linter.all false
set_option maxRecDepth 100000
namespace Tw
open L2
noncomputable abbrev Rw:=Aj×Int
noncomputable def tot (X:List Rw) (c:List Int->Int):Int:=(X.map λp=>p.2 * c p.1).sum
theorem Zah {a:Int}:∀ (l:Aj) (k:Nat),ws (λ_=>a) k l=a * l.sum
 | [],k=>by simp [ws]
 | w::l,k=>by
  unfold ws
  rw [Zah l,xu,xc,xO]
def Shp.RlOk (s:Shp) (g:Int->Int):Prop:=∀ x,-s.depth<=x->x<=s.top->x<=g x/\g x<=s.top
theorem oN {s:Shp} (h:s.Ok) {x y:Int} (hx:nb 20 x) (hy:nb 20 y):nb 100 (s.ord x y):=by
 unfold Shp.ord
 exact mt (show (0:Int).natAbs < 2 ^ 100 from xr (by simp)) (aT (dO h.start (bJ h.piece (fJ hy hx))) (by decide))
theorem fU {s:Shp} (h:s.Ok) {x:Int} (x1:-s.depth<=x) (x2:x<=s.top):nb 20 x:=by
 have:=h.t0
 have:=h.d0
 have:=h.td
 exact bP (by show -1048576 < _; omega) (by show _ < 1048576; omega)
theorem Zae {f:Int->Int} {a b:Nat}:∀ {l:Aj} {k:Nat},(∀ w∈l,nb a w)->(∀ x:Int,(k:Int)<=x->x < k+l.length->nb b (f x))->nb (a+b+l.length) (ws f k l)
 | [],k,_,_=>by unfold ws nb; exact xr (by simp)
 | w::l,k,hw,hf=>by
  rw [wl] at hf ⊢
  have h1:=bJ (hw w (by simp)) (hf k (by omega) (by omega))
  have h2:=Zae (f:=f) (a:=a) (b:=b) (l:=l) (k:=k+1) (λv hv=>hw v (v8 _ hv)) λx x1 x2=>hf x (by omega) (by omega)
  unfold ws
  exact aT (dO h1 h2) (by omega)
end Tw
set_option Elab.async false
set_option linter.all false
set_option maxRecDepth 100000
namespace Tw
open L2
end Tw
set_option Elab.async false
set_option linter.all false
set_option maxRecDepth 100000
namespace L2
theorem Zez {g:Af} {s:Ac} {r:Re} {full:Ai} (B:List PyData->PyData->Prop) (I:List PyData->List Sl->Prop)
  (ht:∀ pre x post ρ,full=pre++x::post->I pre ρ->∃ ρ1,g x ρ=some ρ1/\((B pre x/\s ρ1=.ret (.ret r))\/(¬ B pre x/\∃ ρ2,s ρ1=.ret (.next ρ2)/\I (pre++[x]) ρ2))) :
  ∀ {xs pre:Ai} {ρ:Ap},full=pre++xs->I pre ρ->(∀ p x q,pre=p++x::q->¬ B p x) ->
   ((∃ p x q,full=p++x::q/\B p x)/\bT g s xs ρ=.ret (.ret r))\/((∀ p x q,full=p++x::q->¬ B p x)/\∃ ρ2,bT g s xs ρ=.ret (.next ρ2)/\I full ρ2)
 | [],pre,ρ,e,h0,hn=>by
  rw [wZ] at e
  subst e
  exact .inr ⟨hn,ρ,rfl,h0⟩
 | x::xs,pre,ρ,e,h0,hn=>by
  obtain ⟨ρ1,e1,hx⟩:=ht pre x xs ρ e h0
  rw [eW,e1,Tr.of_some,Tr.ret_bind]
  unfold jE
  rcases hx with ⟨hb,e2⟩ | ⟨hb,ρ2,e2,h2⟩
  ·exact .inl ⟨⟨pre,x,xs,e,hb⟩,by rw [e2,Tr.ret_bind]; rfl⟩
  ·rw [e2,Tr.ret_bind,eD]
   refine Zez B I ht (xs:=xs) (pre:=pre++[x]) (by rw [e,xx]; rfl) h2 λp y q hp=>?_
   rcases List.append_eq_append_iff.mp hp with ⟨a,h1,h2'⟩ | ⟨a,h1,h2'⟩
   ·cases a with
    | nil =>
     rw [xK] at h2'
     rw [wZ] at h1
     cases h2'
     subst h1
     exact hb
    | cons z a =>
     simp at h2'
   ·cases a with
    | nil =>
     rw [xK] at h2'
     rw [wZ] at h1
     cases h2'
     subst h1
     exact hb
    | cons z a =>
     rw [yO] at h2'
     cases h2'
     exact hn p y a h1
theorem ZeA {g:Af} {s:Ac} {r:Re} {xs:Ai} {ρ:Ap} (B:List PyData->PyData->Prop) (I:List PyData->List Sl->Prop) (h0:I [] ρ)
  (ht:∀ pre x post ρ,xs=pre++x::post->I pre ρ->∃ ρ1,g x ρ=some ρ1/\((B pre x/\s ρ1=.ret (.ret r))\/(¬ B pre x/\∃ ρ2,s ρ1=.ret (.next ρ2)/\I (pre++[x]) ρ2))) :
   ((∃ p x q,xs=p++x::q/\B p x)/\bT g s xs ρ=.ret (.ret r))\/((∀ p x q,xs=p++x::q->¬ B p x)/\∃ ρ2,bT g s xs ρ=.ret (.next ρ2)/\I xs ρ2) :=
 Zez B I ht (xs:=xs) (pre:=[]) rfl h0 λp x q hp=>by
  have:=congrArg List.length hp
  simp at this
end L2
set_option Elab.async false
set_option linter.all false
set_option maxRecDepth 100000
namespace Bar
noncomputable abbrev bL:=Nat->Int
noncomputable def lap (f:bL->Int):List bL->(List bL->Int)->Int
 | [],_=>0
 | c::cs,g=>f c * g cs - lap f cs λr=>g (c::r)
theorem ug (f:bL->Int) (m:Int):∀ (cs:List bL) (g h:List bL->Int),lap f cs (λr=>m * g r - h r)=m * lap f cs g - lap f cs h
 | [],g,h=>by simp [lap]
 | c::cs,g,h=>by
  rw [lap,lap,lap,ug f m cs (λr=>g (c::r)) λr=>h (c::r)]
  grind
theorem ZdY (f:bL->Int):∀ cs:List bL,lap f cs (λ_=>0)=0
 | []=>rfl
 | c::cs=>by rw [lap,ZdY f cs]; simp
theorem uf (f h:bL->Int):∀ (cs:List bL) (g:List bL->Int),lap f cs (λr=>lap h r g)=-lap h cs λr=>lap f r g
 | [],g=>by simp [lap]
 | c::cs,g=>by
  have ih:=uf f h cs λr=>g (c::r)
  have e1:(λr=>lap h (c::r) g)=λr=>h c * g r - lap h r λq=>g (c::q):=rfl
  have e2:(λr=>lap f (c::r) g)=λr=>f c * g r - lap f r λq=>g (c::q):=rfl
  rw [lap,lap,e1,e2,ug,ug,ih]
  grind
noncomputable def D:Nat->List bL->Int
 | 0,_=>1
 | k+1,cs=>lap (λc=>c k) cs (D k)
theorem Zje:∀ {k r:Nat},r < k->∀ cs:List bL,lap (λc=>c r) cs (D k)=0
 | 0,r,h,_=>by cases h
 | k+1,r,h,cs=>by
  have e:lap (λc=>c r) cs (D (k+1))=lap (λc=>c r) cs λq=>lap (λc=>c k) q (D k):=rfl
  rw [e]
  by_cases hr:r=k
  ·subst hr
   have:=uf (λc=>c r) (λc=>c r) cs (D r)
   omega
  ·rw [uf]
   have ez:(λq=>lap (λc=>c r) q (D k))=λ_=>(0:Int):=funext λq=>Zje (by omega) q
   rw [ez,ZdY]
   rfl
variable (A:Nat->Nat->Int)
noncomputable def col (l:Nat):bL:=λr=>A r l
noncomputable def R:Nat->List bL
 | 0=>[]
 | k+1=>col A k::R k
noncomputable def az (f:Nat->Int):Nat->Int
 | 0=>0
 | n+1=>az f n+f n
theorem jZ {f g:Nat->Int}:∀ {n:Nat},(∀ l,l < n->f l=g l)->az f n=az g n
 | 0,_=>rfl
 | n+1,h=>by rw [az,az,jZ λl hl=>h l (by omega),h n (by omega)]
theorem gk (f g h:Nat->Int) (a b:Int):∀ n:Nat,az (λl=>f l * (a * g l - b * h l)) n=a * az (λl=>f l * g l) n - b * az (λl=>f l * h l) n
 | 0=>by simp [az]
 | n+1=>by
  rw [az,az,az,gk f g h a b n]
  grind
theorem lP {f:Nat->Int} {n:Nat} (h:∀ l,l < n->f l=0):az f n=0:=by
 rw [jZ (g:=λ_=>0) h]
 induction n with
 | zero=>rfl
 | succ n ih=>rw [az,ih λl hl=>h l (by omega)]; rfl
noncomputable def eG:Nat->(List bL->Int)->Nat->Int
 | 0,_,_=>0
 | k+1,g,l=>if l=k then g (R A k) else -eG k (λcs=>g (col A k::cs)) l
theorem Zd0 (f:bL->Int):∀ (k:Nat) (g:List bL->Int),lap f (R A k) g=az (λl=>f (col A l) * eG A k g l) k
 | 0,g=>rfl
 | k+1,g=>by
  have e1:az (λl=>f (col A l) * eG A (k+1) g l) k=-az (λl=>f (col A l) * eG A k (λcs=>g (col A k::cs)) l) k:=by
   have:∀ n,n<=k->az (λl=>f (col A l) * eG A (k+1) g l) n=-az (λl=>f (col A l) * eG A k (λcs=>g (col A k::cs)) l) n:=by
    intro n
    induction n with
    | zero=>intro _; rfl
    | succ n ih =>
     intro hn
     rw [az,az,ih (by omega)]
     have e:eG A (k+1) g n=-eG A k (λcs=>g (col A k::cs)) n:=by rw [eG,if_neg (by omega)]
     rw [e]
     grind
   exact this k (wa _)
  have e2:eG A (k+1) g k=g (R A k):=by rw [eG,if_pos rfl]
  rw [R,lap,Zd0 f k,az,e1,e2]
  omega
noncomputable def d (k:Nat):Int:=D k (R A k)
noncomputable def sol (k:Nat) (a:bL):Nat->Int:=eG A k λcs=>D k (a::cs)
noncomputable def F (k:Nat) (i:Nat) (a:bL):Int:=d A k * a i - az (λl=>A i l * sol A k a l) k
theorem uh (k i:Nat) (a:bL):lap (λc=>c i) (a::R A k) (D k)=F A k i a:=by
 rw [lap,Zd0]
 unfold F d sol col
 rw [xO]
theorem cramer {k r:Nat} (h:r < k) (a:bL):az (λl=>A r l * sol A k a l) k=d A k * a r:=by
 have:=uh A k r a
 rw [Zje h] at this
 unfold F at this
 omega
theorem p9 (k:Nat):d A (k+1)=F A k k (col A k):=by
 rw [<- uh]
 rfl
theorem p8:d A 0=1:=rfl
theorem sole:∀ {k:Nat},(∀ j,j<=k->d A j≠0)->∀ {z:Nat->Int},(∀ r,r < k->az (λl=>A r l * z l) k=0)->∀ l,l < k->z l=0
 | 0,_,z,_,l,hl=>by cases hl
 | k+1,hd,z,hz,l,hl=>by
  have ih:∀ z:Nat->Int,(∀ r,r < k->az (λl=>A r l * z l) k=0)->∀ l,l < k->z l=0:=λz=>sole (k:=k) (λj hj=>hd j (by omega)) (z:=z)
  have dk:=hd k (by omega)
  have dk1:=hd (k+1) (by omega)
  -- d k times z,beside what the last of z asks of the first k
  have key:∀ l,l < k->1 * (d A k * z l - (-z k) * sol A k (col A k) l)=0:=by
   intro l hl
   have:=ih (λl=>d A k * z l - (-z k) * sol A k (col A k) l) (λr hr=>by
    rw [gk,cramer A hr]
    have h1:=hz r (by omega)
    rw [az] at h1
    have e:az (λl=>A r l * z l) k=-(A r k * z k):=by omega
    rw [e]
    show d A k * -(A r k * z k) - -z k * (d A k * A r k)=0
    grind) l hl
   simpa using this
  have hk:z k=0:=by
   have h1:=hz k (by omega)
   rw [az] at h1
   have e1:az (λl=>A k l * (d A k * z l - (-z k) * sol A k (col A k) l)) k=0:=lP λl hl=>by
    have:=key l hl
    rw [zx] at this
    rw [this,xN]
   rw [gk] at e1
   have e2:=p9 A k
   unfold F at e2
   have e3:az (λl=>A k l * z l) k=-(A k k * z k):=by omega
   rw [e3] at e1
   have e4:col A k k=A k k:=rfl
   rw [e4] at e2
   generalize az (λl=>A k l * sol A k (col A k) l) k=S at *
   have e5:z k * d A (k+1)=0:=by
    rw [e2]
    grind
   rcases zy.mp e5 with q | q
   ·exact q
   ·exact absurd q dk1
  by_cases hlk:l=k
  ·rw [hlk]; exact hk
  ·have:=key l (by omega)
   rw [hk] at this
   have e:d A k * z l=0:=by
    rw [zx] at this
    simpa using this
   rcases zy.mp e with q | q
   ·exact absurd q dk
   ·exact q
end Bar
set_option Elab.async false
set_option linter.all false
set_option maxRecDepth 100000
namespace Bar
variable (A:Nat->Nat->Int)
theorem step {k:Nat} (hd:∀ j,j<=k+1->d A j≠0) (a:bL):sol A (k+1) a k=F A k k a/\∀ l,l < k->d A k * sol A (k+1) a l=d A (k+1) * sol A k a l - F A k k a * sol A k (col A k) l:=by
 have dk:=hd k (by omega)
 have e0:=p9 A k
 have eF:F A k k a=d A k * a k - az (λl=>A k l * sol A k a l) k:=rfl
 have eC:F A k k (col A k)=d A k * A k k - az (λl=>A k l * sol A k (col A k) l) k:=rfl
 rw [eC] at e0
 have low:∀ r,r < k+1->az (λl=>A r l * (d A k * sol A (k+1) a l - 1 * (d A (k+1) * sol A k a l - F A k k a * sol A k (col A k) l))) k+A r k * (d A k * sol A (k+1) a k - d A k * F A k k a)=0:=by
  intro r hr
  rw [gk,gk]
  have c1:=cramer A hr a
  rw [az] at c1
  have c1':az (λl=>A r l * sol A (k+1) a l) k=d A (k+1) * a r - A r k * sol A (k+1) a k:=by omega
  rw [c1']
  by_cases hk:r=k
  ·subst hk
   have q1:az (λl=>A r l * sol A r a l) r=d A r * a r - F A r r a:=by omega
   have q2:az (λl=>A r l * sol A r (col A r) l) r=d A r * A r r - d A (r+1):=by omega
   rw [q1,q2]
   grind
  ·have q1:=cramer A (show r < k by omega) a
   have q2:=cramer A (show r < k by omega) (col A k)
   have q2':col A k r=A r k:=rfl
   rw [q2'] at q2
   rw [q1,q2]
   grind
 have z:=sole A hd (z:=λl=>if l=k then d A k * sol A (k+1) a k - d A k * F A k k a else d A k * sol A (k+1) a l - 1 * (d A (k+1) * sol A k a l - F A k k a * sol A k (col A k) l)) (λr hr=>by
  rw [az,if_pos rfl]
  rw [jZ (g:=λl=>A r l * (d A k * sol A (k+1) a l - 1 * (d A (k+1) * sol A k a l - F A k k a * sol A k (col A k) l))) λl hl=>by rw [if_neg (by omega)]]
  exact low r hr)
 constructor
 ·have:=z k (by omega)
  rw [if_pos rfl] at this
  have e:d A k * (sol A (k+1) a k - F A k k a)=0:=by rw [Int.mul_sub]; exact this
  rcases zy.mp e with q | q
  ·exact absurd q dk
  ·omega
 ·intro l hl
  have:=z l (by omega)
  rw [if_neg (by omega)] at this
  omega
noncomputable def M (k i:Nat) (a:bL):Int:=if i < k then sol A k a i else F A k i a
theorem Zri (i:Nat) (a:bL):M A 0 i a=a i:=by
 unfold M F
 rw [if_neg (by omega),p8,az]
 omega
theorem vY (k:Nat):M A k k (col A k)=d A (k+1):=by
 unfold M
 rw [if_neg (by omega),p9]
theorem Zrk {k:Nat} (hd:∀ j,j<=k+1->d A j≠0) (a:bL):M A (k+1) k a=M A k k a:=by
 unfold M
 rw [if_pos (by omega),if_neg (by omega)]
 exact (step A hd a).1
theorem Zrj {k:Nat} (hd:∀ j,j<=k+1->d A j≠0) (a:bL) {i:Nat} (hi:i≠k):d A k * M A (k+1) i a=M A k k (col A k) * M A k i a - M A k i (col A k) * M A k k a:=by
 obtain ⟨s1,s2⟩:=step A hd a
 rw [vY]
 unfold M
 by_cases h:i < k
 ·rw [if_pos (by omega),if_pos h,if_pos h,if_neg (by omega),s2 i h,xO (sol A k (col A k) i)]
 ·rw [if_neg (by omega),if_neg h,if_neg h,if_neg (by omega)]
  have e1:F A (k+1) i a=d A (k+1) * a i - (az (λl=>A i l * sol A (k+1) a l) k+A i k * sol A (k+1) a k):=rfl
  have e2:F A k i a=d A k * a i - az (λl=>A i l * sol A k a l) k:=rfl
  have e3:F A k i (col A k)=d A k * A i k - az (λl=>A i l * sol A k (col A k) l) k:=rfl
  have e4:d A k * az (λl=>A i l * sol A (k+1) a l) k=d A (k+1) * az (λl=>A i l * sol A k a l) k - F A k k a * az (λl=>A i l * sol A k (col A k) l) k:=by
   have q1:=gk (λl=>A i l) (sol A (k+1) a) (λ_=>0) (d A k) 0 k
   have q2:=gk (λl=>A i l) (sol A k a) (sol A k (col A k)) (d A (k+1)) (F A k k a) k
   rw [<- q2]
   have q3:d A k * az (λl=>A i l * sol A (k+1) a l) k=az (λl=>A i l * (d A k * sol A (k+1) a l - 0 * 0)) k:=by rw [q1]; omega
   rw [q3]
   refine jZ λl hl=>?_
   rw [<- s2 l hl]
   simp
  rw [e1,e2,e3,s1]
  generalize az (λl=>A i l * sol A (k+1) a l) k=S1 at *
  generalize az (λl=>A i l * sol A k a l) k=S2 at *
  generalize az (λl=>A i l * sol A k (col A k) l) k=S3 at *
  have e5:d A k * (d A (k+1) * a i - (S1+A i k * F A k k a))=d A k * d A (k+1) * a i - d A k * S1 - d A k * (A i k * F A k k a):=by grind
  rw [e5,e4]
  grind
theorem Zrl {n r:Nat} (h:r < n) (a:bL):az (λl=>A r l * M A n l a) n=d A n * a r:=by
 rw [<- cramer A h a]
 refine jZ λl hl=>?_
 unfold M
 rw [if_pos hl]
end Bar
set_option Elab.async false
set_option linter.all false
set_option maxRecDepth 100000
namespace Bar
variable (A:Nat->Nat->Int)
noncomputable def unit (k:Nat):bL:=λr=>if r=k then 1 else 0
theorem Zrn {k:Nat} (hd:∀ j,j<=k->d A j≠0):F A k k (unit k)=d A k:=by
 have z:=sole A hd (z:=sol A k (unit k)) (λr hr=>by
  rw [cramer A hr]
  unfold unit
  rw [if_neg (by omega),xN])
 unfold F
 rw [lP λl hl=>by rw [z l hl,xN]]
 unfold unit
 rw [if_pos rfl]
 omega
theorem Zkk (k:Nat):sol A (k+1) (unit k) k=F A k k (unit k):=by
 unfold sol
 rw [eG,if_pos rfl]
 exact uh A k k (unit k)
theorem rG {p v:Nat->Int} {V:Int} (hV:0<=V) (v0:v 0=0):∀ {m:Nat},(∀ l,l < m+1->0<=p l)->(∀ l,l < m+1->v l<=V)->az (λl=>p l * v l) (m+1)<=(az p (m+1) - p 0) * V
 | 0,hp,hv=>by
  show 0+p 0 * v 0<=(0+p 0 - p 0) * V
  rw [v0]
  simp
 | m+1,hp,hv=>by
  have ih:=rG (p:=p) (v:=v) hV v0 (m:=m) (λl hl=>hp l (by omega)) λl hl=>hv l (by omega)
  have h1:=wP (hv (m+1) (by omega)) (hp (m+1) (by omega))
  have e1:az (λl=>p l * v l) (m+1+1)=az (λl=>p l * v l) (m+1)+p (m+1) * v (m+1):=rfl
  have e2:az p (m+1+1)=az p (m+1)+p (m+1):=rfl
  have e3:(az p (m+1)+p (m+1) - p 0) * V=(az p (m+1) - p 0) * V+p (m+1) * V:=by grind
  rw [e1,e2,e3]
  omega
theorem ZaJ (f:Nat->Int):∀ n:Nat,az (λl=>-f l) n=-az f n
 | 0=>rfl
 | n+1=>by rw [az,az,ZaJ f n]; omega
theorem rH {p:Nat->Int}:∀ {m n:Nat},m<=n->(∀ l,l < n->0<=p l)->az p m<=az p n
 | m,0,h,_=>by
  have:m=0:=by omega
  subst this
  exact wG _
 | m,n+1,h,hp=>by
  by_cases e:m=n+1
  ·subst e; exact wG _
  ·have:=rH (p:=p) (m:=m) (n:=n) (by omega) λl hl=>hp l (by omega)
   have:=hp n (by omega)
   rw [az]
   omega
theorem argmax (v:Nat->Int):∀ k:Nat,∃ i,i<=k/\∀ l,l<=k->v l<=v i
 | 0=>⟨0,wa _,λl hl=>by
  have e:l=0:=by omega
  rw [e]
  exact wG _⟩
 | k+1=>by
  obtain ⟨i,hi,h⟩:=argmax v k
  by_cases hc:v i<=v (k+1)
  ·refine ⟨k+1,by omega,λl hl=>?_⟩
   by_cases e:l=k+1
   ·subst e; exact wG _
   ·have:=h l (by omega)
    omega
  ·refine ⟨i,by omega,λl hl=>?_⟩
   by_cases e:l=k+1
   ·subst e; omega
   ·exact h l (by omega)
structure Pol (n:Nat) (A P:Nat->Nat->Int) (W:Int):Prop where
 W0:0 < W
 a0:∀ i,i < n->A i 0=W
 a:∀ i j,i < n->1<=j->j < n->A i j=(if i=j then W else 0) - P i j
 p:∀ i j,i < n->j < n->0<=P i j
 p0:∀ i,i < n->0 < P i 0
 s:∀ i,i < n->az (P i) n=W
variable {A} {P:Nat->Nat->Int} {W:Int} {n:Nat}
theorem gq (h:Pol n A P W) (z:Nat->Int) {i:Nat} (hi:i < n):∀ {m:Nat},m+1<=n->az (λl=>A i l * z l) (m+1)=W * z 0+(if 1<=i/\i<=m then W * z i else 0) - az (λl=>P i l * (if l=0 then 0 else z l)) (m+1)
 | 0,hm=>by
  show 0+A i 0 * z 0=_
  rw [if_neg (by omega),h.a0 i hi]
  show _=W * z 0+0 - (0+P i 0 * (if 0=0 then 0 else z 0))
  rw [if_pos rfl]
  omega
 | m+1,hm=>by
  have ih:=gq h z hi (m:=m) (by omega)
  have e1:az (λl=>A i l * z l) (m+1+1)=az (λl=>A i l * z l) (m+1)+A i (m+1) * z (m+1):=rfl
  have e2:az (λl=>P i l * (if l=0 then 0 else z l)) (m+1+1)=az (λl=>P i l * (if l=0 then 0 else z l)) (m+1)+P i (m+1) * (if m+1=0 then 0 else z (m+1)):=rfl
  rw [e1,e2,ih,h.a i (m+1) hi (by omega) (by omega),if_neg (show ¬ m+1=0 by omega)]
  by_cases e:i=m+1
  ·subst e
   rw [if_pos rfl,if_neg (by omega),if_pos (by omega)]
   grind
  ·rw [if_neg e]
   by_cases e2:1<=i/\i<=m
   ·rw [if_pos e2,if_pos (by omega)]
    grind
   ·rw [if_neg e2,if_neg (by omega)]
    grind
theorem sign (h:Pol n A P W) {k:Nat} (hk:1<=k) (hn:k+1<=n) {z:Nat->Int} {c:Int} (hz:∀ r,r < k+1->az (λl=>A r l * z l) (k+1)=if r=k then c else 0) (zk:0 < z k):0 < c:=by
 apply zS.mp
 intro hc
 have W0:=h.W0
 -- worths: nought at the lowest
 have hv:∀ r,r < k+1->W * z 0+W * (if r=0 then 0 else z r) - az (λl=>P r l * (if l=0 then 0 else z l)) (k+1)=if r=k then c else 0:=λr hr=>by
  have:=hz r hr
  rw [gq h z (by omega) (by omega)] at this
  rw [<- this]
  by_cases e:r=0
  ·rw [if_pos e,if_neg (by omega)]
   omega
  ·rw [if_neg e,if_pos (by omega)]
 generalize hvd:(λl=>if l=0 then 0 else z l)=v at *
 have v0:v 0=0:=by rw [<- hvd]; rfl
 have vk:v k=z k:=by rw [<- hvd]; show (if k=0 then 0 else z k)=z k; rw [if_neg (by omega)]
 have hv':∀ r,r < k+1->W * z 0+W * v r - az (λl=>P r l * v l) (k+1)=if r=k then c else 0:=λr hr=>by
  have:=hv r hr
  rw [<- hvd]
  exact this
 clear hv
 have hs:∀ i,i < n->az (P i) (k+1)<=W:=λi hi=>by
  rw [<- h.s i hi]
  exact rH (by omega) λl hl=>h.p i l hi hl
 have up:∀ (u:Nat->Int) (V:Int) (i:Nat),0 < V->u 0=0->i < n->(∀ l,l < k+1->u l<=V)->az (λl=>P i l * u l) (k+1)<=(W - P i 0) * V:=λu V i hV u0 hi hu=>by
  have a1:=rG (p:=P i) (v:=u) (wy hV) u0 (m:=k) (λl hl=>h.p i l hi (by omega)) hu
  have a2:=yn (show az (P i) (k+1) - P i 0<=W - P i 0 by have:=hs i hi; omega) (wy hV)
  omega
 obtain ⟨i,hi,hmax⟩:=argmax v k
 have vpos:0 < v i:=by have:=hmax k (wa _); omega
 -- the greatest worth: the mean is below nought
 have m0:z 0 < 0:=by
  have r1:=hv' i (by omega)
  have r2:=up v (v i) i vpos v0 (by omega) (λl hl=>hmax l (by omega))
  have r3:=wV (h.p0 i (by omega)) vpos
  have e:(W - P i 0) * v i=W * v i - P i 0 * v i:=by grind
  have r4:W * z 0 < 0:=by
   have:(if i=k then c else 0)<=0:=by split <;> omega
   omega
  apply zS.mp
  intro q
  have:=wW (wy W0) q
  omega
 -- the least worth: it is above nought
 obtain ⟨j,hj,hmin⟩:=argmax (λl=>-v l) k
 have r0:=hv' 0 (by omega)
 rw [v0,if_neg (by omega)] at r0
 have Wm:W * z 0 < 0:=by
  have:=wP (show z 0<=-1 by omega) (wy W0)
  omega
 have jneg:v j < 0:=by
  apply zS.mp
  intro q
  have all0:∀ l,l<=k->0<=v l:=λl hl=>by
   have:-v l<=-v j:=hmin l hl
   omega
  have:0<=az (λl=>P 0 l * v l) (k+1):=by
   have:=rH (p:=λl=>P 0 l * v l) (m:=0) (n:=k+1) (by omega) λl hl=>wW (h.p 0 l (by omega) (by omega)) (all0 l (by omega))
   exact this
  omega
 have jk:j≠k:=λe=>by rw [e,vk] at jneg; omega
 have r1:=hv' j (by omega)
 rw [if_neg jk] at r1
 have r2:=up (λl=>-v l) (-v j) j (by omega) (by show -v 0=0; rw [v0]; rfl) (by omega) (λl hl=>hmin l (by omega))
 have e1:az (λl=>P j l * -v l) (k+1)=-az (λl=>P j l * v l) (k+1):=by
  rw [<- ZaJ]
  refine jZ λl _=>?_
  grind
 rw [e1] at r2
 have r3:=wV (h.p0 j (by omega)) (show 0 < -v j by omega)
 have e2:(W - P j 0) * -v j=-(W * v j) - P j 0 * -v j:=by grind
 omega
theorem leads (h:Pol n A P W):∀ k,k<=n->0 < d A k
 | 0,_=>by rw [p8]; decide
 | k+1,hk=>by
  have ih:∀ j,j<=k->0 < d A j:=λj hj=>leads h j (by omega)
  by_cases k0:k=0
  ·subst k0
   have:d A 1=A 0 0:=by
    rw [p9]
    unfold F
    rw [p8,az]
    show 1 * A 0 0 - 0=A 0 0
    omega
   rw [this,h.a0 0 (by omega)]
   exact h.W0
  ·refine sign h (k:=k) (by omega) hk (z:=sol A (k+1) (unit k)) (c:=d A (k+1)) (λr hr=>?_) ?_
   ·rw [cramer A hr]
    unfold unit
    split
    ·omega
    ·omega
   ·rw [Zkk,Zrn A λj hj=>by have:=ih j hj; omega]
    exact ih k (wa _)
termination_by k=>k
end Bar
set_option Elab.async false
set_option linter.all false
set_option maxRecDepth 100000
namespace Bar
variable {A P:Nat->Nat->Int} {W:Int} {n:Nat}
theorem improve (h:Pol n A P W) (hn:1<=n) {y:Nat->Int} {s:Nat->Int} (hs:∀ r,r < n->0<=s r) (hy:∀ r,r < n->az (λl=>A r l * y l) n=-s r) :
  y 0 < 0\/(y 0=0/\∀ r,1<=r->r < n->y r<=0):=by
 obtain ⟨k,rfl⟩:∃ k,n=k+1:=⟨n - 1,by omega⟩
 have W0:=h.W0
 have hv:∀ r,r < k+1->W * y 0+W * (if r=0 then 0 else y r) - az (λl=>P r l * (if l=0 then 0 else y l)) (k+1)=-s r:=λr hr=>by
  have:=hy r hr
  rw [gq h y hr (by omega)] at this
  rw [<- this]
  by_cases e:r=0
  ·rw [if_pos e,if_neg (by omega)]
   omega
  ·rw [if_neg e,if_pos (by omega)]
 generalize hvd:(λl=>if l=0 then 0 else y l)=v at *
 have v0:v 0=0:=by rw [<- hvd]; rfl
 have vr:∀ r,1<=r->v r=y r:=λr hr=>by rw [<- hvd]; show (if r=0 then 0 else y r)=y r; rw [if_neg (by omega)]
 have hv':∀ r,r < k+1->W * y 0+W * v r - az (λl=>P r l * v l) (k+1)=-s r:=λr hr=>by
  have:=hv r hr
  rw [<- hvd]
  exact this
 clear hv
 have up:∀ (V:Int) (i:Nat),0<=V->i < k+1->(∀ l,l < k+1->v l<=V)->az (λl=>P i l * v l) (k+1)<=(W - P i 0) * V:=λV i hV hi hu=>by
  have a1:=rG (p:=P i) (v:=v) hV v0 (m:=k) (λl hl=>h.p i l hi (by omega)) hu
  rw [h.s i hi] at a1
  exact a1
 obtain ⟨i,hi,hmax⟩:=argmax v k
 have vi:0<=v i:=by have:=hmax 0 (by omega); omega
 have r1:=hv' i (by omega)
 have r2:=up (v i) i vi (by omega) (λl hl=>hmax l (by omega))
 have e:(W - P i 0) * v i=W * v i - P i 0 * v i:=by grind
 have si:=hs i (by omega)
 by_cases hp:0 < v i
 ·left
  have r3:=wV (h.p0 i (by omega)) hp
  apply zS.mp
  intro q
  have:=wW (wy W0) q
  omega
 ·have v00:v i=0:=by omega
  have all0:∀ r,r < k+1->v r<=0:=λr hr=>by have:=hmax r (by omega); omega
  have q1:=hv' 0 (by omega)
  have q2:=up 0 0 (wG _) (by omega) all0
  have s0:=hs 0 (by omega)
  rw [v0] at q1
  have Wy:W * y 0<=0:=by omega
  by_cases hy0:y 0 < 0
  ·exact .inl hy0
  ·right
   have:y 0=0:=by
    apply zE
    ·apply Int.not_lt.mp
     intro q
     have:=wV W0 q
     omega
    ·omega
   exact ⟨this,λr r1 r2=>by have:=all0 r r2; rw [vr r r1] at this; exact this⟩
def Bet (n:Nat) (z:Nat->Int) (D:Int) (z':Nat->Int) (D':Int):Prop:=D * z' 0 < D' * z 0\/(D * z' 0=D' * z 0/\(∀ r,r < n->D * z' r<=D' * z r)/\∃ r,r < n/\D * z' r < D' * z r)
theorem Zdf {a b c A B C:Int} (hA:0 < A) (hB:0 < B) (hC:0 < C) (h1:A * b<=B * a) (h2:B * c<=C * b):A * c<=C * a/\((A * b < B * a\/B * c < C * b)->A * c < C * a):=by
 -- B (A c)<=A C b<=C B a
 have e1:=wP h2 (wy hA)
 have e2:=wP h1 (wy hC)
 have q1:A * (B * c)=B * (A * c):=by grind
 have q2:A * (C * b)=C * (A * b):=by grind
 have q3:C * (B * a)=B * (C * a):=by grind
 refine ⟨yz (show B * (A * c)<=B * (C * a) by omega) hB,λh=>?_⟩
 have hlt:B * (A * c) < B * (C * a):=by
  rcases h with h | h
  ·have:=x6 h hC
   omega
  ·have:=x6 h hA
   omega
 exact yy hlt (wy hB)
theorem Bet.trans {z z' z'':Nat->Int} {D D' D'':Int} (hD:0 < D) (hD':0 < D') (hD'':0 < D'') (h1:Bet n z D z' D') (h2:Bet n z' D' z'' D''):Bet n z D z'' D'':=by
 have t:=λr=>Zdf (a:=z r) (b:=z' r) (c:=z'' r) hD hD' hD''
 rcases h1 with a | ⟨a1,a2,r,hr,a3⟩
 ·rcases h2 with b | ⟨b1,b2,_⟩
  ·exact .inl ((t 0 (wy a) (wy b)).2 (.inl a))
  ·exact .inl ((t 0 (wy a) (xW b1)).2 (.inl a))
 ·rcases h2 with b | ⟨b1,b2,_⟩
  ·exact .inl ((t 0 (xW a1) (wy b)).2 (.inr b))
  ·right
   refine ⟨?_,λq hq=>(t q (a2 q hq) (b2 q hq)).1,r,hr,(t r (a2 r hr) (b2 r hr)).2 (.inl a3)⟩
   have u1:=(t 0 (xW a1) (xW b1)).1
   have u2:=(Zdf (a:=z'' 0) (b:=z' 0) (c:=z 0) hD'' hD' hD (xW b1.symm) (xW a1.symm)).1
   omega
theorem Bet.irrefl {z:Nat->Int} {D:Int} (h:Bet n z D z D):False:=by
 rcases h with a | ⟨_,_,r,_,a⟩ <;> omega
theorem better (h:Pol n A P W) (hn:1<=n) {z z':Nat->Int} {D D':Int} (hD:0 < D) (hD':0 < D') {b:Nat->Int} (hz':∀ r,r < n->az (λl=>A r l * z' l) n=D' * b r) {s:Nat->Int} (hs:∀ r,r < n->0<=s r) (hz:∀ r,r < n->az (λl=>A r l * z l) n=D * b r+s r) (hsome:∃ r,r < n/\0 < s r):Bet n z D z' D':=by
 have hy:∀ r,r < n->az (λl=>A r l * (D * z' l - D' * z l)) n=-(D' * s r):=λr hr=>by
  rw [gk,hz' r hr,hz r hr]
  grind
 have key:=improve h hn (y:=λl=>D * z' l - D' * z l) (s:=λr=>D' * s r) (λr hr=>wW (wy hD') (hs r hr)) hy
 rcases key with k | ⟨k0,k1⟩
 ·left
  have k':D * z' 0 - D' * z 0 < 0:=k
  omega
 ·have k0':D * z' 0 - D' * z 0=0:=k0
  have all0:∀ r,r < n->D * z' r<=D' * z r:=λr hr=>by
   by_cases e:r=0
   ·subst e; omega
   ·have k1':D * z' r - D' * z r<=0:=k1 r (by omega) hr
    omega
  refine .inr ⟨by omega,all0,?_⟩
  apply yA
  intro hno
  have zero:∀ r,r < n->D * z' r - D' * z r=0:=λr hr=>by
   have a:=all0 r hr
   have:¬ D * z' r < D' * z r:=λq=>hno ⟨r,hr,q⟩
   omega
  obtain ⟨r,hr,sr⟩:=hsome
  have e:=hy r hr
  rw [lP λl hl=>by rw [zero l hl,xN]] at e
  have:=wV hD' sr
  omega
end Bar
set_option Elab.async false
set_option linter.all false
set_option maxRecDepth 100000
namespace Bar
open Tw
theorem kw (k:Nat):nb k 0:=by show (0:Int).natAbs < 2 ^ k; exact Nat.pow_pos (by decide)
theorem ZdZ {Q:bL->Prop} {f:bL->Int} {b B m:Nat} (hf:∀ c,Q c->nb b (f c)):∀ (cs:List bL) (g:List bL->Int),(∀ c∈cs,Q c)->(∀ q:List bL,(∀ c∈q,Q c)->q.length+1<=cs.length->nb B (g q))->nb (b+B+cs.length) (lap f cs g)
 | [],g,_,_=>kw _
 | c::cs,g,hq,hg=>by
  have h1:=bJ (hf c (hq c (by simp))) (hg cs (λx hx=>hq x (v8 _ hx)) (by simp))
  have h2:=ZdZ (m:=m) hf cs (λr=>g (c::r)) (λx hx=>hq x (v8 _ hx)) λq q1 q2=>hg (c::q) (λx hx=>by
   rcases wt.mp hx with rfl | hx
   ·exact hq _ (by simp)
   ·exact q1 x hx) (by simp; omega)
  rw [lap,wl]
  exact aT (fJ h1 h2) (by omega)
noncomputable def ig (b k:Nat):Nat:=1+k * (b+10)
theorem v4 {n b:Nat}:∀ (k:Nat),k<=n->∀ cs:List bL,(∀ c∈cs,∀ r,r < n->nb b (c r))->cs.length<=10->nb (ig b k) (D k cs)
 | 0,_,cs,_,_=>by show (1:Int).natAbs < 2 ^ (1+0 * _); rw [Nat.zero_mul]; decide
 | k+1,hk,cs,hc,hl=>by
  have h:=ZdZ (Q:=λc=>∀ r,r < n->nb b (c r)) (f:=λc=>c k) (b:=b) (B:=ig b k) (m:=0) (λc hc=>hc k (by omega)) cs (D k) hc λq q1 q2=>v4 k (by omega) q q1 (by omega)
  refine aT h ?_
  unfold ig
  rw [yb]
  omega
variable {A:Nat->Nat->Int}
theorem vU:∀ {k:Nat} {c:bL},c∈R A k->∃ l,l < k/\c=col A l
 | 0,c,h=>by cases h
 | k+1,c,h=>by
  rcases wt.mp h with rfl | h
  ·exact ⟨k,by omega,rfl⟩
  ·obtain ⟨l,h1,h2⟩:=vU h
   exact ⟨l,by omega,h2⟩
theorem vV (A:Nat->Nat->Int):∀ k:Nat,(R A k).length=k
 | 0=>rfl
 | k+1=>by rw [R,wl,vV A k]
theorem Zij {Q:bL->Prop} {B:Nat}:∀ (k:Nat) (g:List bL->Int) (l:Nat),(∀ j,j < k->Q (col A j))->(∀ q:List bL,(∀ c∈q,Q c)->q.length+1<=k->nb B (g q))->nb B (eG A k g l)
 | 0,g,l,_,_=>kw _
 | k+1,g,l,hq,hg=>by
  rw [eG]
  split
  ·exact hg _ (λc hc=>by obtain ⟨j,h1,rfl⟩:=vU hc; exact hq j (by omega)) (by rw [vV]; exact wa _)
  ·refine ku (Zij k _ l (λj hj=>hq j (by omega)) λq q1 q2=>hg _ (λc hc=>?_) (by rw [wl]; omega))
   rcases wt.mp hc with rfl | hc
   ·exact hq k (by omega)
   ·exact q1 c hc
theorem ZaK {f:Nat->Int} {b:Nat}:∀ (n:Nat),(∀ l,l < n->nb b (f l))->nb (b+n) (az f n)
 | 0,_=>kw _
 | n+1,h=>by
  rw [az]
  exact aT (dO (ZaK n λl hl=>h l (by omega)) (h n (by omega))) (by omega)
theorem qa {n b:Nat} (hn:n<=9) (hA:∀ i j,i < n->j < n->nb b (A i j)) {k:Nat} (hk:k<=n):nb (ig b 9) (d A k):=by
 have h:=v4 (n:=n) (b:=b) k hk (R A k) (λc hc r hr=>by obtain ⟨j,h1,rfl⟩:=vU hc; exact hA r j hr (by omega)) (by rw [vV]; omega)
 refine aT h ?_
 unfold ig
 have:=y8 (b+10) (show k<=9 by omega)
 omega
theorem Zjc {n b:Nat} (hn:n<=9) (hA:∀ i j,i < n->j < n->nb b (A i j)) {k i:Nat} (hk:k<=n) (hi:i < n) {a:bL} (ha:∀ r,r < n->nb b (a r)):nb (b+ig b 9+11) (M A k i a):=by
 have hs:∀ l,nb (ig b 9) (sol A k a l):=λl=>by
  unfold sol
  refine Zij (Q:=λc=>∀ r,r < n->nb b (c r)) k _ l (λj hj r hr=>hA r j hr (by omega)) λq q1 q2=>?_
  refine aT (v4 (n:=n) (b:=b) k hk (a::q) (λc hc=>?_) (by rw [wl]; omega)) ?_
  ·rcases wt.mp hc with rfl | hc
   ·exact ha
   ·exact q1 c hc
  ·unfold ig
   have:=y8 (b+10) (show k<=9 by omega)
   omega
 unfold M
 split
 ·exact aT (hs i) (by omega)
 ·unfold F
  have h1:=bJ (qa hn hA hk) (ha i hi)
  have h2:=ZaK (f:=λl=>A i l * sol A k a l) (b:=b+ig b 9) k λl hl=>bJ (hA i l hi (by omega)) (hs l)
  exact aT (fJ h1 h2) (by omega)
end Bar
set_option Elab.async false
set_option linter.all false
set_option maxRecDepth 100000
namespace Tw
open L2
end Tw
set_option Elab.async false
set_option linter.all false
set_option maxRecDepth 100000
namespace Tw
open L2
end Tw
set_option Elab.async false
set_option linter.all false
set_option maxRecDepth 100000
namespace Tw
open L2
theorem tZ {h:PyData->Tr (Option PyData)} {p:Int->Bool} {f:Int->Int} {lo hi:Int} (hx:∀ z,lo<=z->z < hi->h (.int z)=.ret (if p z=true then some (.int (f z)) else none)):eU h (aN lo hi)=.ret ((((ak lo (hi - lo).toNat).filter p).map f).map PyData.int):=by
 have key:∀ l:Aj,(∀ z∈l,lo<=z/\z < hi)->eU h (l.map PyData.int)=.ret (((l.filter p).map f).map PyData.int):=by
  intro l
  induction l with
  | nil=>intro _; rfl
  | cons z l ih =>
   intro hz
   have hh:=hz z (by simp)
   rw [wf,eU,hx z hh.1 hh.2,Tr.ret_bind,ih λy hy=>hz y (v8 _ hy),Tr.ret_bind]
   cases hp:p z with
   | true=>rw [zV hp]; rfl
   | false=>rw [List.filter_cons_of_neg (by simp [hp])]; rfl
 unfold aN
 refine key _ λz hz=>?_
 have:=fj hz
 omega
theorem ZhN (l:Aj):aR cR (.list (l.map PyData.int)) (.list [])=.ret (.bool l.isEmpty):=by
 rw [ZgR (ys:=[]) (j3 l) (j3 [])]
 cases l <;> rfl
theorem Zc5 (l:Aj):aR cD (.list (l.map PyData.int)) (.list [])=.ret (.bool (!l.isEmpty)):=by
 rw [ZfW (ys:=[]) (j3 l) (j3 [])]
 cases l <;> rfl
theorem Zld (lo:Int) (n:Nat):ak lo (n+1)=ak lo n++[lo+n]:=by
 rw [mf]
 congr 1
 unfold ak
 simp
noncomputable def lsr (o:Int->Bool):Nat->Int
 | 0=>0
 | n+1=>if o n=true then lsr o n else (n:Int)+1
theorem ZdB {o:Int->Bool}:∀ n:Nat,((ak 0 n).reverse.find? (λk=>!o k)=none/\lsr o n=0)\/∃ k,(ak 0 n).reverse.find? (λk=>!o k)=some k/\lsr o n=k+1/\0<=k/\k < n/\o k=false
 | 0=>.inl ⟨rfl,rfl⟩
 | n+1=>by
  rw [Zld,List.reverse_append]
  have er:([0+(n:Int)]:Aj).reverse=[(n:Int)]:=by simp
  rw [er]
  show (((n:Int)::(ak 0 n).reverse).find? _=none/\_)\/∃ k,((n:Int)::(ak 0 n).reverse).find? _=some k/\_
  unfold lsr
  cases hp:o n with
  | true =>
   rw [List.find?_cons_of_neg (by simp [hp]),if_pos rfl]
   rcases ZdB (o:=o) n with z | ⟨k,a,b,c,d,e⟩
   ·exact .inl z
   ·exact .inr ⟨k,a,b,c,by omega,e⟩
  | false =>
   rw [List.find?_cons_of_pos (by simp [hp]),if_neg (by simp)]
   exact .inr ⟨n,rfl,rfl,by omega,by omega,hp⟩
theorem Zal {p:Ab} {s:Ac} {E:Int->List Sl} {o:Int->Bool} {N:Nat} (hp0:p (E 0)=.ret false) (hp:∀ j:Nat,j < N->p (E (j+1))=.ret (o j)) (hs:∀ j:Nat,j < N->s (E (j+1))=.ret (.next (E j))) :
  ∀ n k:Nat,n<=N->cX p s (n+1+k) (E n)=.ret (.next (E (lsr o n)))
 | 0,k,_=>by
  have e:0+1+k=k+1:=by omega
  rw [e,cX]
  show ((p (E 0)).bind _)=_
  rw [hp0,Tr.ret_bind]
  rfl
 | n+1,k,h=>by
  have e:n+1+1+k=(n+1+k)+1:=by omega
  have ec:(((n+1:Nat):Int))=(n:Int)+1:=by omega
  rw [e,cX,ec,hp n (by omega),Tr.ret_bind]
  unfold lsr
  cases ho:o n with
  | true =>
   rw [if_pos rfl,if_pos rfl,hs n (by omega),Tr.ret_bind]
   exact Zal hp0 hp hs n k (by omega)
  | false =>
   rw [if_neg (by simp),if_neg (by simp)]
noncomputable def dw (g:Int->Int) (top K least k:Int):Bool:=decide (lvl g top K (least+k)=least+k)
noncomputable def cw (g:Int->Int) (top K G x:Int):Bool:=decide (K+g G=(pck g top K x).1)
noncomputable def mks (a b:Int):PyData:=.tuple [.str "marks",.int a,.int b]
noncomputable def mkn (a b:Int):PyData:=.tuple [.str "none",.int a,.int b]
noncomputable def bX (g:Int->Int) (top K least:Int):PyData :=
 match (ak 0 (top - least).toNat).reverse.find? (λk=>!dw g top K least k) with
 | none=>mks least least
 | some l=>match (ak 0 l.toNat).reverse.find? (λk=>!cw g top K (lvl g top K (least+l)) (least+k)) with
  | some k=>mkn (least+k) (least+l)
  | none=>mks (least+l+1) (lvl g top K (least+l))
theorem tL {g:Int->Int} {top K x:Int} (hx:x<=top):lvl g top K x=x ↔ g x=(pck g top K x).1:=by
 unfold lvl
 rcases (eS (g:=g) (K:=K) hx).2.2 with ⟨a,b⟩ | ⟨a,b,c⟩
 ·exact ⟨λ_=>b.symm,λ_=>a⟩
 ·exact ⟨λz=>by omega,λz=>by omega⟩
theorem Zpu {g:Int->Int} {top K x G:Int} (h1:x < G) (h2:G<=top):(K+g G<=g x/\g G=eh ((ak (x+1) (top - x).toNat).map g)) ↔ K+g G=(pck g top K x).1:=by
 have hx:x<=top:=by omega
 have hne:(ak (x+1) (top - x).toNat).map g≠[]:=by
  intro z
  have:=congrArg List.length z
  rw [v7,dU] at this
  simp at this
  omega
 obtain ⟨m1,m2⟩:=oW hne
 obtain ⟨y,hy,ey⟩:=wL.mp m1
 have hy':=fj hy
 obtain ⟨p1,p2⟩:=oG (g:=g) (K:=K) hx
 have hG:∀ z,x < z->z<=top->eh ((ak (x+1) (top - x).toNat).map g)<=g z:=λz z1 z2=>m2 _ (wL.mpr ⟨z,by
  unfold ak
  exact wL.mpr ⟨(z - (x+1)).toNat,wQ.mpr (by omega),by omega⟩,rfl⟩)
 constructor
 ·rintro ⟨a,b⟩
  have:=p2 G h1 h2
  obtain ⟨_,_,z | z⟩:=eS (g:=g) (K:=K) hx
  ·omega
  ·obtain ⟨z1,z2,z3⟩:=z
   have:=hG _ z1 (eS (g:=g) (K:=K) hx).2.1
   omega
 ·intro e
  have a:=p2 y (by omega) (by omega)
  have b:=hG G h1 h2
  rw [<- ey] at b ⊢
  omega
end Tw
set_option Elab.async false
set_option linter.all false
set_option maxRecDepth 100000
namespace Tw
open L2
theorem Zle (n:Nat):(ak 0 (n+1)).reverse=(n:Int)::(ak 0 n).reverse:=by
 unfold ak
 rw [xS,wT,List.reverse_append]
 simp
theorem revf {p:Int->Bool}:∀ n:Nat,((∀ k:Int,0<=k->k < n->p k=false)/\(ak 0 n).reverse.find? p=none)\/∃ l:Int,0<=l/\l < n/\p l=true/\(∀ k:Int,l < k->k < n->p k=false)/\(ak 0 n).reverse.find? p=some l
 | 0=>.inl ⟨λk k0 k1=>by omega,rfl⟩
 | n+1=>by
  rw [Zle]
  cases hp:p n with
  | true=>exact .inr ⟨n,by omega,by omega,hp,λk k0 k1=>by omega,by rw [xL,hp]⟩
  | false =>
   have ef:((n:Int)::(ak 0 n).reverse).find? p=(ak 0 n).reverse.find? p:=by rw [xL,hp]
   rw [ef]
   rcases revf (p:=p) n with ⟨h1,h2⟩ | ⟨l,l0,l1,h1,h2,h3⟩
   ·refine .inl ⟨λk k0 k1=>?_,h2⟩
    by_cases e:k=n
    ·rw [e]; exact hp
    ·exact h1 k k0 (by omega)
   ·refine .inr ⟨l,l0,by omega,h1,λk k0 k1=>?_,h3⟩
    by_cases e:k=n
    ·rw [e]; exact hp
    ·exact h2 k k0 (by omega)
theorem Zdx (g:Int->Int) (top K:Int):lvl g top K top=top:=by unfold lvl; rw [fW]
end Tw
set_option Elab.async false
set_option linter.all false
set_option maxRecDepth 100000
namespace Tw
open L2
noncomputable def dA (p:Int×Int) (x:Int):Int:=if x < p.1 then (if p.2 > x then p.2 else x) else x
noncomputable def cp (g:Int->Int) (K x y:Int):Int:=if x < y then K+g y else g y
end Tw
set_option Elab.async false
set_option linter.all false
set_option maxRecDepth 100000
namespace L2
noncomputable def cy (c:Addr) (at' left:Int):List (aO×V):=[(Sum.inr "cells",.ref c),(Sum.inr "at",.int at'),(Sum.inr "left",.int left)]
theorem nc1:¬ ((Sum.inr ("cells":Str):aO)=(Sum.inr ("at":Str):aO)):=by trivial
theorem nc2:¬ ((Sum.inr ("cells":Str):aO)=(Sum.inr ("left":Str):aO)):=by trivial
theorem tU:¬ ((Sum.inr ("at":Str):aO)=(Sum.inr ("left":Str):aO)):=by trivial
theorem ZlG (c:Addr) (a l:Int):eK (cy c a l) (Sum.inr "cells":aO)=some (.ref c):=jW rfl
theorem ZcH (c:Addr) (a l:Int):eK (cy c a l) (Sum.inr "at":aO)=some (.int a):=by
 unfold cy
 rw [jX nc1,jW rfl]
theorem ZcG (c:Addr) (a l:Int):eK (cy c a l) (Sum.inr "left":aO)=some (.int l):=by
 unfold cy
 rw [jX nc2,jX tU,jW rfl]
theorem ZlF (c:Addr) (a l b:Int):dt (cy c a l) (Sum.inr "at":aO) (.int b)=cy c b l:=by
 have h:((cy c a l).any λkv=>decide (kv.1=(Sum.inr "at":aO)))=true:=by rw [nQ,ZcH]; rfl
 unfold dt
 rw [if_pos h]
 unfold cy
 simp only [wf,xv,if_neg nc1,if_neg (Ne.symm tU),if_true]
theorem ZlE (c:Addr) (a l b:Int):dt (cy c a l) (Sum.inr "left":aO) (.int b)=cy c a b:=by
 have h:((cy c a l).any λkv=>decide (kv.1=(Sum.inr "left":aO)))=true:=by rw [nQ,ZcG]; rfl
 unfold dt
 rw [if_pos h]
 unfold cy
 simp only [wf,xv,if_neg nc2,if_neg tU,if_true]
section
variable {H:Hp} {p c:Addr} {a l b:Int}
theorem p6 (h:H p=some (.dK (cy c a l))):DGet H p (.str "cells") (some (.ref c)):=by
 have q:=DGet.k (k:=(Sum.inr "cells":aO)) h
 rw [ZlG] at q
 exact q
theorem Zoy (h:H p=some (.dK (cy c a l))):DGet H p (.str "at") (some (.int a)):=by
 have q:=DGet.k (k:=(Sum.inr "at":aO)) h
 rw [ZcH] at q
 exact q
theorem uR (h:H p=some (.dK (cy c a l))):DGet H p (.str "left") (some (.int l)):=by
 have q:=DGet.k (k:=(Sum.inr "left":aO)) h
 rw [ZcG] at q
 exact q
theorem Zov (h:H p=some (.dK (cy c a l))):DPut H p (.str "at") (.int b) (upd H p (.dK (cy c b l))):=by
 have q:=DPut.k (k:=(Sum.inr "at":aO)) (v:=V.int b) h (by show 3 < sizeLine; decide)
 rw [ZlF] at q
 exact q
theorem Zh4 (h:H p=some (.dK (cy c a l))):DPut H p (.str "left") (.int b) (upd H p (.dK (cy c a b))):=by
 have q:=DPut.k (k:=(Sum.inr "left":aO)) (v:=V.int b) h (by show 3 < sizeLine; decide)
 rw [ZlE] at q
 exact q
end
structure Pen6 (K:zZ) (H:Hp) (p c:Addr) (ns:Aj) (m:Nat):Prop where
 ex:∃ (k:Nat) (left:Int),H p=some (.dK (cy c k left))/\k<=m/\0<=left
 cells:SqL K H c (ns.map V.int)
 len:ns.length<=63
def ZaQ (K:zZ):Sp:=λvs H Q _=>∃ (p c:Addr) (ns:Aj) (m:Nat) (most:Int),vs=[.ref p,.int most]/\Pen6 K H p c ns m/\m<=500000/\0 < most/\most < 1073741824 /\
 ∀ (r:Int) (H':Hp),0<=r->r < most->Pen6 K H' p c ns (m+1)->Kept p H H'->Q (.int r) H'
def Zki (K:zZ):Sp:=λvs H Q _=>∃ (a:Addr) (ns:Aj),vs=[.ref a]/\SqL K H a (ns.map V.int)/\ns.length<=63 /\
 ∀ (p:Addr) (H':Hp),H p=none->(∃ c,Pen6 K H' p c ns 0)->Same H H'->Q (.ref p) H'
noncomputable def bx (cn:zZ×Addr×Aj):Pk where
 is:=λo G m=>∃ (k:Nat) (left:Int),o=.dK (cy cn.2.1 k left)/\k<=m/\0<=left/\SqL cn.1 G cn.2.1 (cn.2.2.map V.int)/\cn.2.2.length<=63
 mono:=λs ⟨k,left,e,h1,h2,h3,h4⟩=>⟨k,left,e,h1,h2,Same.seq (λb o h=>s b o h) h3,h4⟩
theorem tG {cn:zZ×Addr×Aj}:PkLow (bx cn):=⟨λ⟨_,_,_,_,_,h3,_⟩ _ ⟨k,left,e,h1,h2,_,h4⟩=>⟨k,left,e,h1,h2,h3,h4⟩⟩
theorem Zlq {ι:Type} {X:Cx} {e:List Stmt} {t:ι->TS} (h:∀ i,PSs X e (t i)):PSs X e (λD σ H=>∃ i,t i D σ H):=λpins s σ H D I z=>by
 obtain ⟨i,z⟩:=z
 exact h i pins s σ H D I z
noncomputable def pf:Ad:=λas=>match as with
 | [.pen,.d (.int most)]=>.draw most λr=>.ret (.d (.int r))
 | _=>.fail
theorem Zh2 {as:Ap} {m:Nat} {Z:Nat->Re->Prop} (h:(pf as).ok m Z):∃ most,as=[.pen,.d (.int most)]:=by
 unfold pf at h
 split at h
 ·exact ⟨_,rfl⟩
 ·exact h.elim
theorem Zou {P:Program} {w:World} {K:zZ} {c:Addr×Aj} {mg:Ao} {base:Heap} {x:Str} {k:Nat} {ps:Am} (hp:ps.length=2) (C:Callee P w K mg base x k ps (ZaQ K)):ACal (bx (K,c)) P w K mg base x k ps pf:=by
 refine ⟨?_,λas m Z h=>by obtain ⟨most,rfl⟩:=Zh2 h; exact hp.symm⟩
 obtain ⟨f,fd,F,hm,hk,hb⟩:=C.ex
 refine ⟨f,fd,F.imp λvs H Q E h=>?_,hm,hk,hb⟩
 obtain ⟨hv,pa,m,G,as,wd,ar,z⟩:=h
 obtain ⟨most,rfl⟩:=Zh2 z
 obtain ⟨h1,h2,h3,h4⟩:=z
 cases ar with
 | cons a1 ar =>
  cases ar with
  | cons a2 ar =>
   cases ar
   cases a1
   cases a2 with
   | d d2 =>
    cases d2
    obtain ⟨c,ns⟩:=c
    obtain ⟨o,ho,kk,left,rfl,q1,q2,q3,q4⟩:=wd.pen
    replace q3:SqL K G c (ns.map V.int):=q3
    refine ⟨pa,c,ns,m,most,rfl,⟨⟨kk,left,ho,q1,q2⟩,Same.seq (λb o h=>wd.sub b o h) q3,q4⟩,by omega,h2,h3,λr H' r0 r1 P' K'=>?_⟩
    refine h4 r r0 r1 (.int r) G H' ⟨λ_ _ q=>q,λ_ _ q=>.inl q,λb o e n=>K' b o e n⟩ ⟨λb o e=>K' b o (wd.sub b o e) (λz=>by subst z; rw [wd.gpa] at e; cases e),wd.gpa,?_⟩ (.int r)
    obtain ⟨⟨k2,l2,e2,g1,g2⟩,_,_⟩:=P'
    exact ⟨_,e2,k2,l2,rfl,g1,g2,q3,q4⟩
noncomputable def ZaP:zZ->Sp:=λK vs H Q _=>∃ (a:Addr) (ns:Aj),vs=[.ref a]/\SqL K H a (ns.map V.int)/\ns.length<=63/\∀ H',Q (.bl true) H'
theorem Zne {K:zZ} {D:Ends} {p:Addr} {ns:Aj} {H:Hp} {σ:St} {s:Ac} {n:Nat} (P:∃ c,Pen6 K H p c ns 0) (hσ:σ.length=n+2) (h1:σ[1]?=some (some (.ref p))) (hrt:∀ H',D.rt (.bl true) H')
  (h:(s (.un::.pen::List.replicate n .un)).ok 0 λ_ o=>o=.ret (.d (.bool true))):∃ cn:Addr×Aj,bO (bx (K,cn)) s D σ H:=by
 obtain ⟨c,⟨k,l,e,hk,hl⟩,hc,hn⟩:=P
 obtain ⟨G,gs,gp,gc⟩:∃ G:Hp,(∀ b o,G b=some o->H b=some o)/\G p=none/\SqL K G c (ns.map V.int):=by
  rcases hc with (hc | ⟨o,hc⟩) | hc
  ·refine ⟨λb=>if b=c then H c else none,λb o hb=>?_,?_,.inl (.inl (by simp [hc]))⟩
   ·by_cases hbc:b=c
    ·subst hbc; simpa using hb
    ·simp [hbc] at hb
   ·have:p≠c:=mr e hc (by intro z; cases z)
    exact if_neg this
  ·refine ⟨λb=>if b=c then H c else none,λb o hb=>?_,?_,.inl (.inr ⟨o,by simp [hc]⟩)⟩
   ·by_cases hbc:b=c
    ·subst hbc; simpa using hb
    ·simp [hbc] at hb
   ·have:p≠c:=mr e hc (by intro z; cases z)
    exact if_neg this
  ·exact ⟨λ_=>none,λb o hb=>(by cases hb),rfl,.inr hc⟩
 have key:∀ (i:Nat) (sl:Sl),(Sl.un::.pen::List.replicate n .un)[i]?=some sl->sl=.un\/(i=1/\sl=.pen):=λi sl hi=>by
  match i with
  | 0=>simp at hi; exact .inl hi.symm
  | 1=>simp at hi; exact .inr ⟨rfl,hi.symm⟩
  | i+2 =>
   simp [wN] at hi
   exact .inl hi.2.symm
 refine ⟨(c,ns),p,G,H,0,_,G,⟨⟨gs,gp,?_⟩,.refl,⟨_,e⟩,λi sl hi=>?_,by simp [hσ],λi j xs ys _ hi _=>?_,λi j xs ys _ hi _=>by rcases key i _ hi with z | ⟨_,z⟩ <;> cases z⟩,Tr.ok_mono h λm o ho=>?_⟩
 ·exact ⟨_,e,k,l,rfl,hk,hl,gc,hn⟩
 ·have hlt:i < σ.length:=by
   have:=(we.mp hi).1
   simp at this
   omega
  rcases key i sl hi with rfl | ⟨rfl,rfl⟩
  ·exact ⟨σ[i],by simp [hlt],.un⟩
  ·exact ⟨_,h1,.pen⟩
 ·rcases key i _ hi with z | ⟨_,z⟩ <;> cases z
 ·subst ho
  intro v G H' s' w' d
  cases (show Dn G v (.bool true) from d)
  exact hrt H'
end L2
set_option Elab.async false
set_option linter.all false
set_option maxRecDepth 100000
namespace My
open L2
noncomputable def top (i:Nat):Stmt:=PySem.Challenge.pw_twomarks_k41_marks_for_ever.main.body.getD i (.Pass ⟨0,0,0,0⟩)
noncomputable abbrev Zbw:Stmt:=top 5
abbrev ZqV:Am:=["thing"]
theorem ZkA:FnScope ZqV ["thing"] (aP Zbw):=by trivial
noncomputable abbrev Zbv:Stmt:=top 6
abbrev ZqU:Am:=["thing","lowest","highest"]
theorem Zkz:FnScope ZqU ["thing","lowest","highest"] (aP Zbv):=by trivial
noncomputable abbrev Zbn:Stmt:=top 15
abbrev ZqM:Am:=["shop"]
theorem Zku:FnScope ZqM ["shop"] (aP Zbn):=by trivial
noncomputable abbrev Zby:Stmt:=top 16
abbrev ZqX:Am:=["shop","stock","thing"]
theorem ZkB:FnScope ZqX ["shop","stock","thing"] (aP Zby):=by trivial
noncomputable abbrev sD:Stmt:=top 17
abbrev nF:Am:=["day"]
theorem ZkC:FnScope nF ["day"] (aP sD):=by trivial
noncomputable abbrev Zbq:Stmt:=top 18
abbrev ZqP:Am:=["shop","stock","level"]
theorem Zkw:FnScope ZqP ["shop","stock","level"] (aP Zbq):=by trivial
noncomputable abbrev Zbr:Stmt:=top 19
abbrev ZqQ:Am:=["shop","level","fall"]
theorem Zkx:FnScope ZqQ ["shop","level","fall"] (aP Zbr):=by trivial
noncomputable abbrev ZbC:Stmt:=top 20
abbrev Zq1:Am:=["shop","level","fall","stock","sold_never","held"]
theorem n5:FnScope Zq1 ["shop","level","fall"] (aP ZbC):=by trivial
noncomputable abbrev ZbE:Stmt:=top 22
abbrev Zq3:Am:=["one","other"]
theorem rZ:FnScope Zq3 ["one","other"] (aP ZbE):=by trivial
noncomputable abbrev Zbx:Stmt:=top 23
abbrev ZqW:Am:=["thing","top","bottom"]
theorem rX:FnScope ZqW ["thing"] (aP Zbx):=by trivial
noncomputable abbrev Zbo:Stmt:=top 24
abbrev ZqN:Am:=["top","bottom","divisor"]
theorem rV:FnScope ZqN ["top","bottom"] (aP Zbo):=by trivial
noncomputable abbrev Zbp:Stmt:=top 25
abbrev ZqO:Am:=["one","other"]
theorem Zkv:FnScope ZqO ["one","other"] (aP Zbp):=by trivial
noncomputable abbrev sC:Stmt:=top 27
abbrev nE:Am:=["shop","thing","own"]
theorem Zbj:FnScope nE ["shop","thing"] (aP sC):=by trivial
noncomputable abbrev Zbm:Stmt:=top 28
abbrev ZqL:Am:=["shop","day","level","ahead","scale","total","fall","weight","following"]
theorem j4:FnScope ZqL ["shop","day","level","ahead","scale"] (aP Zbm):=by trivial
noncomputable abbrev ZbD:Stmt:=top 29
abbrev Zq2:Am:=["shop","day","levels","ahead","scale","own_scale","costs","stock","level"]
theorem lY:FnScope Zq2 ["shop","day","levels","ahead","scale"] (aP ZbD):=by trivial
noncomputable abbrev sy:Stmt:=top 31
abbrev qV:Am:=["shop","day","ahead","scale","own_scale"]
theorem Zbi:FnScope qV ["shop","day","ahead","scale"] (aP sy):=by trivial
noncomputable abbrev ZbF:Stmt:=top 32
abbrev Zq4:Am:=["shop","low","by_level","scale","picks","best","stock","own","cost","level"]
theorem iy:FnScope Zq4 ["shop","low","by_level","scale"] (aP ZbF):=by trivial
noncomputable abbrev ZbG:Stmt:=top 33
abbrev Zq5:Am:=["shop","by_level","scale"]
theorem ZkD:FnScope Zq5 ["shop","by_level","scale"] (aP ZbG):=by trivial
noncomputable abbrev ZbA:Stmt:=top 35
abbrev ZqZ:Am:=["shop","by_level","scale","stock","level","at","cost"]
theorem rY:FnScope ZqZ ["shop","by_level","scale","stock","level"] (aP ZbA):=by trivial
noncomputable abbrev Zbt:Stmt:=top 36
abbrev ZqS:Am:=["shop","by_level","scale","least","picks","lesser","greater","stock"]
theorem j6:FnScope ZqS ["shop","by_level","scale","least"] (aP Zbt):=by trivial
noncomputable abbrev ZbH:Stmt:=top 38
abbrev Zq6:Am:=["shop","one"]
theorem ZkE:FnScope Zq6 ["shop","one"] (aP ZbH):=by trivial
noncomputable abbrev ZbB:Stmt:=top 39
abbrev Zq0:Am:=["shop","one","stock","level","row","fall","weight","nothing_ahead","cost"]
theorem j8:FnScope Zq0 ["shop","one","stock","level"] (aP ZbB):=by trivial
noncomputable abbrev og:Stmt:=top 40
abbrev jd:Am:=["rows","before","k","leading","lead","at","many"]
theorem iw:FnScope jd ["rows"] (aP og):=by trivial
noncomputable abbrev sx:Stmt:=top 41
abbrev nC:Am:=["shop","one","levels","found","scale"]
theorem rW:FnScope nC ["shop","one","levels"] (aP sx):=by trivial
noncomputable abbrev sE:Stmt:=top 42
abbrev nG:Am:=["shop","one","levels","mean","worths","scale","picks","better"]
theorem iz:FnScope nG ["shop","one"] (aP sE):=by trivial
noncomputable abbrev sA:Stmt:=top 43
abbrev qX:Am:=["shop","one","mean","worths","scale","levels"]
theorem lX:FnScope qX ["shop","one"] (aP sA):=by trivial
noncomputable abbrev Zbs:Stmt:=top 44
abbrev ZqR:Am:=["shop","one","levels","mean","worths","scale"]
theorem nY:FnScope ZqR ["shop","one","levels"] (aP Zbs):=by trivial
noncomputable abbrev Zbu:Stmt:=top 45
abbrev ZqT:Am:=["shop","one","mean","worths","scale","levels","by_level"]
theorem j7:FnScope ZqT ["shop","one"] (aP Zbu):=by trivial
noncomputable abbrev sv:Stmt:=top 47
abbrev qU:Am:=["shop","day","costs","ahead","scale","own_scale","behind","stock","cost","level"]
theorem j5:FnScope qU ["shop","day","costs","ahead","scale"] (aP sv):=by trivial
noncomputable abbrev sB:Stmt:=top 49
abbrev qY:Am:=["shop","thing"]
theorem Zky:FnScope qY ["shop","thing"] (aP sB):=by trivial
noncomputable abbrev Zbz:Stmt:=top 50
abbrev ZqY:Am:=["shop","thing","mean","worths","levels"]
theorem nZ:FnScope ZqY ["shop","thing"] (aP Zbz):=by trivial
noncomputable abbrev su:Stmt:=top 51
abbrev nA:Am:=["worths","scale","top","bottom"]
theorem lW:FnScope nA ["worths"] (aP su):=by trivial
noncomputable abbrev oh:Stmt:=top 52
abbrev jP:Am:=["shop","one","thing","mean","worths","levels","ahead","scale","costs"]
theorem jn:FnScope jP ["shop","one","thing"] (aP oh):=by trivial
noncomputable abbrev ZbM:Stmt:=top 54
abbrev Zrb:Am:=["_law_script"]
theorem ZkF:FnScope Zrb ["_law_script"] (aP ZbM):=by trivial
noncomputable abbrev ZbP:Stmt:=top 55
abbrev Zre:Am:=["_law_cell","_law_k","_law_prime","_law_one","_law_two"]
theorem n6:FnScope Zre ["_law_cell","_law_k"] (aP ZbP):=by trivial
noncomputable abbrev ZbJ:Stmt:=top 56
abbrev Zq8:Am:=["_law_pen_here","_law_most","_law_found","_law_k","_law_cell"]
theorem lZ:FnScope Zq8 ["_law_pen_here","_law_most"] (aP ZbJ):=by trivial
noncomputable abbrev ZbL:Stmt:=top 57
abbrev Zra:Am:=["_law_pen_here","_law_way"]
theorem Zbk:FnScope Zra ["_law_pen_here"] (aP ZbL):=by trivial
noncomputable abbrev ZbI:Stmt:=top 58
abbrev Zq7:Am:=["_law_pen_here","_law_many","_law_at","_law_found","_law_k"]
theorem sf:FnScope Zq7 ["_law_pen_here","_law_many","_law_at"] (aP ZbI):=by trivial
noncomputable abbrev sG:Stmt:=top 59
abbrev q9:Am:=["_law_pen_here","_law_few","_law_pieces","_law_depth","_law_shop","_law_many"]
theorem l5:FnScope q9 ["_law_pen_here","_law_few"] (aP sG):=by trivial
noncomputable abbrev ZbN:Stmt:=top 60
abbrev Zrc:Am:=["_law_shop","_law_stock","_law_level"]
theorem ZkG:FnScope Zrc ["_law_shop","_law_stock","_law_level"] (aP ZbN):=by trivial
noncomputable abbrev ZbO:Stmt:=top 61
abbrev Zrd:Am:=["_law_shop","_law_level","_law_fall"]
theorem ZkH:FnScope Zrd ["_law_shop","_law_level","_law_fall"] (aP ZbO):=by trivial
noncomputable abbrev ZbS:Stmt:=top 62
abbrev Zrh:Am:=["_law_shop","_law_level","_law_fall","_law_rest","_law_lost"]
theorem sj:FnScope Zrh ["_law_shop","_law_level","_law_fall"] (aP ZbS):=by trivial
noncomputable abbrev ZbK:Stmt:=top 63
abbrev Zq9:Am:=["_law_top","_law_bottom","_law_one","_law_other"]
theorem sg:FnScope Zq9 ["_law_top","_law_bottom"] (aP ZbK):=by trivial
noncomputable abbrev sF:Stmt:=top 64
abbrev qZ:Am:=["_law_shop","_law_one","_law_worths","_law_bottom","_law_worth","_law_numbers","_law_found","_law_k","_law_some","_law_level","_law_cost","_law_fall","_law_weight","_law_there"]
theorem eP:FnScope qZ ["_law_shop","_law_one","_law_worths"] (aP sF):=by trivial
noncomputable abbrev l6:Stmt:=top 65
abbrev gO:Am:=["_law_costs_here","_law_least_stock","_law_must","_law_last","_law_best","_law_wrong"]
theorem l4:FnScope gO ["_law_costs_here","_law_least_stock"] (aP l6):=by trivial
noncomputable abbrev ZbR:Stmt:=top 66
abbrev Zrg:Am:=["_law_pen_here","_law_shop","_law_lost","_law_start","_law_small"]
theorem oa:FnScope Zrg ["_law_pen_here","_law_shop"] (aP ZbR):=by trivial
noncomputable abbrev ZbQ:Stmt:=top 67
abbrev Zrf:Am:=["_law_pen_here","_law_more","_law_lost","_law_two","_law_far","_law_top","_law_by","_law_prices"]
theorem iA:FnScope Zrf ["_law_pen_here"] (aP ZbQ):=by trivial
noncomputable abbrev oi:Stmt:=top 68
abbrev qW:Am:=["_law_script","_law_pen_here","_law_turn","_law_way","_law_shop","_law_one","_law_kept","_law_mean","_law_worths","_law_levels","_law_by","_law_some","_law_due_marks","_law_at","_law_other","_law_other_due","_law_falls","_law_told","_law_lesser","_law_greater","_law_rule","_law_stock"]
theorem cP:FnScope qW ["_law_script"] (aP oi):=by trivial
structure Txt (K:zZ) (mg:Ao):Prop where
 dZ:mg "len"=none
 tV:mg "abs"=none
 iK:mg "max"=none
 ky:mg "min"=none
 oU:mg "repr"=none
 mw:mg "int"=none
 Zdc:mg "list"=none
 fK:mg "tuple"=none
 Zmx:mg "bool"=none
 dY:mg "range"=none
 kz:mg "isinstance"=none
 mv:mg "zip"=none
 gC:mg "sum"=none
 Zdd:mg "all"=none
 oV:mg "enumerate"=none
 Zrq:mg "ValueError"=none
 Zda:mg "reversed"=none
 iW:∃ t,mg "TOP"=some (.int 0 t)
 eB:∃ t,mg "DEPTH"=some (.int 1 t)
 uC:∃ t,mg "START"=some (.int 2 t)
 uD:∃ t,mg "PIECE"=some (.int 3 t)
 ZnQ:∃ t,mg "KEEP"=some (.int 4 t)
 ZnP:∃ t,mg "LACK"=some (.int 5 t)
 ZnO:∃ t,mg "LOST"=some (.int 6 t)
 ZoV:Def K mg "is_whole" Zbw ["thing"]
 ZoU:Def K mg "is_whole_within" Zbv ["thing","lowest","highest"]
 ZoC:Def K mg "stocks" Zbn ["shop"]
 ZoY:Def K mg "is_level" Zby ["shop","stock","thing"]
 Zo1:Def K mg "greatest_seen" sD ["day"]
 ZoH:Def K mg "order_cost" Zbq ["shop","stock","level"]
 ZoK:Def K mg "next_stock" Zbr ["shop","level","fall"]
 Zo4:Def K mg "day_cost" ZbC ["shop","level","fall"]
 Zo6:Def K mg "common_divisor" ZbE ["one","other"]
 ZoW:Def K mg "is_share" Zbx ["thing"]
 ZoE:Def K mg "share" Zbo ["top","bottom"]
 ZoG:Def K mg "plus" Zbp ["one","other"]
 ZoX:Def K mg "is_levels" sC ["shop","thing"]
 ZoB:Def K mg "weighed" Zbm ["shop","day","level","ahead","scale"]
 Zo5:Def K mg "costs_by" ZbD ["shop","day","levels","ahead","scale"]
 ZoO:Def K mg "level_sums" sy ["shop","day","ahead","scale"]
 Zo7:Def K mg "cheapest_from" ZbF ["shop","low","by_level","scale"]
 Zo8:Def K mg "cheapest" ZbG ["shop","by_level","scale"]
 Zo0:Def K mg "is_cheapest" ZbA ["shop","by_level","scale","stock","level"]
 ZoN:Def K mg "marks_by" Zbt ["shop","by_level","scale","least"]
 Zpa:Def K mg "ask_lasting" ZbH ["shop","one"]
 Zo3:Def K mg "equation" ZbB ["shop","one","stock","level"]
 ZoD:Def K mg "solved" og ["rows"]
 ZoM:Def K mg "mean_and_worths" sx ["shop","one","levels"]
 Zo9:Def K mg "best_of_all" sE ["shop","one"]
 ZoS:Def K mg "lasting" sA ["shop","one"]
 ZoL:Def K mg "mean_of" Zbs ["shop","one","levels"]
 ZoR:Def K mg "lasting_marks" Zbu ["shop","one"]
 ZoJ:Def K mg "none_less" sv ["shop","day","costs","ahead","scale"]
 ZoT:Def K mg "is_worths" sB ["shop","thing"]
 ZoZ:Def K mg "is_lasting_paper" Zbz ["shop","thing"]
 ZoI:Def K mg "on_one_scale" su ["worths"]
 ZoP:Def K mg "lets_lasting" oh ["shop","one","thing"]
 Zpf:Def K mg "_law_pen" ZbM ["_law_script"]
 Zpi:Def K mg "_law_mixed" ZbP ["_law_cell","_law_k"]
 Zpc:Def K mg "_law_take" ZbJ ["_law_pen_here","_law_most"]
 Zpe:Def K mg "_law_price" ZbL ["_law_pen_here"]
 Zpb:Def K mg "_law_weights" ZbI ["_law_pen_here","_law_many","_law_at"]
 Zpo:Def K mg "_law_case" sG ["_law_pen_here","_law_few"]
 Zpg:Def K mg "_law_order" ZbN ["_law_shop","_law_stock","_law_level"]
 Zph:Def K mg "_law_next" ZbO ["_law_shop","_law_level","_law_fall"]
 Zpm:Def K mg "_law_day" ZbS ["_law_shop","_law_level","_law_fall"]
 Zpd:Def K mg "_law_share" ZbK ["_law_top","_law_bottom"]
 Zpn:Def K mg "_law_costs" sF ["_law_shop","_law_one","_law_worths"]
 Zpj:Def K mg "_law_marks" l6 ["_law_costs_here","_law_least_stock"]
 Zpl:Def K mg "_law_hardly_missed" ZbR ["_law_pen_here","_law_shop"]
 Zpk:Def K mg "_law_hump" ZbQ ["_law_pen_here"]
 ZoQ:Def K mg "law" oi ["_law_script"]
theorem Zpw (ns:Aj) (a:Nat) (h:ns≠[]):∃ z:Int,bz (ns.map V.int) ((a:Int) % ((ns.map V.int).length:Nat))=some (.int z):=by
 have hl:0 < ns.length:=yu.mpr h
 have hl':(ns.map V.int).length=ns.length:=v7 ..
 have e:(a:Int) % ((ns.map V.int).length:Nat)=((a % ns.length:Nat):Int):=by rw [hl']; omega
 have hlt:a % ns.length < ns.length:=Nat.mod_lt _ hl
 rw [e]
 exact ⟨ns[a % ns.length],f7 (by rw [v9,wp hlt]; rfl)⟩
theorem rL {K:zZ} {H:Hp} {p c:Addr} {xs:An} {d:List (aO×V)} {o:HO} (hd:H p=some (.dK d)) (hc:SqL K H c xs):SqL K (upd H p o) c xs:=by
 rcases hc with (hc | ⟨u,hc⟩) | hc
 ·exact .inl (.inl (by rw [bc (mr hc hd (by intro z; cases z))]; exact hc))
 ·exact .inl (.inr ⟨u,by rw [bc (mr hc hd (by intro z; cases z))]; exact hc⟩)
 ·exact .inr hc
def Zkj:Sp:=λvs H Q _=>∃ z a:Int,vs=[.int z,.int a]/\0<=a/\a<=500000/\∀ (r:Int) (H':Hp),Same H H'->Q (.int r) H'
theorem Zlu (a:Int):∃ q:Int,bz [V.int 2147483629,.int 2147483587,.int 2147483579,.int 2147483563,.int 2147483549] (a % 5)=some (.int q)/\0 < q/\q < 2147483648:=by
 have h0:=xX a (show (5:Int)≠0 by decide)
 have h1:=xF a (show (0:Int) < 5 by decide)
 have:a % 5=0\/a % 5=1\/a % 5=2\/a % 5=3\/a % 5=4:=by omega
 rcases this with e | e | e | e | e <;> rw [e]
 ·exact ⟨_,jH,by decide,by decide⟩
 ·exact ⟨_,ng,by decide,by decide⟩
 ·exact ⟨_,qr,by decide,by decide⟩
 ·exact ⟨_,qq,by decide,by decide⟩
 ·exact ⟨_,qp,by decide,by decide⟩
theorem ZjL {z:Int} (h:z ≥ (10:Int) ^ (18:Int).toNat):0<=z:=by
 have e:(10:Int) ^ (18:Int).toNat=1000000000000000000:=by decide
 omega
section
variable {P:Program} {w:World} {K:zZ} {mg:Ao} {base:Heap}
theorem Zmd (T:Txt K mg):Callee P w K mg base "_law_pen" 1 ["_law_script"] (Zki K):=by
 refine T.Zpf.ok ZkF (λvs H Q E h=>?_) (λf cdv A outer s H vs Q E hr h=>?_)
 ·obtain ⟨a,ns,rfl,_⟩:=h
  rfl
 ·obtain ⟨a,ns,rfl,hS,hlen,k⟩:=h
  have hu:=pM hr
  refine ⟨_,(jq (gW (ZlP (tE dX (dJ (Zir) rfl T.Zdc boot_list (bI (ZcJ ZaX (pv 0) ZcE (ZcD cK)) cC)) (tE dX cK (tE dX cK Zlw))) rfl rfl (by simp) (by decide)))),?_⟩
  intro p hp
  have s0:Same H (upd H p (.dK [])):=(Same.refl _).new hp
  refine ⟨_,rfl,63,rfl,a,_,rfl,s0.seq hS,λq hq=>⟨q,_,rfl,Or.inl (SqL.of cA),λc hc=>?_⟩⟩
  have hcut:fN (ns.map V.int) none (some 63)=ns.map V.int:=by
   unfold fN
   have e:HT.aU (ns.map V.int).length (ns.map V.int).length (some 63)=(ns.map V.int).length:=by
    have q:=HT.ZbT (ns.map V.int).length (ns.map V.int).length 63
    rw [v7] at q ⊢
    exact q.trans (Nat.min_eq_right hlen)
   rw [e]
   show ((ns.map V.int).drop 0).take ((ns.map V.int).length - 0)=_
   rw [List.drop_zero,Nat.sub_zero,zq]
  have nqp:q≠p:=λz=>by
   rw [z,cA] at hq
   cases hq
  have ncp:c≠p:=λz=>by
   rw [z,bc (Ne.symm nqp),cA] at hc
   cases hc
  have s1:=s0.new (o:=.lst (fN (ns.map V.int) none (some 63))) hq
  have s2:=s1.new (o:=.lst (fN (ns.map V.int) none (some 63))) hc
  refine ⟨by rw [bc (Ne.symm ncp),bc (Ne.symm nqp),cA],cy c 0 0,rfl,(by show 3<=15; decide),k p _ hp ⟨c,⟨0,0,by rw [cA]; rfl,wa _,wG _⟩,SqL.of ?_,hlen⟩ λb o e=>?_⟩
  ·rw [bc ncp,cA,hcut]
  ·rw [bc (de e hp)]
   exact s2 b o e
theorem Zme (T:Txt K mg):Callee P w K mg base "_law_mixed" 1 ["_law_cell","_law_k"] Zkj:=by
 refine T.Zpi.ok n6 (λvs H Q E h=>?_) (λf cdv A outer s H vs Q E hr h=>?_)
 ·obtain ⟨z,a,rfl,_⟩:=h
  rfl
 ·obtain ⟨z,a,rfl,a0,a1,k⟩:=h
  have hu:=pM hr
  refine ⟨_,(eR (aS (i:=2) n6.nd (oD Zd5 (ZcI (bI cK (bI cK (bI cK (bI cK (bI cK cC)))))) (cz gw (pv 1) cK) (λ_ _=>rfl)))
 (eR (aS (i:=3) n6.nd (cz gw (cz tN (cz iG (cz iG (cz oO (cz gw (pv 0) (pv 2)) (cz iG (cz oO cK (pv 1)) cK)) (cz oO cK (pv 1))) cK) cK) (pv 2)))
 (eR (aS (i:=4) n6.nd (cz gw (cz iG (cz oO (pv 3) (cz iG (cz iG (cz gw (pv 3) cK) (pv 1)) cK)) (cz gw (pv 0) cK)) cK))
 (jq (gW (cz tO (pv 4) cK)))))),?_⟩
  obtain ⟨q,hq,q0,q1⟩:=Zlu a
  refine ⟨by show 5<=sizeLine; decide,λt ht=>?_⟩
  have s1:Same H (upd H t (.tup [.int 2147483629,.int 2147483587,.int 2147483579,.int 2147483563,.int 2147483549])):=(Same.refl _).new ht
  refine ⟨_,rfl,_,_,rfl,rfl,(by show (0:Int) < 5; decide),t,_,_,_,rfl,rfl,SqT.of cA,hq,?_⟩
  generalize upd H t (.tup [.int 2147483629,.int 2147483587,.int 2147483579,.int 2147483563,.int 2147483549])=H1 at s1
  have b0:=xX z (show q≠0 by omega)
  have b1:=xF z q0
  have c0:0<=z % q * (2 * a+3):=wW b0 (by omega)
  have c1:z % q * (2 * a+3)<=2147483648 * 1000003:=yk (by omega) (by omega) (by omega) (by omega)
  refine ⟨_,rfl,_,rfl,_,_,rfl,rfl,q0,_,rfl,_,_,rfl,rfl,.inl ⟨by decide,by decide⟩,_,_,rfl,rfl,_,_,rfl,rfl,.inl ⟨by omega,by omega⟩,_,rfl,_,_,rfl,rfl,.inl ⟨by decide,by decide⟩,_,_,rfl,rfl,_,_,rfl,rfl,_,_,rfl,rfl,⟨by decide,by decide,by omega⟩,_,rfl,_,_,rfl,rfl,q0,?_⟩
  have m0:0<=((z % q * (2 * a+3)+31607 * a+5) ^ (3:Int).toNat) % q:=xX _ (by omega)
  have m1:((z % q * (2 * a+3)+31607 * a+5) ^ (3:Int).toNat) % q < q:=xF _ q0
  generalize hN:((z % q * (2 * a+3)+31607 * a+5) ^ (3:Int).toNat) % q=N at m0 m1
  have d0:=xX N (show (40487:Int)≠0 by decide)
  have d1:=xF N (show (0:Int) < 40487 by decide)
  refine ⟨_,rfl,_,rfl,_,_,rfl,rfl,(by show (0:Int) < 40487; decide),_,rfl,_,_,rfl,rfl,_,_,rfl,rfl,_,_,rfl,rfl,.inl ⟨by omega,by omega⟩,_,rfl,_,_,rfl,rfl,(by show (0:Int) < 65537; decide),_,_,rfl,rfl,_,_,rfl,rfl,(by show (0:Int) < 1073741789; decide),?_⟩
  exact ⟨_,rfl,_,_,rfl,rfl,⟨by decide,by decide⟩,k _ _ s1⟩
theorem Zmg (T:Txt K mg):Callee P w K mg base "_law_take" 2 ["_law_pen_here","_law_most"] (ZaQ K):=by
 refine T.Zpc.ok lZ (λvs H Q E h=>?_) (λf cdv A outer s H vs Q E hr h=>?_)
 ·obtain ⟨p,c,ns,m,most,rfl,_⟩:=h
  rfl
 ·obtain ⟨p,c,ns,m,most,rfl,hP,hm,h0,h1,k⟩:=h
  have hu:=pM hr
  have f_law_mixed:=Zme (P:=P) (w:=w) (K:=K) (mg:=mg) (base:=base) T
  refine ⟨_,(eR (oA (mn gx (iD hu (pv 0) dX (λ_ _=>rfl)) cK (nomark _)) (eR (aS (i:=2) lZ.nd (cz gw (iD hu (pv 0) dX (λ_ _=>rfl)) (pv 1)))
 (eR (tz hu (pv 0) dX (cz tO (iD hu (pv 0) dX (λ_ _=>rfl)) (pv 1)) rfl)
 (jq (gW (pv 2))))) oy)
 (eR (aS (i:=3) lZ.nd (iD hu (pv 0) dX (λ_ _=>rfl)))
 (eR (tz hu (pv 0) dX (cz iG (pv 3) cK) rfl)
 (eR (aS (i:=4) lZ.nd cK)
 (eR (PS.join (oA (mn gx (bj (eI) rfl T.dZ boot_len (bI (iD hu (pv 0) dX (λ_ _=>rfl)) cC)) cK (nomark _)) (jq (aS (i:=4) lZ.nd (oD ut (iD hu (pv 0) dX (λ_ _=>rfl)) (cz gw (pv 3) (bj (eI) rfl T.dZ boot_len (bI (iD hu (pv 0) dX (λ_ _=>rfl)) cC))) (λ_ _=>rfl)))) oy))
 (eR (oA (PT.join (PW.pt (Zcz (mn iE (pv 3) (bj (eI) rfl T.dZ boot_len (bI (iD hu (pv 0) dX (λ_ _=>rfl)) cC)) (nomark _)) (Zcy (mn Zl7 (pv 4) (cz tN cK cK) (nomark _)))))) (eR (tz hu (pv 0) dX (cz tO (pv 4) (pv 1)) rfl)
 (jq (gW (cz gw (pv 4) (pv 1))))) oy)
 (jq (gW (cz gw (oE f_law_mixed (hr.mono (by decide)) rfl (bI (pv 4) (bI (pv 3) cC))) (pv 1)))))))))),?_⟩
  obtain ⟨⟨a,l,hd,ha,hl⟩,hc,hn⟩:=hP
  refine ⟨_,rfl,p,_,rfl,uR hd,_,_,rfl,rfl,_,rfl,?_⟩
  refine pI (λhz=>?_) (λhz=>?_)
  ·refine ⟨_,rfl,p,_,rfl,uR hd,_,rfl,_,_,rfl,rfl,h0,?_⟩
   refine ⟨_,rfl,p,_,rfl,uR hd,_,rfl,_,_,rfl,rfl,⟨h0,h1⟩,_,rfl,p,_,rfl,Zh4 hd,?_⟩
   exact ⟨_,rfl,k _ _ (xX _ (by omega)) (xF _ h0) ⟨⟨a,_,cA,by omega,zF hl (by omega)⟩,rL hd hc,hn⟩ Kept.refl.pen⟩
  ·refine ⟨_,rfl,p,_,rfl,Zoy hd,?_⟩
   refine ⟨_,rfl,_,_,rfl,rfl,_,rfl,p,_,rfl,Zov hd,?_⟩
   have hd1:(upd H p (.dK (cy c ((a:Int)+1) l))) p=some (.dK (cy c ((a+1:Nat):Int) l)):=by
    rw [cA]
    rfl
   have hc1:SqL K (upd H p (.dK (cy c ((a:Int)+1) l))) c (ns.map V.int):=rL hd hc
   have k1:Kept p H (upd H p (.dK (cy c ((a:Int)+1) l))):=Kept.refl.pen
   generalize upd H p (.dK (cy c ((a:Int)+1) l))=H1 at hd1 hc1 k1
   refine ⟨λσ' H'=>∃ (z:Int),σ'=[some (.ref p),some (.int most),none,some (.int a),some (.int z)]/\H'=H1,?_,?_⟩
   ·refine ⟨_,rfl,p,_,rfl,p6 hd1,c,_,rfl,.inl hc1,_,_,rfl,rfl,_,rfl,?_⟩
    refine pI (λhlen=>?_) (λ_=>⟨_,rfl,rfl⟩)
    have hlen':(0:Int) < ((ns.map V.int).length:Nat):=of_decide_eq_true hlen
    have hne':ns≠[]:=by
     rintro rfl
     simp at hlen'
    obtain ⟨z,hz2⟩:=Zpw ns a hne'
    refine ⟨_,rfl,p,_,rfl,p6 hd1,_,rfl,_,rfl,p,_,rfl,p6 hd1,c,_,rfl,.inl hc1,_,_,rfl,rfl,hlen',c,_,_,_,rfl,rfl,hc1,hz2,?_⟩
    exact ⟨z,rfl,rfl⟩
   ·rintro σ2 H2 ⟨z,rfl,rfl⟩
    refine ⟨λb H'=>(b=true->0<=z)/\H'=H2,?_,?_⟩
    ·refine ⟨_,rfl,_,rfl,p,_,rfl,p6 hd1,c,_,rfl,.inl hc1,_,_,rfl,rfl,_,rfl,?_⟩
     refine pI (λ_=>?_) (λ_=>⟨λh=>(by cases h),rfl⟩)
     exact ⟨_,rfl,_,_,rfl,rfl,⟨by decide,by decide,by decide⟩,_,_,rfl,rfl,_,rfl,λh=>ZjL (of_decide_eq_true h),rfl⟩
    ·rintro b H3 ⟨hb0,rfl⟩
     refine pI (λhb=>?_) (λ_=>?_)
     ·refine ⟨_,rfl,_,rfl,_,_,rfl,rfl,⟨h0,h1⟩,_,rfl,p,_,rfl,Zh4 hd1,?_⟩
      refine ⟨_,rfl,_,rfl,_,_,rfl,rfl,h0,?_⟩
      exact k _ _ (xX _ (by omega)) (xF _ h0) ⟨⟨a+1,_,cA,by omega,zF (hb0 hb) (by omega)⟩,rL hd1 hc1,hn⟩ k1.pen
     ·refine ⟨_,rfl,_,rfl,z,a,rfl,by omega,by omega,λr H' s'=>?_⟩
      refine ⟨_,rfl,_,_,rfl,rfl,h0,?_⟩
      exact k _ _ (xX _ (by omega)) (xF _ h0) ⟨⟨a+1,l,s' _ _ hd1,by omega,hl⟩,s'.seq hc1,hn⟩ λb o e n=>s' b o (k1 b o e n)
end
end My
set_option Elab.async false
set_option linter.all false
set_option maxRecDepth 100000
namespace My
open L2
noncomputable section
variable {cn:Addr×Aj} {P:Program} {w:World} {K:zZ} {mg:Ao} {base:Heap}
def kJ:Ad:=bo 1 0
 (bg (jO (jc "int" (aa 0)) (vM (jc "bool" (aa 0)))))
theorem u7 (T:Txt K mg):ACal (bx (K,cn)) P w K mg base "is_whole" 1 ["thing"] kJ:=bD T.ZoV ZkA rfl λf cdv A outer sh H E hr=>by
 exact (aI (bq (nq (lu (T:="int") (.inl rfl) rfl (bj lh rfl T.kz boot_isinstance (bI (ab (pv 0)) (bI (kl (v:=.ty "int") rfl T.mw boot_int rfl) cC)))) (qB (Zqw (lu (T:="bool") (Or.inr (.inl rfl)) rfl (bj lh rfl T.kz boot_isinstance (bI (ab (pv 0)) (bI (kl (v:=.ty "bool") rfl T.Zmx boot_bool rfl) cC)))))))))
def fX:Ad:=bo 1 0
 (bg (vK (ae (ge (ac ao (aa 0) (aC (.int 1)))) (ae (ac aM (ac ao (aa 0) (aC (.int 0))) (aC (.int 1))) am))))
theorem iX (T:Txt K mg):ACal (bx (K,cn)) P w K mg base "stocks" 1 ["shop"] fX:=bD T.ZoC Zku rfl λf cdv A outer sh H E hr=>by
 exact (aI (bq (Zqv (dJ (ZpC hr.hd) rfl T.fK boot_tuple (bI (dJ uY rfl T.dY boot_range (ag (iZ (aF aE aD (ab (pv 0)) (cq rfl T.eB))) (ag (ai aX aW (aF aE aD (ab (pv 0)) (cq rfl T.iW)) al) au))) cC)))))
noncomputable def ml:z9 :=
 (aa 0)
noncomputable def mq:Ab :=
 (bu (ac (cV λi j=>decide (i > j)) (aa 1) (aC (.int 0))))
def pd:Ad:=bo 1 0
 (bg (bb g9 (ae (cf (i9 (lC (aa 0)) 2 [] (bh (aw (ah 0) (aw (ah 1) bf))) mq ml)) am)))
theorem Zp1 (T:Txt K mg):ACal (bx (K,cn)) P w K mg base "greatest_seen" 1 ["day"] pd:=bD T.Zo1 ZkC rfl λf cdv A outer sh H E hr=>by
 exact (aI (bq (bm (t:=aY) (bj (uZ rfl) rfl T.iK boot_max (ag (cW (Zi1 (ZcK nF ["fall","weight"] [] rfl (qA (oC rfl rfl T.oV (ab (pv 0)))) (λb=>(cJ rfl (ba (aL (aK (i:=0) (show ((bN nF ["fall","weight"] [])).Nodup by trivial))) (ba (aL (aK (i:=1) (show ((bN nF ["fall","weight"] [])).Nodup by trivial))) cI)) (aZ (aZ cF)))) (λb=>(ci gx dl (ab (pv 1)) al (nomark _))) (λb=>(ab (pv 0))) rfl (show BlkOk nF (aP sD) _ [] by trivial)) (ke (fF (cQ (by decide)) (fF (cQ (by decide)) kg))))) au)) rl)))
def ju:Ad:=bo 3 0
 (aj (bZ (bu (ac (cV λi j=>decide (i<=j)) (aa 2) (aa 1)))
  (bg (aC (.int 0)))
  bY)
 (bg (ac aM (ac ao (aa 0) (aC (.int 2))) (ac bd (ac ao (aa 0) (aC (.int 3))) (ac bF (aa 2) (aa 1))))))
theorem u4 (T:Txt K mg):ACal (bx (K,cn)) P w K mg base "order_cost" 1 ["shop","stock","level"] ju:=bD T.ZoH Zkw rfl λf cdv A outer sh H E hr=>by
 exact (ap (cH (ci oP dl (ab (pv 2)) (ab (pv 1)) (nomark _))
 (aI (bq al))
 cG)
 (aI (bq (ai aX aW (aF aE aD (ab (pv 0)) (cq rfl T.uC)) (ai bw bv (aF aE aD (ab (pv 0)) (cq rfl T.uD)) (ai cg b6 (ab (pv 2)) (ab (pv 1))))))))
def jv:Ad:=bo 3 0
 (bg (bb iO (ae (ac bF (aa 1) (aa 2)) (ae (ge (ac ao (aa 0) (aC (.int 1)))) am))))
theorem u5 (T:Txt K mg):ACal (bx (K,cn)) P w K mg base "next_stock" 1 ["shop","level","fall"] jv:=bD T.ZoK Zkx rfl λf cdv A outer sh H E hr=>by
 exact (aI (bq (bm (t:=aY) (bj (mY rfl) rfl T.iK boot_max (ag (ai cg b6 (ab (pv 1)) (ab (pv 2))) (ag (iZ (aF aE aD (ab (pv 0)) (cq rfl T.eB))) au))) lL)))
noncomputable def rh:Ab :=
 (f8 (aa 1))
noncomputable def uq:Ac :=
 (jM 0 1 (ae (aa 1) (ae (ac kC (aa 0) (aa 1)) am)))
def kL:Ad:=bo 2 0
 (aj (jM 0 1 (ae (bb lx (ae (aa 0) am)) (ae (bb lx (ae (aa 1) am)) am)))
 (aj (cX rh uq 100000)
 (ga 0)))
theorem u8 (T:Txt K mg):ACal (bx (K,cn)) P w K mg base "common_divisor" 1 ["one","other"] kL:=bD T.Zo6 rZ rfl λf cdv A outer sh H E hr=>by
 exact (ap (qw (oz (i:=0) (j:=1) rfl rZ.nd rfl rfl (by decide) rfl rfl (ag (bm (t:=aY) (bj u3 rfl T.tV boot_abs (ag (ab (pv 0)) au)) rn) (ag (bm (t:=aY) (bj u3 rfl T.tV boot_abs (ag (ab (pv 1)) au)) rn) au)) rfl))
 (ap (qv 100000 wE (ii (ab (pv 1)))
  (aI (qw (oz (i:=0) (j:=1) rfl rZ.nd rfl rfl (by decide) rfl rfl (ag (ab (pv 1)) (ag (ai ZcU Zan (ab (pv 0)) (ab (pv 1))) au)) rfl))))
 (aI (nh (pv 0)))))
noncomputable def Zd2:Ac :=
 (aj (aQ 7 (bA (ae (ac ao (aa 2) (ac bF (aa 6) (aa 1))) (ae (aa 6) am))))
 (aj (di (bh (aw (ah 8) (aw (ah 9) bf))) (bb iL (ae (aa 7) (ae (bA (ae (ac aM (ac bd (aa 3) (ac ao (aa 0) (aC (.int 2)))) (ac ao (aa 5) (aC (.int 0)))) (ae (ac ao (aa 5) (aC (.int 1))) am))) am))))
 (aj (il 4 (bA (ae (ac bF (aa 8) (ac bd (ac bd (aa 3) (ac ao (aa 0) (aC (.int 3)))) (aa 6))) (ae (aa 9) am))))
 (aQ 5 (bb iL (ae (aa 7) (ae (aa 5) am)))))))
def pi:Ad:=bo 4 6
 (aj (gL 4 (dC am))
 (aj (aQ 5 (bA (ae (ac ao (aa 2) (ge (aC (.int 1)))) (ae (ac ao (aa 0) (aC (.int 0))) am))))
 (aj (cZ (qG (ae (aa 1) (ae (ac aM (ac ao (aa 0) (aC (.int 0))) (aC (.int 1))) am))) (ah 6) Zd2)
 (aj (qH 4)
 (ga 4)))))
theorem Zp5 (T:Txt K mg):ACal (bx (K,cn)) P w K mg base "cheapest_from" 1 ["shop","low","by_level","scale"] pi:=bD T.Zo7 iy rfl λf cdv A outer sh H E hr=>by
 exact (ap (jI (aS (i:=4) iy.nd (dR au)))
 (ap (aV (aS (i:=5) iy.nd (bV (ag (aF aE aD (ab (pv 2)) (iZ al)) (ag (aF aE aD (ab (pv 0)) (cq rfl T.iW)) au)))))
 (ap (dD wE rfl (Zi3 (ZcF rfl T.Zda (dJ uY rfl T.dY boot_range (ag (ab (pv 1)) (ag (ai aX aW (aF aE aD (ab (pv 0)) (cq rfl T.iW)) al) au))))) (aL (aK (i:=6) iy.nd))
  (ap (aV (aS (i:=7) iy.nd (bV (ag (aF aE aD (ab (pv 2)) (ai cg b6 (ab (pv 6)) (ab (pv 1)))) (ag (ab (pv 6)) au)))))
 (ap (eY (dI (bm (t:=aY) (bj (Ziq hr rfl) rfl T.ky boot_min (ag (ab (pv 7)) (ag (bV (ag (ai aX aW (ai bw bv (ab (pv 3)) (aF aE aD (ab (pv 0)) (cq rfl T.uC))) (aF aE aD (ab (pv 5)) al)) (ag (aF aE aD (ab (pv 5)) al) au))) au))) Zap) (cJ rfl (ba (aL (aK (i:=8) iy.nd)) (ba (aL (aK (i:=9) iy.nd)) cI)) (aZ (aZ cF)))))
 (ap (lq (iC (kj xj xq xp kA (pv 4) (bI (bV (ag (ai cg b6 (ab (pv 8)) (ai bw bv (ai bw bv (ab (pv 3)) (aF aE aD (ab (pv 0)) (cq rfl T.uD))) (ab (pv 6)))) (ag (ab (pv 9)) au))) cC))))
 (aI (aV (aS (i:=5) iy.nd (bm (t:=aY) (bj (Ziq hr rfl) rfl T.ky boot_min (ag (ab (pv 7)) (ag (ab (pv 5)) au))) Zap))))))))
 (ap (Zqi (iC (ZlT xj PySem.F.slot_list_reverse PySem.F.type_list_reverse ZmD (pv 4))))
 (aI (nh (pv 4)))))))
def mH:Ad:=bo 5 2
 (aj (aQ 5 (ac aM (aa 3) (ac ao (aa 0) (aC (.int 1)))))
 (aj (aQ 6 (ac aM (ac bd (aa 2) (ac ao (aa 0) (aC (.int 2)))) (ac ao (aa 1) (ac aM (aa 4) (ac ao (aa 0) (aC (.int 1)))))))
 (bg (jO (ac (cV λi j=>decide (i<=j)) (aa 6) (ac ao (aa 1) (aa 5))) (ac cR (ac ao (aa 1) (ac aM (aa 4) (ac ao (aa 0) (aC (.int 1))))) (bb iM (ae (i5 (aa 1) (ik (ac aM (aa 5) (aC (.int 1)))) i7) am)))))))
theorem Zp0 (T:Txt K mg):ACal (bx (K,cn)) P w K mg base "is_cheapest" 1 ["shop","by_level","scale","stock","level"] mH:=bD T.Zo0 rY rfl λf cdv A outer sh H E hr=>by
 exact (ap (aV (aS (i:=5) rY.nd (ai aX aW (ab (pv 3)) (aF aE aD (ab (pv 0)) (cq rfl T.eB)))))
 (ap (aV (aS (i:=6) rY.nd (ai aX aW (ai bw bv (ab (pv 2)) (aF aE aD (ab (pv 0)) (cq rfl T.uC))) (aF aE aD (ab (pv 1)) (ai aX aW (ab (pv 4)) (aF aE aD (ab (pv 0)) (cq rfl T.eB)))))))
 (aI (bq (nq (jK oP dl (ab (pv 6)) (aF aE aD (ab (pv 1)) (ab (pv 5))) (nomark _)) (qB (jK (gy hr) gh (aF aE aD (ab (pv 1)) (ai aX aW (ab (pv 4)) (aF aE aD (ab (pv 0)) (cq rfl T.eB)))) (bm (t:=aY) (bj (qg rfl) rfl T.ky boot_min (ag (np (ab (pv 1)) (ni (ai aX aW (ab (pv 5)) al)) nj) au)) nN) (nomark _))))))))
noncomputable def mi:z9 :=
 (ac fr (ac bF (ac bd (aa 3) (aa 0)) (ac bd (aa 4) (aa 1))) (aa 2))
noncomputable def mM:Ac :=
 (bZ (bu (ac cD (aa 5) (aa 2)))
  (aj (aQ 6 (ac ao (jb 0 (aa 5)) (aa 2)))
 (lz 0 (aa 5) (cf (dh (jL (jb 0 (aa 5)) (aa 3)) 2 [1,4,6] (bh (aw (ah 0) (aw (ah 1) bf))) mi))))
  bY)
noncomputable def pA:Ac :=
 (aj (aQ 3 (jb 0 (aa 2)))
 (aj (aQ 4 (ac ao (aa 3) (aa 2)))
 (aj (cZ (f9 (ae (nt c7 (ly 0 aq)) am)) (ah 5) mM)
 (aQ 1 (aa 4)))))
noncomputable def mh:z9 :=
 (ac ao (aa 0) (ge (aC (.int 1))))
def oZ:Ad:=bo 1 6
 (aj (aQ 1 (aC (.int 1)))
 (aj (cZ (f9 (ae (nt c7 (ly 0 aq)) am)) (ah 2) pA)
 (gN 0 (bg (bA (ae (cf (dh (dF (aa 0)) 1 [] (ah 0) mh)) (ae (aa 1) am)))))))
theorem ZpG (T:Txt K mg):v5 (bx (K,cn)) P w K mg base "solved" 1 "rows" oZ:=ZqB T.ZoD iw rfl (by decide) λf cdv A outer sh H E hr=>by
 exact (ap (aV (aS (i:=1) iw.nd al))
 (ap (dD wE rfl (ij (gX rfl T.dY (ag (vH tG (bj eI rfl T.dZ boot_len (vJ (pv 0) vI)) fy) au))) (aL (aK (i:=2) iw.nd))
  (ap (aV (aS (i:=3) iw.nd (qC (ab (pv 2)) (pv 0) (λ_ _=>rfl))))
 (ap (aV (aS (i:=4) iw.nd (aF aE aD (ab (pv 3)) (ab (pv 2)))))
 (ap (dD wE rfl (ij (gX rfl T.dY (ag (vH tG (bj eI rfl T.dZ boot_len (vJ (pv 0) vI)) fy) au))) (aL (aK (i:=5) iw.nd))
  (aI (cH (ci (fH hr) fx (ab (pv 5)) (ab (pv 2)) (nomark _))
  (ap (aV (aS (i:=6) iw.nd (aF aE aD (qC (ab (pv 5)) (pv 0) (λ_ _=>rfl)) (ab (pv 2)))))
 (aI (vp (dI (cW (fP (fG jd ["x","y"] [1,4,6] rfl (no (mo rfl rfl T.mv (qC (ab (pv 5)) (pv 0) (λ_ _=>rfl)) (ab (pv 3)))) (λb=>(cJ rfl (ba (aL (aK (i:=0) (show ((bN jd ["x","y"] [1,4,6])).Nodup by trivial))) (ba (aL (aK (i:=1) (show ((bN jd ["x","y"] [1,4,6])).Nodup by trivial))) cI)) (aZ (aZ cF)))) (λb=>(ai iF ir (ai cg b6 (ai bw bv (ab (pv 3)) (ab (pv 0))) (ai bw bv (ab (pv 4)) (ab (pv 1)))) (ab (pv 2)))) rfl (show BlkOk jd (aP og) _ [1,4,6] by trivial)) (ke (fF (cQ (by decide)) (fF (cQ (by decide)) kg))))) (tK (pv 0) (ab (pv 5)) lU)))))
  cG)))
 (aI (aV (aS (i:=1) iw.nd (ab (pv 4)))))))))
 (aI (lp (k:=0) (bq (bV (ag (cW (fP (fG jd ["row"] [] rfl (e9 (ab (pv 0))) (λb=>(aL (aK (i:=0) (show ((bN jd ["row"] [])).Nodup by trivial)))) (λb=>(aF aE aD (ab (pv 0)) (iZ al))) rfl (show BlkOk jd (aP og) _ [] by trivial)) (cQ (by decide)))) (ag (ab (pv 1)) au))))))))
def mC:Ad:=bo 3 0
 (bg (ac bd (ac aM (ac ao (aa 0) (aC (.int 2))) (ac bd (ac ao (aa 0) (aC (.int 3))) (ac bF (aa 2) (aa 1)))) (bb iU (ae (ac (cV λi j=>decide (i > j)) (aa 2) (aa 1)) am))))
theorem ZpO (T:Txt K mg):ACal (bx (K,cn)) P w K mg base "_law_order" 1 ["_law_shop","_law_stock","_law_level"] mC:=bD T.Zpg ZkG rfl λf cdv A outer sh H E hr=>by
 exact (aI (bq (ai bw bv (ai aX aW (aF aE aD (ab (pv 0)) al) (ai bw bv (aF aE aD (ab (pv 0)) al) (ai cg b6 (ab (pv 2)) (ab (pv 1))))) (bm (t:=aY) (dJ qh rfl T.mw boot_int (ag (jK gx dl (ab (pv 2)) (ab (pv 1)) (nomark _)) au)) nO))))
def o7:Ad:=bo 3 0
 (bg (bb iO (ae (ac bF (aa 1) (aa 2)) (ae (ac bF (aC (.int 0)) (ac ao (aa 0) (aC (.int 1)))) am))))
theorem ZpP (T:Txt K mg):ACal (bx (K,cn)) P w K mg base "_law_next" 1 ["_law_shop","_law_level","_law_fall"] o7:=bD T.Zph ZkH rfl λf cdv A outer sh H E hr=>by
 exact (aI (bq (bm (t:=aY) (bj (mY rfl) rfl T.iK boot_max (ag (ai cg b6 (ab (pv 1)) (ab (pv 2))) (ag (ai cg b6 al (aF aE aD (ab (pv 0)) al)) au))) lL)))
def mF:Ad:=bo 3 2
 (aj (aQ 3 (ac bF (aa 1) (aa 2)))
 (aj (aQ 4 (bb iO (ae (aC (.int 0)) (ae (ac bF (ac bF (aC (.int 0)) (ac ao (aa 0) (aC (.int 1)))) (aa 3)) am))))
 (aj (bZ (bu (ac (cV λi j=>decide (i > j)) (aa 3) (aC (.int 0))))
  (bg (ac bd (ac ao (aa 0) (aC (.int 4))) (aa 3)))
  bY)
 (bg (ac aM (ac bd (ac ao (aa 0) (aC (.int 5))) (ac bF (ac bF (aC (.int 0)) (aa 3)) (aa 4))) (ac bd (ac ao (aa 0) (aC (.int 6))) (aa 4)))))))
theorem ZpS (T:Txt K mg):ACal (bx (K,cn)) P w K mg base "_law_day" 1 ["_law_shop","_law_level","_law_fall"] mF:=bD T.Zpm sj rfl λf cdv A outer sh H E hr=>by
 exact (ap (aV (aS (i:=3) sj.nd (ai cg b6 (ab (pv 1)) (ab (pv 2)))))
 (ap (aV (aS (i:=4) sj.nd (bm (t:=aY) (bj (mY rfl) rfl T.iK boot_max (ag al (ag (ai cg b6 (ai cg b6 al (aF aE aD (ab (pv 0)) al)) (ab (pv 3))) au))) lL)))
 (ap (cH (ci gx dl (ab (pv 3)) al (nomark _))
  (aI (bq (ai bw bv (aF aE aD (ab (pv 0)) al) (ab (pv 3)))))
  cG)
 (aI (bq (ai aX aW (ai bw bv (aF aE aD (ab (pv 0)) al) (ai cg b6 (ai cg b6 al (ab (pv 3))) (ab (pv 4)))) (ai bw bv (aF aE aD (ab (pv 0)) al) (ab (pv 4)))))))))
noncomputable def rg:Ab :=
 (bu (ac (cV λi j=>decide (i > j)) (aa 3) (aC (.int 0))))
noncomputable def uk:Ac :=
 (jM 2 3 (ae (aa 3) (ae (ac kC (aa 2) (aa 3)) am)))
def o6:Ad:=bo 2 2
 (aj (jM 2 3 (ae (bb lx (ae (aa 0) am)) (ae (aa 1) am)))
 (aj (cX rg uk 100000)
 (bg (bA (ae (ac fr (aa 0) (aa 2)) (ae (ac fr (aa 1) (aa 2)) am))))))
theorem ZpN (T:Txt K mg):ACal (bx (K,cn)) P w K mg base "_law_share" 1 ["_law_top","_law_bottom"] o6:=bD T.Zpd sg rfl λf cdv A outer sh H E hr=>by
 exact (ap (qw (oz (i:=2) (j:=3) rfl sg.nd rfl rfl (by decide) rfl rfl (ag (bm (t:=aY) (bj u3 rfl T.tV boot_abs (ag (ab (pv 0)) au)) rn) (ag (ab (pv 1)) au)) rfl))
 (ap (qv 100000 wE (ci gx dl (ab (pv 3)) al (nomark _))
  (aI (qw (oz (i:=2) (j:=3) rfl sg.nd rfl rfl (by decide) rfl rfl (ag (ab (pv 3)) (ag (ai ZcU Zan (ab (pv 2)) (ab (pv 3))) au)) rfl))))
 (aI (bq (bV (ag (ai iF ir (ab (pv 0)) (ab (pv 2))) (ag (ai iF ir (ab (pv 1)) (ab (pv 2))) au)))))))
noncomputable def oq:z9 :=
 (aa 0)
noncomputable def oJ:Ab :=
 (bu (ac cD (ac ao (ac ao (aa 1) (aa 0)) (aC (.int 0))) (bb iM (ae (ac ao (aa 1) (aa 0)) am))))
noncomputable def oo:z9 :=
 (ac aM (aa 1) (aa 0))
noncomputable def oI:Ab :=
 (bu (ac cR (ac ao (ac ao (aa 2) (aa 1)) (aa 0)) (bb iM (ae (ac ao (aa 2) (aa 1)) am))))
noncomputable def om:z9 :=
 (aa 0)
noncomputable def oH:Ab :=
 (bu (ac cD (ac ao (ac ao (aa 1) (aa 0)) (ac bF (ac ao (aa 2) (aC (.int 0))) (aa 0))) (bb iM (ae (ac ao (aa 1) (aa 0)) am))))
def hU:Ad:=bo 2 4
 (aj (aQ 2 (cf (i9 (f9 (ae (bb c7 (ae (aa 0) am)) am)) 1 [0] (ah 0) oJ oq)))
 (aj (bZ (bu (ac cR (aa 2) (cf (dC am))))
  (bg (bA (ae (aC (.str "marks")) (ae (aa 1) (ae (aa 1) am)))))
  bY)
 (aj (aQ 3 (bb g9 (ae (aa 2) am)))
 (aj (aQ 4 (cf (i9 (f9 (ae (bb c7 (ae (ac ao (aa 0) (aa 3)) am)) am)) 1 [3,0] (ah 0) oI oo)))
 (aj (aQ 5 (cf (i9 (f9 (ae (aa 3) am)) 1 [0,4] (ah 0) oH om)))
 (aj (bZ (bu (ac cD (aa 5) (cf (dC am))))
  (bg (bA (ae (aC (.str "none")) (ae (ac aM (aa 1) (bb g9 (ae (aa 5) am))) (ae (ac aM (aa 1) (aa 3)) am)))))
  bY)
 (bg (bA (ae (aC (.str "marks")) (ae (ac aM (ac aM (aa 1) (aa 3)) (aC (.int 1))) (ae (ac aM (aa 1) (ac ao (aa 4) (aC (.int 0)))) am)))))))))))
theorem Ziw (T:Txt K mg):ACal (bx (K,cn)) P w K mg base "_law_marks" 1 ["_law_costs_here","_law_least_stock"] hU:=bD T.Zpj l4 rfl λf cdv A outer sh H E hr=>by
 exact (ap (ZiV (ZcA (i:=2) gO ["_law_k"] [0] rfl l4.nd rfl rfl (ij (gX rfl T.dY (ag (bm (t:=aY) (bj eI rfl T.dZ boot_len (ag (ab (pv 0)) au)) fy) au))) (λb=>(aL (aK (i:=0) (show ((bN gO ["_law_k"] [0])).Nodup by trivial)))) (λb=>(ci (fH hr) fx (aF aE aD (aF aE aD (ab (pv 1)) (ab (pv 0))) al) (bm (t:=aY) (bj (qg rfl) rfl T.ky boot_min (ag (aF aE aD (ab (pv 1)) (ab (pv 0))) au)) nN) (nomark _))) (λb=>(ab (pv 0))) rfl (show BlkOk gO (aP l6) _ [0] by trivial) rfl) (cQ (by decide)))
 (ap (cH (ci (gy hr) gh (ab (pv 2)) (cW (dR au)) (nomark _))
  (aI (bq (bV (ag jJ (ag (ab (pv 1)) (ag (ab (pv 1)) au))))))
  cG)
 (ap (aV (aS (i:=3) l4.nd (bm (t:=aY) (bj (uZ rfl) rfl T.iK boot_max (ag (ab (pv 2)) au)) rl)))
 (ap (aV (aS (i:=4) l4.nd (cW (Zi1 (ZcK gO ["_law_at"] [3,0] rfl (ij (gX rfl T.dY (ag (bm (t:=aY) (bj eI rfl T.dZ boot_len (ag (aF aE aD (ab (pv 0)) (ab (pv 3))) au)) fy) au))) (λb=>(aL (aK (i:=0) (show ((bN gO ["_law_at"] [3,0])).Nodup by trivial)))) (λb=>(ci (gy hr) gh (aF aE aD (aF aE aD (ab (pv 2)) (ab (pv 1))) (ab (pv 0))) (bm (t:=aY) (bj (qg rfl) rfl T.ky boot_min (ag (aF aE aD (ab (pv 2)) (ab (pv 1))) au)) nN) (nomark _))) (λb=>(ai aX aW (ab (pv 1)) (ab (pv 0)))) rfl (show BlkOk gO (aP l6) _ [3,0] by trivial)) (cQ (by decide))))))
 (ap (ZiV (ZcA (i:=5) gO ["_law_k"] [0,4] rfl l4.nd rfl rfl (ij (gX rfl T.dY (ag (ab (pv 3)) au))) (λb=>(aL (aK (i:=0) (show ((bN gO ["_law_k"] [0,4])).Nodup by trivial)))) (λb=>(ci (fH hr) fx (aF aE aD (aF aE aD (ab (pv 1)) (ab (pv 0))) (ai cg b6 (aF aE aD (ab (pv 2)) al) (ab (pv 0)))) (bm (t:=aY) (bj (qg rfl) rfl T.ky boot_min (ag (aF aE aD (ab (pv 1)) (ab (pv 0))) au)) nN) (nomark _))) (λb=>(ab (pv 0))) rfl (show BlkOk gO (aP l6) _ [0,4] by trivial) rfl) (cQ (by decide)))
 (ap (cH (ci (fH hr) fx (ab (pv 5)) (cW (dR au)) (nomark _))
  (aI (bq (bV (ag jJ (ag (ai aX aW (ab (pv 1)) (bm (t:=aY) (bj (uZ rfl) rfl T.iK boot_max (ag (ab (pv 5)) au)) rl)) (ag (ai aX aW (ab (pv 1)) (ab (pv 3))) au))))))
  cG)
 (aI (bq (bV (ag jJ (ag (ai aX aW (ai aX aW (ab (pv 1)) (ab (pv 3))) al) (ag (ai aX aW (ab (pv 1)) (aF aE aD (ab (pv 4)) al)) au))))))))))))
def gE:Ad:=bo 3 0
 (bg (jO (ay (av kJ (ad (aa 0) aq))) (qI (cV λi j=>decide (i<=j)) (cV λi j=>decide (i<=j)) (aa 1) (aa 0) (aa 2))))
theorem ZpW (T:Txt K mg):ACal (bx (K,cn)) P w K mg base "is_whole_within" 2 ["thing","lowest","highest"] gE:=bD T.ZoU Zkz rfl λf cdv A outer sh H E hr=>by
 exact (aI (bq (nq (aG (aA (u7 T) hr (af (ab (pv 0)) aB))) (qB (Zqz oP dl oP dl (ab (pv 1)) (ab (pv 0)) (ab (pv 2)))))))
def mI:Ad:=bo 3 3
 (aj (aQ 3 (ay (av jv (ad (aa 0) (ad (aa 1) (ad (aa 2) aq))))))
 (aj (aQ 4 (ac bF (aa 3) (ac bF (aa 1) (aa 2))))
 (aj (aQ 5 (vO (bu (ac (cV λi j=>decide (i > j)) (aa 3) (aC (.int 0)))) (ac bd (ac ao (aa 0) (aC (.int 4))) (aa 3)) (ac bd (ac ao (aa 0) (aC (.int 5))) (ge (aa 3)))))
 (bg (ac aM (aa 5) (ac bd (ac ao (aa 0) (aC (.int 6))) (aa 4)))))))
theorem Zp3 (T:Txt K mg):ACal (bx (K,cn)) P w K mg base "day_cost" 2 ["shop","level","fall"] mI:=bD T.Zo4 n5 rfl λf cdv A outer sh H E hr=>by
 exact (ap (aV (aS (i:=3) n5.nd (aG (aA (u5 T) hr (af (ab (pv 0)) (af (ab (pv 1)) (af (ab (pv 2)) aB)))))))
 (ap (aV (aS (i:=4) n5.nd (ai cg b6 (ab (pv 3)) (ai cg b6 (ab (pv 1)) (ab (pv 2))))))
 (ap (aV (aS (i:=5) n5.nd (Zqy (ci gx dl (ab (pv 3)) al (nomark _)) (ai bw bv (aF aE aD (ab (pv 0)) (cq rfl T.ZnQ)) (ab (pv 3))) (ai bw bv (aF aE aD (ab (pv 0)) (cq rfl T.ZnP)) (iZ (ab (pv 3)))))))
 (aI (bq (ai aX aW (ab (pv 5)) (ai bw bv (aF aE aD (ab (pv 0)) (cq rfl T.ZnO)) (ab (pv 4)))))))))
def gF:Ad:=bo 1 2
 (aj (bZ (i8 (gM (f8 (jc "tuple" (aa 0)))) (bu (ac cD (bb c7 (ae (aa 0) am)) (aC (.int 2)))))
  (bg (aC (.bool false)))
  bY)
 (aj (di (bh (aw (ah 1) (aw (ah 2) bf))) (aa 0))
 (aj (bZ (i8 (gM (f8 (ay (av kJ (ad (aa 1) aq))))) (i8 (gM (f8 (ay (av kJ (ad (aa 2) aq))))) (bu (ac (cV λi j=>decide (i < j)) (aa 2) (aC (.int 1))))))
  (bg (aC (.bool false)))
  bY)
 (bg (ac cR (ay (av kL (ad (aa 1) (ad (aa 2) aq)))) (aC (.int 1)))))))
theorem Ziz (T:Txt K mg):ACal (bx (K,cn)) P w K mg base "is_share" 2 ["thing"] gF:=bD T.ZoW rX rfl λf cdv A outer sh H E hr=>by
 exact (ap (cH (lj (li (iY (ii (lu (T:="tuple") (Or.inr (Or.inr (Or.inr (Or.inr (.inl rfl))))) rfl (bj lh rfl T.kz boot_isinstance (bI (ab (pv 0)) (bI (kl (v:=.ty "tuple") rfl T.fK boot_tuple rfl) cC)))))) (nc (ci (fH hr) fx (bm (t:=aY) (bj eI rfl T.dZ boot_len (ag (ab (pv 0)) au)) fy) al (nomark _)))))
 (aI (bq dS))
 cG)
 (ap (eY (dI (ab (pv 0)) (cJ rfl (ba (aL (aK (i:=1) rX.nd)) (ba (aL (aK (i:=2) rX.nd)) cI)) (aZ (aZ cF)))))
 (ap (cH (lj (li (iY (ii (aG (aA (u7 T) hr (af (ab (pv 1)) aB))))) (li (iY (ii (aG (aA (u7 T) hr (af (ab (pv 2)) aB))))) (nc (ci iE dl (ab (pv 2)) al (nomark _))))))
  (aI (bq dS))
  cG)
 (aI (bq (jK (gy hr) gh (aG (aA (u8 T) hr (af (ab (pv 1)) (af (ab (pv 2)) aB)))) al (nomark _)))))))
def hI:Ad:=bo 2 1
 (aj (bZ (bu (ac cR (aa 1) (aC (.int 0))))
  vN
  bY)
 (aj (aQ 2 (ay (av kL (ad (aa 0) (ad (aa 1) aq)))))
 (aj (bZ (bu (ac (cV λi j=>decide (i < j)) (aa 1) (aC (.int 0))))
  (aQ 2 (ge (aa 2)))
  bY)
 (bg (bA (ae (ac fr (aa 0) (aa 2)) (ae (ac fr (aa 1) (aa 2)) am)))))))
theorem mZ (T:Txt K mg):ACal (bx (K,cn)) P w K mg base "share" 2 ["top","bottom"] hI:=bD T.ZoE rV rfl λf cdv A outer sh H E hr=>by
 exact (ap (cH (ci (gy hr) gh (ab (pv 1)) al (nomark _))
 (aI ZiW)
 cG)
 (ap (aV (aS (i:=2) rV.nd (aG (aA (u8 T) hr (af (ab (pv 0)) (af (ab (pv 1)) aB))))))
 (ap (cH (ci iE dl (ab (pv 1)) al (nomark _))
  (aI (aV (aS (i:=2) rV.nd (iZ (ab (pv 2))))))
  cG)
 (aI (bq (bV (ag (ai iF ir (ab (pv 0)) (ab (pv 2))) (ag (ai iF ir (ab (pv 1)) (ab (pv 2))) au))))))))
def kM:Ad:=bo 3 0
 (i6 (av pi (ad (aa 0) (ad (ge (ac ao (aa 0) (aC (.int 1)))) (ad (aa 1) (ad (aa 2) aq))))))
theorem ZiA (T:Txt K mg):ACal (bx (K,cn)) P w K mg base "cheapest" 2 ["shop","by_level","scale"] kM:=bD T.Zo8 ZkD rfl λf cdv A outer sh H E hr=>by
 exact (aI (ll (aA (Zp5 T) hr (af (ab (pv 0)) (af (iZ (aF aE aD (ab (pv 0)) (cq rfl T.eB))) (af (ab (pv 1)) (af (ab (pv 2)) aB)))))))
def hX:Ad:=bo 2 0
 (bZ (bu (ac (cV λi j=>decide (i < j)) (ay (av pd (ad (aa 1) aq))) (ac aM (ac ao (aa 0) (aC (.int 0))) (ac ao (aa 0) (aC (.int 1))))))
  vN
  bY)
theorem qj (T:Txt K mg):ACal (bx (K,cn)) P w K mg base "ask_lasting" 2 ["shop","one"] hX:=bD T.Zpa ZkE rfl λf cdv A outer sh H E hr=>by
 exact (aI (cH (ci iE dl (aG (aA (Zp1 T) hr (af (ab (pv 1)) aB))) (ai aX aW (aF aE aD (ab (pv 0)) (cq rfl T.iW)) (aF aE aD (ab (pv 0)) (cq rfl T.eB))) (nomark _))
 (aI ZiW)
 cG))
noncomputable def pB:Ac :=
 (lE mQ 1 (ac fr (aa 3) (ay (av kL (ad (aa 1) (ad (aa 3) aq))))))
noncomputable def oj:z9 :=
 (ac bd (aa 0) (ac fr (aa 2) (aa 1)))
def o4:Ad:=bo 1 3
 (aj (aQ 1 (aC (.int 1)))
 (aj (cZ (dF (aa 0)) (bh (aw (ah 2) (aw (ah 3) bf))) pB)
 (bg (bA (ae (cf (dh (dF (aa 0)) 2 [1] (bh (aw (ah 0) (aw (ah 1) bf))) oj)) (ae (aa 1) am))))))
theorem ZpI (T:Txt K mg):ACal (bx (K,cn)) P w K mg base "on_one_scale" 2 ["worths"] o4:=bD T.ZoI lW rfl λf cdv A outer sh H E hr=>by
 exact (ap (aV (aS (i:=1) lW.nd al))
 (ap (dD wE rfl (e9 (ab (pv 0))) (cJ rfl (ba (aL (aK (i:=2) lW.nd)) (ba (aL (aK (i:=3) lW.nd)) cI)) (aZ (aZ cF)))
  (aI (vq Zjs (tD (i:=1) lW.nd rfl (.inr rfl) (ai iF ir (ab (pv 3)) (aG (aA (u8 T) hr (af (ab (pv 1)) (af (ab (pv 3)) aB))))) (pip Znz)))))
 (aI (bq (bV (ag (cW (fP (fG nA ["top","bottom"] [1] rfl (e9 (ab (pv 0))) (λb=>(cJ rfl (ba (aL (aK (i:=0) (show ((bN nA ["top","bottom"] [1])).Nodup by trivial))) (ba (aL (aK (i:=1) (show ((bN nA ["top","bottom"] [1])).Nodup by trivial))) cI)) (aZ (aZ cF)))) (λb=>(ai bw bv (ab (pv 0)) (ai iF ir (ab (pv 2)) (ab (pv 1))))) rfl (show BlkOk nA (aP su) _ [1] by trivial)) (ke (fF (cQ (by decide)) (fF (cQ (by decide)) kg))))) (ag (ab (pv 1)) au)))))))
noncomputable abbrev cr:=pf
theorem cL (T:Txt K mg):ACal (bx (K,cn)) P w K mg base "_law_take" 2 ["_law_pen_here","_law_most"] cr:=Zou rfl (Zmg T)
noncomputable def pF:Ac :=
 (aQ 3 (ac bd (aa 3) (ac ao (aa 4) (aC (.int 1)))))
noncomputable def ou:z9 :=
 (ac bd (ac ao (aa 0) (aC (.int 0))) (ac fr (aa 1) (ac ao (aa 0) (aC (.int 1)))))
noncomputable def pE:Ac :=
 (aj (aQ 13 (ac ao (aa 5) (ac aM (ay (av o7 (ad (aa 0) (ad (aa 9) (ad (aa 11) aq))))) (ac ao (aa 0) (aC (.int 1))))))
 (aQ 10 (ac aM (aa 10) (ac bd (aa 12) (ac aM (ac bd (aa 3) (ay (av mF (ad (aa 0) (ad (aa 9) (ad (aa 11) aq)))))) (aa 13))))))
noncomputable def pD:Ac :=
 (aj (aQ 10 (ac bd (ac bd (bb dm (ae (aa 1) am)) (aa 3)) (ay (av mC (ad (aa 0) (ad (ac bF (aa 7) (ac ao (aa 0) (aC (.int 1)))) (ad (aa 9) aq)))))))
 (aj (cZ (lC (aa 1)) (bh (aw (ah 11) (aw (ah 12) bf))) pE)
 (il 8 (aa 10))))
noncomputable def pC:Ac :=
 (aj (gL 8 (dC am))
 (aj (cZ (lA (ae (ac bF (aa 7) (ac ao (aa 0) (aC (.int 1)))) (ae (ac aM (ac ao (aa 0) (aC (.int 0))) (aC (.int 1))) am))) (ah 9) pD)
 (gN 8 (il 6 (aa 8)))))
def jw:Ad:=bo 3 11
 (aj (aQ 3 (aC (.int 1)))
 (aj (cZ (dF (aa 2)) (ah 4) pF)
 (aj (aQ 5 (cf (dh (dF (aa 2)) 1 [3] (ah 0) ou)))
 (aj (gL 6 (dC am))
 (aj (cZ (f9 (ae (bb c7 (ae (aa 2) am)) am)) (ah 7) pC)
 (ga 6))))))
theorem Zix (T:Txt K mg):ACal (bx (K,cn)) P w K mg base "_law_costs" 2 ["_law_shop","_law_one","_law_worths"] jw:=bD T.Zpn eP rfl λf cdv A outer sh H E hr=>by
 exact (ap (aV (aS (i:=3) eP.nd al))
 (ap (dD wE rfl (e9 (ab (pv 2))) (aL (aK (i:=4) eP.nd))
  (aI (aV (aS (i:=3) eP.nd (ai bw bv (ab (pv 3)) (aF aE aD (ab (pv 4)) al))))))
 (ap (vo (tw (i:=5) qZ ["_law_worth"] [3] rfl eP.nd rfl rfl (e9 (ab (pv 2))) (λb=>(aL (aK (i:=0) (show ((bN qZ ["_law_worth"] [3])).Nodup by trivial)))) (λb=>(ai bw bv (aF aE aD (ab (pv 0)) al) (ai iF ir (ab (pv 1)) (aF aE aD (ab (pv 0)) al)))) rfl (show BlkOk qZ (aP sF) _ [3] by trivial) rfl) (cQ (by decide)))
 (ap (jI (aS (i:=6) eP.nd (dR au)))
 (ap (dD wE rfl (ij (gX rfl T.dY (ag (bm (t:=aY) (bj eI rfl T.dZ boot_len (ag (ab (pv 2)) au)) fy) au))) (aL (aK (i:=7) eP.nd))
  (ap (jI (aS (i:=8) eP.nd (dR au)))
 (ap (dD wE rfl (vC (tJ rfl T.dY (ag (ai cg b6 (ab (pv 7)) (aF aE aD (ab (pv 0)) al)) (ag (ai aX aW (aF aE aD (ab (pv 0)) al) al) au)))) (aL (aK (i:=9) eP.nd))
  (ap (aV (aS (i:=10) eP.nd (ai bw bv (ai bw bv (bm (t:=aY) (bj (gK rfl) rfl T.gC boot_sum (ag (ab (pv 1)) au)) gi) (ab (pv 3))) (aG (aA (ZpO T) hr (af (ab (pv 0)) (af (ai cg b6 (ab (pv 7)) (aF aE aD (ab (pv 0)) al)) (af (ab (pv 9)) aB))))))))
 (ap (dD wE rfl (qA (oC rfl rfl T.oV (ab (pv 1)))) (cJ rfl (ba (aL (aK (i:=11) eP.nd)) (ba (aL (aK (i:=12) eP.nd)) cI)) (aZ (aZ cF)))
  (ap (aV (aS (i:=13) eP.nd (aF aE aD (ab (pv 5)) (ai aX aW (aG (aA (ZpP T) hr (af (ab (pv 0)) (af (ab (pv 9)) (af (ab (pv 11)) aB))))) (aF aE aD (ab (pv 0)) al)))))
 (aI (aV (aS (i:=10) eP.nd (ai aX aW (ab (pv 10)) (ai bw bv (ab (pv 12)) (ai aX aW (ai bw bv (ab (pv 3)) (aG (aA (ZpS T) hr (af (ab (pv 0)) (af (ab (pv 9)) (af (ab (pv 11)) aB)))))) (ab (pv 13))))))))))
 (aI (lq (iC (kj xj xq xp kA (pv 8) (bI (ab (pv 10)) cC))))))))
 (aI (lp (k:=8) (lq (iC (kj xj xq xp kA (pv 6) (bI (ab (pv 8)) cC)))))))))
 (aI (nh (pv 6))))))))
def pb:Ad:=bo 3 0
 (i6 (av gE (ad (aa 2) (ad (aa 1) (ad (ac ao (aa 0) (aC (.int 0))) aq)))))
theorem ZpY (T:Txt K mg):ACal (bx (K,cn)) P w K mg base "is_level" 3 ["shop","stock","thing"] pb:=bD T.ZoY ZkB rfl λf cdv A outer sh H E hr=>by
 exact (aI (ll (aA (ZpW T) hr (af (ab (pv 2)) (af (ab (pv 1)) (af (aF aE aD (ab (pv 0)) (cq rfl T.iW)) aB))))))
def o0:Ad:=bo 2 0
 (i6 (av hI (ad (ac aM (ac bd (ac ao (aa 0) (aC (.int 0))) (ac ao (aa 1) (aC (.int 1)))) (ac bd (ac ao (aa 1) (aC (.int 0))) (ac ao (aa 0) (aC (.int 1))))) (ad (ac bd (ac ao (aa 0) (aC (.int 1))) (ac ao (aa 1) (aC (.int 1)))) aq))))
theorem ZpH (T:Txt K mg):ACal (bx (K,cn)) P w K mg base "plus" 3 ["one","other"] o0:=bD T.ZoG Zkv rfl λf cdv A outer sh H E hr=>by
 exact (aI (ll (aA (mZ T) hr (af (ai aX aW (ai bw bv (aF aE aD (ab (pv 0)) al) (aF aE aD (ab (pv 1)) al)) (ai bw bv (aF aE aD (ab (pv 1)) al) (aF aE aD (ab (pv 0)) al))) (af (ai bw bv (aF aE aD (ab (pv 0)) al) (aF aE aD (ab (pv 1)) al)) aB)))))
noncomputable def Zd1:Ac :=
 (aj (aQ 8 (ac ao (aa 3) (ac aM (ay (av jv (ad (aa 0) (ad (aa 2) (ad (aa 6) aq))))) (ac ao (aa 0) (aC (.int 1))))))
 (lE pL 5 (ac bd (aa 7) (ac aM (ac bd (aa 4) (ay (av mI (ad (aa 0) (ad (aa 2) (ad (aa 6) aq)))))) (aa 8)))))
def jt:Ad:=bo 5 4
 (aj (aQ 5 (aC (.int 0)))
 (aj (cZ (lC (aa 1)) (bh (aw (ah 6) (aw (ah 7) bf))) Zd1)
 (ga 5)))
theorem qi (T:Txt K mg):ACal (bx (K,cn)) P w K mg base "weighed" 3 ["shop","day","level","ahead","scale"] jt:=bD T.ZoB j4 rfl λf cdv A outer sh H E hr=>by
 exact (ap (aV (aS (i:=5) j4.nd al))
 (ap (dD wE rfl (qA (oC rfl rfl T.oV (ab (pv 1)))) (cJ rfl (ba (aL (aK (i:=6) j4.nd)) (ba (aL (aK (i:=7) j4.nd)) cI)) (aZ (aZ cF)))
  (ap (aV (aS (i:=8) j4.nd (aF aE aD (ab (pv 3)) (ai aX aW (aG (aA (u5 T) hr (af (ab (pv 0)) (af (ab (pv 2)) (af (ab (pv 6)) aB))))) (aF aE aD (ab (pv 0)) (cq rfl T.eB))))))
 (aI (vq Zjt (tD (i:=5) j4.nd rfl (.inl rfl) (ai bw bv (ab (pv 7)) (ai aX aW (ai bw bv (ab (pv 4)) (aG (aA (Zp3 T) hr (af (ab (pv 0)) (af (ab (pv 2)) (af (ab (pv 6)) aB)))))) (ab (pv 8)))) (pip ZnA))))))
 (aI (nh (pv 5)))))
noncomputable def nL:Ab :=
 (vQ (bu (ac (cV λi j=>decide (i > j)) (aa 5) (aa 3))) (bu (ac cR (ac ao (ac ao (aa 4) (ac aM (ac bF (aa 5) (aC (.int 1))) (ac ao (aa 0) (aC (.int 1))))) (aC (.int 1))) (ac bF (aa 5) (aC (.int 1))))))
noncomputable def ui:Ac :=
 (lE bF 5 (aC (.int 1)))
noncomputable def kT:Ac :=
 (bZ (gM (f8 (ay (av mH (ad (aa 0) (ad (aa 1) (ad (aa 2) (ad (aa 7) (ad (aa 6) aq)))))))))
  (bg (bA (ae (aC (.str "none")) (ae (aa 7) (ae (ac bF (aa 5) (aC (.int 1))) am)))))
  bY)
def o5:Ad:=bo 4 4
 (aj (aQ 4 (ay (av kM (ad (aa 0) (ad (aa 1) (ad (aa 2) aq))))))
 (aj (aQ 5 (ac ao (aa 0) (aC (.int 0))))
 (aj (cX nL ui 100000)
 (aj (bZ (bu (ac cR (aa 5) (aa 3)))
  (bg (bA (ae (aC (.str "marks")) (ae (aa 3) (ae (aa 3) am)))))
  bY)
 (aj (aQ 6 (ac ao (ac ao (aa 4) (ac aM (ac bF (aa 5) (aC (.int 1))) (ac ao (aa 0) (aC (.int 1))))) (aC (.int 1))))
 (aj (cZ (qG (ae (aa 3) (ae (ac bF (aa 5) (aC (.int 1))) am))) (ah 7) kT)
 (bg (bA (ae (aC (.str "marks")) (ae (aa 5) (ae (aa 6) am)))))))))))
theorem ZpL (T:Txt K mg):ACal (bx (K,cn)) P w K mg base "marks_by" 3 ["shop","by_level","scale","least"] o5:=bD T.ZoN j6 rfl λf cdv A outer sh H E hr=>by
 exact (ap (aV (aS (i:=4) j6.nd (aG (aA (ZiA T) hr (af (ab (pv 0)) (af (ab (pv 1)) (af (ab (pv 2)) aB)))))))
 (ap (aV (aS (i:=5) j6.nd (aF aE aD (ab (pv 0)) (cq rfl T.iW))))
 (ap (qv 100000 wE (lj (Zqd (ci gx dl (ab (pv 5)) (ab (pv 3)) (nomark _)) (Zqc (ci (gy hr) gh (aF aE aD (aF aE aD (ab (pv 4)) (ai aX aW (ai cg b6 (ab (pv 5)) al) (aF aE aD (ab (pv 0)) (cq rfl T.eB)))) al) (ai cg b6 (ab (pv 5)) al) (nomark _)))))
  (aI (vq b6 (tD (i:=5) j6.nd rfl (.inl rfl) al (pip Zny)))))
 (ap (cH (ci (gy hr) gh (ab (pv 5)) (ab (pv 3)) (nomark _))
  (aI (bq (bV (ag jJ (ag (ab (pv 3)) (ag (ab (pv 3)) au))))))
  cG)
 (ap (aV (aS (i:=6) j6.nd (aF aE aD (aF aE aD (ab (pv 4)) (ai aX aW (ai cg b6 (ab (pv 5)) al) (aF aE aD (ab (pv 0)) (cq rfl T.eB)))) al)))
 (ap (dD wE rfl (Zi3 (ZcF rfl T.Zda (dJ uY rfl T.dY boot_range (ag (ab (pv 3)) (ag (ai cg b6 (ab (pv 5)) al) au))))) (aL (aK (i:=7) j6.nd))
  (aI (cH (iY (ii (aG (aA (Zp0 T) hr (af (ab (pv 0)) (af (ab (pv 1)) (af (ab (pv 2)) (af (ab (pv 7)) (af (ab (pv 6)) aB)))))))))
  (aI (bq (bV (ag jJ (ag (ab (pv 7)) (ag (ai cg b6 (ab (pv 5)) al) au))))))
  cG)))
 (aI (bq (bV (ag jJ (ag (ab (pv 5)) (ag (ab (pv 6)) au))))))))))))
noncomputable def tq:z9 :=
 (ay (av gF (ad (aa 0) aq)))
def kI:Ad:=bo 2 0
 (aj (bZ (i8 (gM (f8 (jc "tuple" (aa 1)))) (bu (ac cD (bb c7 (ae (aa 1) am)) (bb c7 (ae (ay (av fX (ad (aa 0) aq))) am)))))
  (bg (aC (.bool false)))
  bY)
 (bg (bb nk (ae (cf (dh (dF (aa 1)) 1 [] (ah 0) tq)) am))))
theorem ZpV (T:Txt K mg):ACal (bx (K,cn)) P w K mg base "is_worths" 3 ["shop","thing"] kI:=bD T.ZoT Zky rfl λf cdv A outer sh H E hr=>by
 exact (ap (cH (lj (li (iY (ii (lu (T:="tuple") (Or.inr (Or.inr (Or.inr (Or.inr (.inl rfl))))) rfl (bj lh rfl T.kz boot_isinstance (bI (ab (pv 1)) (bI (kl (v:=.ty "tuple") rfl T.fK boot_tuple rfl) cC)))))) (nc (ci (fH hr) fx (bm (t:=aY) (bj eI rfl T.dZ boot_len (ag (ab (pv 1)) au)) fy) (bm (t:=aY) (bj eI rfl T.dZ boot_len (ag (aG (aA (iX T) hr (af (ab (pv 0)) aB))) au)) fy) (nomark _)))))
 (aI (bq dS))
 cG)
 (aI (bq (bm (t:=aY) (bj (Zis rfl) rfl T.Zdd boot_all (ag (cW (fP (fG qY ["worth"] [] rfl (e9 (ab (pv 1))) (λb=>(aL (aK (i:=0) (show ((bN qY ["worth"] [])).Nodup by trivial)))) (λb=>(aG (aA (Ziz T) hr (af (ab (pv 0)) aB)))) rfl (show BlkOk qY (aP sB) _ [] by trivial)) (cQ (by decide)))) au)) Zaq))))
def kH:Ad:=bo 1 1
 (aj (aQ 1 (ay (av cr (bC 0 (ad (aC (.int 6)) aq)))))
 (aj (bZ (bu (ac (cV λi j=>decide (i < j)) (aa 1) (aC (.int 4))))
  (bg (ac bd (ay (av cr (bC 0 (ad (aC (.int 10)) aq)))) (bb iU (ae (ac (cV λi j=>decide (i > j)) (aa 1) (aC (.int 0))) am))))
  bY)
 (bg (ac ao (cf (dC (ae (ay (av cr (bC 0 (ad (aC (.int 1000)) aq)))) (ae (ac bF (ac tF (aC (.int 10)) (aC (.int 6))) (ay (av cr (bC 0 (ad (aC (.int 3)) aq))))) am)))) (ac bF (aa 1) (aC (.int 4)))))))
theorem u6 (T:Txt K mg):ACal (bx (K,cn)) P w K mg base "_law_price" 3 ["_law_pen_here"] kH:=bD T.Zpe Zbk rfl λf cdv A outer sh H E hr=>by
 exact (ap (aV (aS (i:=1) Zbk.nd (aG (aA (cL T) hr (ce (pv 0) (af al aB))))))
 (ap (cH (ci iE dl (ab (pv 1)) al (nomark _))
  (aI (bq (ai bw bv (aG (aA (cL T) hr (ce (pv 0) (af al aB)))) (bm (t:=aY) (dJ qh rfl T.mw boot_int (ag (jK gx dl (ab (pv 1)) al (nomark _)) au)) nO))))
  cG)
 (aI (bq (aF aE aD (cW (dR (ag (aG (aA (cL T) hr (ce (pv 0) (af al aB)))) (ag (ai cg b6 (ai tN Zjq al al) (aG (aA (cL T) hr (ce (pv 0) (af al aB))))) au)))) (ai cg b6 (ab (pv 1)) al))))))
noncomputable def uj:Ac :=
 (il 3 (ac ao (cf (dC (ae (aC (.int 0)) (ae (aC (.int 1)) (ae (ay (av cr (bC 0 (ad (aC (.int 10)) aq)))) (ae (ay (av cr (bC 0 (ad (aC (.int 1001)) aq)))) am)))))) (ay (av cr (bC 0 (ad (aC (.int 4)) aq))))))
def kG:Ad:=bo 3 2
 (aj (gL 3 (dC am))
 (aj (cZ (f9 (ae (aa 1) am)) (ah 4) uj)
 (aj (lz 3 (aa 2) (bb iO (ae (aC (.int 1)) (ae (jb 3 (aa 2)) am))))
 (gN 3 (bg (bb eO (ae (aa 3) am)))))))
theorem Ziv (T:Txt K mg):ACal (bx (K,cn)) P w K mg base "_law_weights" 3 ["_law_pen_here","_law_many","_law_at"] kG:=bD T.Zpb sf rfl λf cdv A outer sh H E hr=>by
 exact (ap (jI (aS (i:=3) sf.nd (dR au)))
 (ap (dD wE rfl (ij (gX rfl T.dY (ag (ab (pv 1)) au))) (aL (aK (i:=4) sf.nd))
  (aI (lq (iC (kj xj xq xp kA (pv 3) (bI (aF aE aD (cW (dR (ag al (ag al (ag (aG (aA (cL T) hr (ce (pv 0) (af al aB)))) (ag (aG (aA (cL T) hr (ce (pv 0) (af al aB)))) au)))))) (aG (aA (cL T) hr (ce (pv 0) (af al aB))))) cC))))))
 (ap (vp (dI (bm (t:=aY) (bj (mY rfl) rfl T.iK boot_max (ag al (ag (qC (ab (pv 2)) (pv 3) (λ_ _=>rfl)) au))) lL) (tK (pv 3) (ab (pv 2)) lU)))
 (aI (lp (k:=3) (bq (bm (t:=aY) (dJ jG rfl T.fK boot_tuple (ag (ab (pv 3)) au)) jj)))))))
def mE:Ad:=bo 2 3
 (aj (aQ 2 (ac aM (aC (.int 1)) (ay (av cr (bC 0 (ad (aC (.int 60)) aq))))))
 (aj (aQ 3 (ay (av cr (bC 0 (ad (ac aM (ac bd (aC (.int 2)) (aa 2)) (aC (.int 2))) aq)))))
 (aj (aQ 4 (bA (ae (ay (av cr (bC 0 (ad (aC (.int 4)) aq)))) (ae (ay (av cr (bC 0 (ad (aC (.int 4)) aq)))) (ae (ay (av cr (bC 0 (ad (aC (.int 4)) aq)))) am)))))
 (bg (ac aM (ac aM (ac lw (ac lw (i5 (aa 1) i7 (ik (aC (.int 2)))) (bA (ae (aa 3) am))) (aa 4)) (bA (ae (aa 2) am))) (i5 (aa 1) (ik (aC (.int 7))) i7))))))
theorem ZpR (T:Txt K mg):ACal (bx (K,cn)) P w K mg base "_law_hardly_missed" 3 ["_law_pen_here","_law_shop"] mE:=bD T.Zpl oa rfl λf cdv A outer sh H E hr=>by
 exact (ap (aV (aS (i:=2) oa.nd (ai aX aW al (aG (aA (cL T) hr (ce (pv 0) (af al aB)))))))
 (ap (aV (aS (i:=3) oa.nd (aG (aA (cL T) hr (ce (pv 0) (af (ai aX aW (ai bw bv al (ab (pv 2))) al) aB))))))
 (ap (aV (aS (i:=4) oa.nd (bV (ag (aG (aA (cL T) hr (ce (pv 0) (af al aB)))) (ag (aG (aA (cL T) hr (ce (pv 0) (af al aB)))) (ag (aG (aA (cL T) hr (ce (pv 0) (af al aB)))) au))))))
 (aI (bq (ai aX aW (ai aX aW (ai ZcV Zao (ai ZcV Zao (np (ab (pv 1)) nj (ni al)) (bV (ag (ab (pv 3)) au))) (ab (pv 4))) (bV (ag (ab (pv 2)) au))) (np (ab (pv 1)) (ni al) nj)))))))
noncomputable def tt:z9 :=
 (ay (av pb (ad (aa 2) (ad (aa 0) (ad (aa 1) aq)))))
def kK:Ad:=bo 2 1
 (aj (aQ 2 (ay (av fX (ad (aa 0) aq))))
 (aj (bZ (i8 (gM (f8 (jc "tuple" (aa 1)))) (bu (ac cD (bb c7 (ae (aa 1) am)) (bb c7 (ae (aa 2) am)))))
  (bg (aC (.bool false)))
  bY)
 (bg (bb nk (ae (cf (dh (jL (aa 2) (aa 1)) 2 [0] (bh (aw (ah 0) (aw (ah 1) bf))) tt)) am)))))
theorem ZpX (T:Txt K mg):ACal (bx (K,cn)) P w K mg base "is_levels" 4 ["shop","thing"] kK:=bD T.ZoX Zbj rfl λf cdv A outer sh H E hr=>by
 exact (ap (aV (aS (i:=2) Zbj.nd (aG (aA (iX T) hr (af (ab (pv 0)) aB)))))
 (ap (cH (lj (li (iY (ii (lu (T:="tuple") (Or.inr (Or.inr (Or.inr (Or.inr (.inl rfl))))) rfl (bj lh rfl T.kz boot_isinstance (bI (ab (pv 1)) (bI (kl (v:=.ty "tuple") rfl T.fK boot_tuple rfl) cC)))))) (nc (ci (fH hr) fx (bm (t:=aY) (bj eI rfl T.dZ boot_len (ag (ab (pv 1)) au)) fy) (bm (t:=aY) (bj eI rfl T.dZ boot_len (ag (ab (pv 2)) au)) fy) (nomark _)))))
  (aI (bq dS))
  cG)
 (aI (bq (bm (t:=aY) (bj (Zis rfl) rfl T.Zdd boot_all (ag (cW (fP (fG nE ["stock","level"] [0] rfl (no (mo rfl rfl T.mv (ab (pv 2)) (ab (pv 1)))) (λb=>(cJ rfl (ba (aL (aK (i:=0) (show ((bN nE ["stock","level"] [0])).Nodup by trivial))) (ba (aL (aK (i:=1) (show ((bN nE ["stock","level"] [0])).Nodup by trivial))) cI)) (aZ (aZ cF)))) (λb=>(aG (aA (ZpY T) hr (af (ab (pv 2)) (af (ab (pv 0)) (af (ab (pv 1)) aB)))))) rfl (show BlkOk nE (aP sC) _ [0] by trivial)) (ke (fF (cQ (by decide)) (fF (cQ (by decide)) kg))))) au)) Zaq)))))
noncomputable def uo:Ac :=
 (il 6 (ac aM (ac bd (aa 5) (ay (av ju (ad (aa 0) (ad (aa 7) (ad (aa 8) aq)))))) (ay (av jt (ad (aa 0) (ad (aa 1) (ad (aa 8) (ad (aa 3) (ad (aa 4) aq)))))))))
def ph:Ad:=bo 5 4
 (aj (aQ 5 (ac bd (aa 4) (bb dm (ae (aa 1) am))))
 (aj (gL 6 (dC am))
 (aj (cZ (jL (ay (av fX (ad (aa 0) aq))) (aa 2)) (bh (aw (ah 7) (aw (ah 8) bf))) uo)
 (ga 6))))
theorem Zp4 (T:Txt K mg):ACal (bx (K,cn)) P w K mg base "costs_by" 4 ["shop","day","levels","ahead","scale"] ph:=bD T.Zo5 lY rfl λf cdv A outer sh H E hr=>by
 exact (ap (aV (aS (i:=5) lY.nd (ai bw bv (ab (pv 4)) (bm (t:=aY) (bj (gK rfl) rfl T.gC boot_sum (ag (ab (pv 1)) au)) gi))))
 (ap (jI (aS (i:=6) lY.nd (dR au)))
 (ap (dD wE rfl (no (mo rfl rfl T.mv (aG (aA (iX T) hr (af (ab (pv 0)) aB))) (ab (pv 2)))) (cJ rfl (ba (aL (aK (i:=7) lY.nd)) (ba (aL (aK (i:=8) lY.nd)) cI)) (aZ (aZ cF)))
  (aI (lq (iC (kj xj xq xp kA (pv 6) (bI (ai aX aW (ai bw bv (ab (pv 5)) (aG (aA (u4 T) hr (af (ab (pv 0)) (af (ab (pv 7)) (af (ab (pv 8)) aB)))))) (aG (aA (qi T) hr (af (ab (pv 0)) (af (ab (pv 1)) (af (ab (pv 8)) (af (ab (pv 3)) (af (ab (pv 4)) aB)))))))) cC))))))
 (aI (nh (pv 6))))))
noncomputable def tj:z9 :=
 (ac aM (ac bd (ac bd (aa 5) (ac ao (aa 1) (aC (.int 3)))) (aa 0)) (ay (av jt (ad (aa 1) (ad (aa 2) (ad (aa 0) (ad (aa 3) (ad (aa 4) aq))))))))
def mB:Ad:=bo 4 1
 (aj (aQ 4 (ac bd (aa 3) (bb dm (ae (aa 1) am))))
 (vL (dh (dF (ay (av fX (ad (aa 0) aq)))) 1 [0,1,2,3,4] (ah 0) tj)))
theorem Ziu (T:Txt K mg):ACal (bx (K,cn)) P w K mg base "level_sums" 4 ["shop","day","ahead","scale"] mB:=bD T.ZoO Zbi rfl λf cdv A outer sh H E hr=>by
 exact (ap (aV (aS (i:=4) Zbi.nd (ai bw bv (ab (pv 3)) (bm (t:=aY) (bj (gK rfl) rfl T.gC boot_sum (ag (ab (pv 1)) au)) gi))))
 (aI (Zqj (fP (fG qV ["level"] [0,1,2,3,4] rfl (e9 (aG (aA (iX T) hr (af (ab (pv 0)) aB)))) (λb=>(aL (aK (i:=0) (show ((bN qV ["level"] [0,1,2,3,4])).Nodup by trivial)))) (λb=>(ai aX aW (ai bw bv (ai bw bv (ab (pv 5)) (aF aE aD (ab (pv 1)) (cq rfl T.uD))) (ab (pv 0))) (aG (aA (qi T) hr (af (ab (pv 1)) (af (ab (pv 2)) (af (ab (pv 0)) (af (ab (pv 3)) (af (ab (pv 4)) aB))))))))) rfl (show BlkOk qV (aP sy) _ [0,1,2,3,4] by trivial)) (cQ (by decide))))))
noncomputable def pG:Ac :=
 (jN (λi j=>i - j) 4 (ac aM (ay (av jv (ad (aa 0) (ad (aa 3) (ad (aa 5) aq))))) (ac ao (aa 0) (aC (.int 1)))) (aa 6))
def pe:Ad:=bo 4 5
 (aj (gL 4 (qL kc (cf (dC (ae (aC (.int 0)) am))) (ac aM (ac aM (ac ao (aa 0) (aC (.int 0))) (ac ao (aa 0) (aC (.int 1)))) (aC (.int 1)))))
 (aj (jN (λi j=>i+j) 4 (ac aM (aa 2) (ac ao (aa 0) (aC (.int 1)))) (bb dm (ae (aa 1) am)))
 (aj (cZ (lC (aa 1)) (bh (aw (ah 5) (aw (ah 6) bf))) pG)
 (aj (lz 4 (aC (.int 0)) (bb dm (ae (aa 1) am)))
 (aj (aQ 7 (ac bd (cf (dC (ae (aC (.int 0)) am))) (nt c7 (ly 4 aq))))
 (aj (aQ 8 (ac aM (ac bd (bb dm (ae (aa 1) am)) (ay (av ju (ad (aa 0) (ad (aa 2) (ad (aa 3) aq)))))) (ay (av jt (ad (aa 0) (ad (aa 1) (ad (aa 3) (ad (aa 7) (ad (aC (.int 1)) aq)))))))))
 (gN 4 (bg (ac aM (aa 4) (cf (dC (ae (aa 8) am))))))))))))
theorem Zp2 (T:Txt K mg):ACal (bx (K,cn)) P w K mg base "equation" 4 ["shop","one","stock","level"] pe:=bD T.Zo3 j8 rfl λf cdv A outer sh H E hr=>by
 exact (ap (jI (aS (i:=4) j8.nd (Zqn ZcT Zjo (cW (dR (ag al au))) (ai aX aW (ai aX aW (aF aE aD (ab (pv 0)) (cq rfl T.iW)) (aF aE aD (ab (pv 0)) (cq rfl T.eB))) al))))
 (ap (ZiX (ZcB (pv 4) (ai aX aW (ab (pv 2)) (aF aE aD (ab (pv 0)) (cq rfl T.eB))) Zel (bm (t:=aY) (bj (gK rfl) rfl T.gC boot_sum (ag (ab (pv 1)) au)) gi) Znx lU))
 (ap (dD wE rfl (qA (oC rfl rfl T.oV (ab (pv 1)))) (cJ rfl (ba (aL (aK (i:=5) j8.nd)) (ba (aL (aK (i:=6) j8.nd)) cI)) (aZ (aZ cF)))
  (aI (ZiX (ZcB (pv 4) (ai aX aW (aG (aA (u5 T) hr (af (ab (pv 0)) (af (ab (pv 3)) (af (ab (pv 5)) aB))))) (aF aE aD (ab (pv 0)) (cq rfl T.eB))) Zel (ab (pv 6)) Znw lU))))
 (ap (vp (dI (bm (t:=aY) (bj (gK rfl) rfl T.gC boot_sum (ag (ab (pv 1)) au)) gi) (tK (pv 4) al lU)))
 (ap (aV (aS (i:=7) j8.nd (ai bw bv (cW (dR (ag al au))) (vH tG (bj eI rfl T.dZ boot_len (vJ (pv 4) vI)) fy))))
 (ap (aV (aS (i:=8) j8.nd (ai aX aW (ai bw bv (bm (t:=aY) (bj (gK rfl) rfl T.gC boot_sum (ag (ab (pv 1)) au)) gi) (aG (aA (u4 T) hr (af (ab (pv 0)) (af (ab (pv 2)) (af (ab (pv 3)) aB)))))) (aG (aA (qi T) hr (af (ab (pv 0)) (af (ab (pv 1)) (af (ab (pv 3)) (af (ab (pv 7)) (af al aB))))))))))
 (aI (lp (k:=4) (bq (ai aX aW (ab (pv 4)) (cW (dR (ag (ab (pv 8)) au)))))))))))))
noncomputable def tf:z9 :=
 (ay (av jt (ad (aa 1) (ad (aa 2) (ad (aa 0) (ad (aa 3) (ad (aa 4) aq)))))))
noncomputable def kS:Ac :=
 (bZ (bu (ac (cV λi j=>decide (i < j)) (ac aM (ac bd (aa 5) (ay (av ju (ad (aa 0) (ad (aa 7) (ad (aa 9) aq)))))) (ac ao (aa 6) (ac aM (aa 9) (ac ao (aa 0) (aC (.int 1)))))) (aa 8)))
  (bg (aC (.bool false)))
  bY)
noncomputable def kR:Ac :=
 (cZ (lA (ae (aa 7) (ae (ac aM (ac ao (aa 0) (aC (.int 0))) (aC (.int 1))) am))) (ah 9) kS)
def kE:Ad:=bo 5 5
 (aj (aQ 5 (ac bd (aa 4) (bb dm (ae (aa 1) am))))
 (aj (aQ 6 (cf (dh (dF (ay (av fX (ad (aa 0) aq)))) 1 [0,1,3,4] (ah 0) tf)))
 (aj (cZ (jL (ay (av fX (ad (aa 0) aq))) (aa 2)) (bh (aw (ah 7) (aw (ah 8) bf))) kR)
 (bg (aC (.bool true))))))
theorem ZpJ (T:Txt K mg):ACal (bx (K,cn)) P w K mg base "none_less" 4 ["shop","day","costs","ahead","scale"] kE:=bD T.ZoJ j5 rfl λf cdv A outer sh H E hr=>by
 exact (ap (aV (aS (i:=5) j5.nd (ai bw bv (ab (pv 4)) (bm (t:=aY) (bj (gK rfl) rfl T.gC boot_sum (ag (ab (pv 1)) au)) gi))))
 (ap (vo (tw (i:=6) qU ["level"] [0,1,3,4] rfl j5.nd rfl rfl (e9 (aG (aA (iX T) hr (af (ab (pv 0)) aB)))) (λb=>(aL (aK (i:=0) (show ((bN qU ["level"] [0,1,3,4])).Nodup by trivial)))) (λb=>(aG (aA (qi T) hr (af (ab (pv 1)) (af (ab (pv 2)) (af (ab (pv 0)) (af (ab (pv 3)) (af (ab (pv 4)) aB)))))))) rfl (show BlkOk qU (aP sv) _ [0,1,3,4] by trivial) rfl) (cQ (by decide)))
 (ap (dD wE rfl (no (mo rfl rfl T.mv (aG (aA (iX T) hr (af (ab (pv 0)) aB))) (ab (pv 2)))) (cJ rfl (ba (aL (aK (i:=7) j5.nd)) (ba (aL (aK (i:=8) j5.nd)) cI)) (aZ (aZ cF)))
  (aI (dD wE rfl (vC (tJ rfl T.dY (ag (ab (pv 7)) (ag (ai aX aW (aF aE aD (ab (pv 0)) (cq rfl T.iW)) al) au)))) (aL (aK (i:=9) j5.nd))
  (aI (cH (ci iE dl (ai aX aW (ai bw bv (ab (pv 5)) (aG (aA (u4 T) hr (af (ab (pv 0)) (af (ab (pv 7)) (af (ab (pv 9)) aB)))))) (aF aE aD (ab (pv 6)) (ai aX aW (ab (pv 9)) (aF aE aD (ab (pv 0)) (cq rfl T.eB))))) (ab (pv 8)) (nomark _))
  (aI (bq dS))
  cG)))))
 (aI (bq dS)))))
noncomputable def Zcw:z9 :=
 (ay (av kH (bC 1 aq)))
def mG:Ad:=bo 2 4
 (aj (aQ 2 (ay (av cr (bC 0 (ad (ac ao (cf (dC (ae (aC (.int 8)) (ae (ac aM (aa 1) (aC (.int 1))) am)))) (bb iU (ae (ac (cV λi j=>decide (i > j)) (ay (av cr (bC 0 (ad (aC (.int 8)) aq)))) (aC (.int 0))) am))) aq)))))
 (aj (aQ 3 (ay (av cr (bC 0 (ad (ac aM (aa 2) (aC (.int 1))) aq)))))
 (aj (aQ 4 (ac aM (bA (ae (ac bF (aa 2) (aa 3)) (ae (aa 3) am))) (bb eO (ae (cf (dh (f9 (ae (aC (.int 7)) am)) 1 [0] (ah 0) Zcw)) am))))
 (aj (aQ 5 (ac aM (ac aM (aa 2) (aC (.int 1))) (ay (av cr (bC 0 (ad (ac bF (aC (.int 8)) (aa 2)) aq))))))
 (bg (bA (ae (aa 4) (ae (ay (av kG (bC 0 (ad (aa 5) (ad (ac aM (aa 2) (ay (av cr (bC 0 (ad (ac bF (aa 5) (aa 2)) aq))))) aq))))) am))))))))
theorem ZpT (T:Txt K mg):ACal (bx (K,cn)) P w K mg base "_law_case" 4 ["_law_pen_here","_law_few"] mG:=bD T.Zpo l5 rfl λf cdv A outer sh H E hr=>by
 exact (ap (aV (aS (i:=2) l5.nd (aG (aA (cL T) hr (ce (pv 0) (af (aF aE aD (cW (dR (ag al (ag (ai aX aW (ab (pv 1)) al) au)))) (bm (t:=aY) (dJ qh rfl T.mw boot_int (ag (jK gx dl (aG (aA (cL T) hr (ce (pv 0) (af al aB)))) al (nomark _)) au)) nO)) aB))))))
 (ap (aV (aS (i:=3) l5.nd (aG (aA (cL T) hr (ce (pv 0) (af (ai aX aW (ab (pv 2)) al) aB))))))
 (ap (aV (aS (i:=4) l5.nd (ai aX aW (bV (ag (ai cg b6 (ab (pv 2)) (ab (pv 3))) (ag (ab (pv 3)) au))) (bm (t:=aY) (dJ jG rfl T.fK boot_tuple (ag (cW (fP (fG q9 ["_law_k"] [0] rfl (ij (gX rfl T.dY (ag al au))) (λb=>(aL (aK (i:=0) (show ((bN q9 ["_law_k"] [0])).Nodup by trivial)))) (λb=>(aG (aA (u6 T) hr (ce (pv 1) aB)))) rfl (show BlkOk q9 (aP sG) _ [0] by trivial)) (cQ (by decide)))) au)) jj))))
 (ap (aV (aS (i:=5) l5.nd (ai aX aW (ai aX aW (ab (pv 2)) al) (aG (aA (cL T) hr (ce (pv 0) (af (ai cg b6 al (ab (pv 2))) aB)))))))
 (aI (bq (bV (ag (ab (pv 4)) (ag (aG (aA (Ziv T) hr (ce (pv 0) (af (ab (pv 5)) (af (ai aX aW (ab (pv 2)) (aG (aA (cL T) hr (ce (pv 0) (af (ai cg b6 (ab (pv 5)) (ab (pv 2))) aB))))) aB))))) au)))))))))
def mD:Ad:=bo 1 7
 (aj (aQ 1 (ay (av cr (bC 0 (ad (aC (.int 10)) aq)))))
 (aj (aQ 2 (ay (av cr (bC 0 (ad (aC (.int 10)) aq)))))
 (aj (aQ 3 (ac aM (aC (.int 1)) (ay (av cr (bC 0 (ad (aC (.int 9)) aq))))))
 (aj (aQ 4 (ac aM (aC (.int 1)) (ay (av cr (bC 0 (ad (aC (.int 9)) aq))))))
 (aj (aQ 5 (ac aM (aC (.int 2)) (ay (av cr (bC 0 (ad (aC (.int 5)) aq))))))
 (aj (aQ 6 (ac aM (aC (.int 1)) (ay (av cr (bC 0 (ad (aC (.int 100)) aq))))))
 (aj (aQ 7 (bA (ae (aC (.int 0)) (ae (aC (.int 0)) (ae (ac aM (ac bd (ac aM (aa 2) (aa 1)) (aa 3)) (ac bd (aa 2) (aa 4))) (ae (ac aM (aa 2) (ac bd (aC (.int 2)) (aa 1))) (ae (aa 2) (ae (ay (av kH (bC 0 aq))) (ae (ay (av kH (bC 0 aq))) am)))))))))
 (bg (bA (ae (ac aM (bA (ae (aa 5) (ae (aC (.int 1)) am))) (aa 7)) (ae (ac aM (ac aM (bA (ae (aa 6) (ae (aC (.int 0)) (ae (ac bd (aa 3) (aa 6)) am)))) (ac kd (bA (ae (aC (.int 0)) am)) (ac bF (aa 5) (aC (.int 2))))) (bA (ae (ac bd (aa 4) (aa 6)) am))) am)))))))))))
theorem ZpQ (T:Txt K mg):ACal (bx (K,cn)) P w K mg base "_law_hump" 4 ["_law_pen_here"] mD:=bD T.Zpk iA rfl λf cdv A outer sh H E hr=>by
 exact (ap (aV (aS (i:=1) iA.nd (aG (aA (cL T) hr (ce (pv 0) (af al aB))))))
 (ap (aV (aS (i:=2) iA.nd (aG (aA (cL T) hr (ce (pv 0) (af al aB))))))
 (ap (aV (aS (i:=3) iA.nd (ai aX aW al (aG (aA (cL T) hr (ce (pv 0) (af al aB)))))))
 (ap (aV (aS (i:=4) iA.nd (ai aX aW al (aG (aA (cL T) hr (ce (pv 0) (af al aB)))))))
 (ap (aV (aS (i:=5) iA.nd (ai aX aW al (aG (aA (cL T) hr (ce (pv 0) (af al aB)))))))
 (ap (aV (aS (i:=6) iA.nd (ai aX aW al (aG (aA (cL T) hr (ce (pv 0) (af al aB)))))))
 (ap (aV (aS (i:=7) iA.nd (bV (ag al (ag al (ag (ai aX aW (ai bw bv (ai aX aW (ab (pv 2)) (ab (pv 1))) (ab (pv 3))) (ai bw bv (ab (pv 2)) (ab (pv 4)))) (ag (ai aX aW (ab (pv 2)) (ai bw bv al (ab (pv 1)))) (ag (ab (pv 2)) (ag (aG (aA (u6 T) hr (ce (pv 0) aB))) (ag (aG (aA (u6 T) hr (ce (pv 0) aB))) au))))))))))
 (aI (bq (bV (ag (ai aX aW (bV (ag (ab (pv 5)) (ag al au))) (ab (pv 7))) (ag (ai aX aW (ai aX aW (bV (ag (ab (pv 6)) (ag al (ag (ai bw bv (ab (pv 3)) (ab (pv 6))) au)))) (ai Zl0 Zjp (bV (ag al au)) (ai cg b6 (ab (pv 5)) al))) (bV (ag (ai bw bv (ab (pv 4)) (ab (pv 6))) au))) au))))))))))))
noncomputable def mj:z9 :=
 (ay (av pe (ad (aa 2) (ad (aa 3) (ad (aa 0) (ad (aa 1) aq))))))
def iP:Ad:=bo 3 2
 (aj (di (bh (aw (ah 3) (aw (ah 4) bf))) (ay (vP oZ (dh (jL (ay (av fX (ad (aa 0) aq))) (aa 2)) 2 [0,1] (bh (aw (ah 0) (aw (ah 1) bf))) mj))))
 (bg (bA (ae (ac ao (aa 3) (aC (.int 0))) (ae (ac aM (cf (dC (ae (aC (.int 0)) am))) (i5 (aa 3) (ik (aC (.int 1))) i7)) (ae (aa 4) am))))))
theorem Zit (T:Txt K mg):ACal (bx (K,cn)) P w K mg base "mean_and_worths" 5 ["shop","one","levels"] iP:=bD T.ZoM rW rfl λf cdv A outer sh H E hr=>by
 exact (ap (eY (dI (aG (Zql (ZpG T) (hr.mono (by decide)) rfl (fP (fG nC ["stock","level"] [0,1] rfl (no (mo rfl rfl T.mv (aG (aA (iX T) hr (af (ab (pv 0)) aB))) (ab (pv 2)))) (λb=>(cJ rfl (ba (aL (aK (i:=0) (show ((bN nC ["stock","level"] [0,1])).Nodup by trivial))) (ba (aL (aK (i:=1) (show ((bN nC ["stock","level"] [0,1])).Nodup by trivial))) cI)) (aZ (aZ cF)))) (λb=>(aG (aA (Zp2 T) hr (af (ab (pv 2)) (af (ab (pv 3)) (af (ab (pv 0)) (af (ab (pv 1)) aB))))))) rfl (show BlkOk nC (aP sx) _ [0,1] by trivial)) (ke (fF (cQ (by decide)) (fF (cQ (by decide)) kg)))))) (cJ rfl (ba (aL (aK (i:=3) rW.nd)) (ba (aL (aK (i:=4) rW.nd)) cI)) (aZ (aZ cF)))))
 (aI (bq (bV (ag (aF aE aD (ab (pv 3)) al) (ag (ai aX aW (cW (dR (ag al au))) (np (ab (pv 3)) (ni al) nj)) (ag (ab (pv 4)) au)))))))
def hW:Ad:=bo 2 3
 (aj (bZ (i8 (gM (f8 (jc "tuple" (aa 1)))) (bu (ac cD (bb c7 (ae (aa 1) am)) (aC (.int 3)))))
  (bg (aC (.bool false)))
  bY)
 (aj (di (bh (aw (ah 2) (aw (ah 3) (aw (ah 4) bf)))) (aa 1))
 (bg (jO (ay (av gF (ad (aa 2) aq))) (jO (ay (av kI (ad (aa 0) (ad (aa 3) aq)))) (ay (av kK (ad (aa 0) (ad (aa 4) aq)))))))))
theorem ZpZ (T:Txt K mg):ACal (bx (K,cn)) P w K mg base "is_lasting_paper" 5 ["shop","thing"] hW:=bD T.ZoZ nZ rfl λf cdv A outer sh H E hr=>by
 exact (ap (cH (lj (li (iY (ii (lu (T:="tuple") (Or.inr (Or.inr (Or.inr (Or.inr (.inl rfl))))) rfl (bj lh rfl T.kz boot_isinstance (bI (ab (pv 1)) (bI (kl (v:=.ty "tuple") rfl T.fK boot_tuple rfl) cC)))))) (nc (ci (fH hr) fx (bm (t:=aY) (bj eI rfl T.dZ boot_len (ag (ab (pv 1)) au)) fy) al (nomark _)))))
 (aI (bq dS))
 cG)
 (ap (eY (dI (ab (pv 1)) (cJ rfl (ba (aL (aK (i:=2) nZ.nd)) (ba (aL (aK (i:=3) nZ.nd)) (ba (aL (aK (i:=4) nZ.nd)) cI))) (aZ (aZ (aZ cF))))))
 (aI (bq (nq (aG (aA (Ziz T) hr (af (ab (pv 2)) aB))) (nq (aG (aA (ZpV T) hr (af (ab (pv 0)) (af (ab (pv 3)) aB)))) (qB (aG (aA (ZpX T) hr (af (ab (pv 0)) (af (ab (pv 4)) aB)))))))))))
noncomputable def tu:z9 :=
 (aa 1)
noncomputable def rj:Ab :=
 (bu (aC (.bool true)))
noncomputable def mN:Ac :=
 (aj (di (bh (aw (ah 3) (aw (ah 4) (aw (ah 5) bf)))) (ay (av iP (ad (aa 0) (ad (aa 1) (ad (aa 2) aq))))))
 (aj (aQ 6 (ay (av kM (ad (aa 0) (ad (ay (av mB (ad (aa 0) (ad (aa 1) (ad (aa 4) (ad (aa 5) aq)))))) (ad (ac bd (aa 5) (bb dm (ae (aa 1) am))) aq))))))
 (aj (aQ 7 (cf (dh (dF (aa 6)) 2 [] (bh (aw (ah 0) (aw (ah 1) bf))) tu)))
 (aj (bZ (bu (ac cR (aa 7) (aa 2)))
  (bg (bA (ae (aa 3) (ae (aa 4) (ae (aa 5) (ae (aa 2) am))))))
  bY)
 (aQ 2 (aa 7))))))
def mJ:Ad:=bo 2 6
 (aj (aQ 2 (cf (qJ kN (ae (ay (av fX (ad (aa 0) aq))) am))))
 (cX rj mN 100000))
theorem ZiB (T:Txt K mg):ACal (bx (K,cn)) P w K mg base "best_of_all" 6 ["shop","one"] mJ:=bD T.Zo9 iz rfl λf cdv A outer sh H E hr=>by
 exact (ap (aV (aS (i:=2) iz.nd (cW (Zqo (t:=aY) (dJ Zir rfl T.Zdc boot_list (ag (aG (aA (iX T) hr (af (ab (pv 0)) aB))) au)) Zju))))
 (aI (qv 100000 wE (Zqe dS)
  (ap (eY (dI (aG (aA (Zit T) hr (af (ab (pv 0)) (af (ab (pv 1)) (af (ab (pv 2)) aB))))) (cJ rfl (ba (aL (aK (i:=3) iz.nd)) (ba (aL (aK (i:=4) iz.nd)) (ba (aL (aK (i:=5) iz.nd)) cI))) (aZ (aZ (aZ cF))))))
 (ap (aV (aS (i:=6) iz.nd (aG (aA (ZiA T) hr (af (ab (pv 0)) (af (aG (aA (Ziu T) hr (af (ab (pv 0)) (af (ab (pv 1)) (af (ab (pv 4)) (af (ab (pv 5)) aB)))))) (af (ai bw bv (ab (pv 5)) (bm (t:=aY) (bj (gK rfl) rfl T.gC boot_sum (ag (ab (pv 1)) au)) gi)) aB)))))))
 (ap (vo (tw (i:=7) nG ["cost","level"] [] rfl iz.nd rfl rfl (e9 (ab (pv 6))) (λb=>(cJ rfl (ba (aL (aK (i:=0) (show ((bN nG ["cost","level"] [])).Nodup by trivial))) (ba (aL (aK (i:=1) (show ((bN nG ["cost","level"] [])).Nodup by trivial))) cI)) (aZ (aZ cF)))) (λb=>(ab (pv 1))) rfl (show BlkOk nG (aP sE) _ [] by trivial) rfl) (ke (fF (cQ (by decide)) (fF (cQ (by decide)) kg))))
 (ap (cH (ci (gy hr) gh (ab (pv 7)) (ab (pv 2)) (nomark _))
  (aI (bq (bV (ag (ab (pv 3)) (ag (ab (pv 4)) (ag (ab (pv 5)) (ag (ab (pv 2)) au)))))))
  cG)
 (aI (aV (aS (i:=2) iz.nd (ab (pv 7))))))))))))
def kF:Ad:=bo 3 3
 (aj (lD (ay (av hX (ad (aa 0) (ad (aa 1) aq)))))
 (aj (di (bh (aw (ah 3) (aw (ah 4) (aw (ah 5) bf)))) (ay (av iP (ad (aa 0) (ad (aa 1) (ad (aa 2) aq))))))
 (i6 (av hI (ad (aa 3) (ad (aa 5) aq))))))
theorem ZpK (T:Txt K mg):ACal (bx (K,cn)) P w K mg base "mean_of" 6 ["shop","one","levels"] kF:=bD T.ZoL nY rfl λf cdv A outer sh H E hr=>by
 exact (ap (qx (aG (aA (qj T) hr (af (ab (pv 0)) (af (ab (pv 1)) aB)))))
 (ap (eY (dI (aG (aA (Zit T) hr (af (ab (pv 0)) (af (ab (pv 1)) (af (ab (pv 2)) aB))))) (cJ rfl (ba (aL (aK (i:=3) nY.nd)) (ba (aL (aK (i:=4) nY.nd)) (ba (aL (aK (i:=5) nY.nd)) cI))) (aZ (aZ (aZ cF))))))
 (aI (ll (aA (mZ T) hr (af (ab (pv 3)) (af (ab (pv 5)) aB)))))))
noncomputable def tp:z9 :=
 (ay (av hI (ad (aa 0) (ad (ac bd (aa 1) (bb dm (ae (aa 2) am))) aq))))
noncomputable def tm:z9 :=
 (ay (av o0 (ad (aa 1) (ad (aa 0) aq))))
def gD:Ad:=bo 3 6
 (aj (lD (ay (av hX (ad (aa 0) (ad (aa 1) aq)))))
 (aj (bZ (gM (f8 (ay (av hW (ad (aa 0) (ad (aa 2) aq))))))
  (bg (aC (.bool false)))
  bY)
 (aj (di (bh (aw (ah 3) (aw (ah 4) (aw (ah 5) bf)))) (aa 2))
 (aj (di (bh (aw (ah 6) (aw (ah 7) bf))) (ay (av o4 (ad (aa 4) aq))))
 (aj (aQ 8 (ay (av ph (ad (aa 0) (ad (aa 1) (ad (aa 5) (ad (aa 6) (ad (aa 7) aq))))))))
 (aj (bZ (bu (ac cD (cf (dh (dF (aa 8)) 1 [7,1] (ah 0) tp)) (cf (dh (dF (aa 4)) 1 [3] (ah 0) tm))))
  (bg (aC (.bool false)))
  bY)
 (i6 (av kE (ad (aa 0) (ad (aa 1) (ad (aa 8) (ad (aa 6) (ad (aa 7) aq)))))))))))))
theorem ZpM (T:Txt K mg):ACal (bx (K,cn)) P w K mg base "lets_lasting" 6 ["shop","one","thing"] gD:=bD T.ZoP jn rfl λf cdv A outer sh H E hr=>by
 exact (ap (qx (aG (aA (qj T) hr (af (ab (pv 0)) (af (ab (pv 1)) aB)))))
 (ap (cH (iY (ii (aG (aA (ZpZ T) hr (af (ab (pv 0)) (af (ab (pv 2)) aB))))))
  (aI (bq dS))
  cG)
 (ap (eY (dI (ab (pv 2)) (cJ rfl (ba (aL (aK (i:=3) jn.nd)) (ba (aL (aK (i:=4) jn.nd)) (ba (aL (aK (i:=5) jn.nd)) cI))) (aZ (aZ (aZ cF))))))
 (ap (eY (dI (aG (aA (ZpI T) hr (af (ab (pv 4)) aB))) (cJ rfl (ba (aL (aK (i:=6) jn.nd)) (ba (aL (aK (i:=7) jn.nd)) cI)) (aZ (aZ cF)))))
 (ap (aV (aS (i:=8) jn.nd (aG (aA (Zp4 T) hr (af (ab (pv 0)) (af (ab (pv 1)) (af (ab (pv 5)) (af (ab (pv 6)) (af (ab (pv 7)) aB)))))))))
 (ap (cH (ci (fH hr) fx (cW (fP (fG jP ["cost"] [7,1] rfl (e9 (ab (pv 8))) (λb=>(aL (aK (i:=0) (show ((bN jP ["cost"] [7,1])).Nodup by trivial)))) (λb=>(aG (aA (mZ T) hr (af (ab (pv 0)) (af (ai bw bv (ab (pv 1)) (bm (t:=aY) (bj (gK rfl) rfl T.gC boot_sum (ag (ab (pv 2)) au)) gi)) aB))))) rfl (show BlkOk jP (aP oh) _ [7,1] by trivial)) (cQ (by decide)))) (cW (fP (fG jP ["worth"] [3] rfl (e9 (ab (pv 4))) (λb=>(aL (aK (i:=0) (show ((bN jP ["worth"] [3])).Nodup by trivial)))) (λb=>(aG (aA (ZpH T) hr (af (ab (pv 1)) (af (ab (pv 0)) aB))))) rfl (show BlkOk jP (aP oh) _ [3] by trivial)) (cQ (by decide)))) (nomark _))
  (aI (bq dS))
  cG)
 (aI (ll (aA (ZpJ T) hr (af (ab (pv 0)) (af (ab (pv 1)) (af (ab (pv 8)) (af (ab (pv 6)) (af (ab (pv 7)) aB))))))))))))))
noncomputable def ox:z9 :=
 (ay (av hI (ad (aa 0) (ad (aa 1) aq))))
def iQ:Ad:=bo 2 4
 (aj (lD (ay (av hX (ad (aa 0) (ad (aa 1) aq)))))
 (aj (di (bh (aw (ah 2) (aw (ah 3) (aw (ah 4) (aw (ah 5) bf))))) (ay (av mJ (ad (aa 0) (ad (aa 1) aq)))))
 (bg (bA (ae (ay (av hI (ad (aa 2) (ad (aa 4) aq)))) (ae (bb eO (ae (cf (dh (dF (aa 3)) 1 [4] (ah 0) ox)) am)) (ae (bb eO (ae (aa 5) am)) am)))))))
theorem Ziy (T:Txt K mg):ACal (bx (K,cn)) P w K mg base "lasting" 7 ["shop","one"] iQ:=bD T.ZoS lX rfl λf cdv A outer sh H E hr=>by
 exact (ap (qx (aG (aA (qj T) hr (af (ab (pv 0)) (af (ab (pv 1)) aB)))))
 (ap (eY (dI (aG (aA (ZiB T) hr (af (ab (pv 0)) (af (ab (pv 1)) aB)))) (cJ rfl (ba (aL (aK (i:=2) lX.nd)) (ba (aL (aK (i:=3) lX.nd)) (ba (aL (aK (i:=4) lX.nd)) (ba (aL (aK (i:=5) lX.nd)) cI)))) (aZ (aZ (aZ (aZ cF)))))))
 (aI (bq (bV (ag (aG (aA (mZ T) hr (af (ab (pv 2)) (af (ab (pv 4)) aB)))) (ag (bm (t:=aY) (dJ jG rfl T.fK boot_tuple (ag (cW (fP (fG qX ["worth"] [4] rfl (e9 (ab (pv 3))) (λb=>(aL (aK (i:=0) (show ((bN qX ["worth"] [4])).Nodup by trivial)))) (λb=>(aG (aA (mZ T) hr (af (ab (pv 0)) (af (ab (pv 1)) aB))))) rfl (show BlkOk qX (aP sA) _ [4] by trivial)) (cQ (by decide)))) au)) jj) (ag (bm (t:=aY) (dJ jG rfl T.fK boot_tuple (ag (ab (pv 5)) au)) jj) au))))))))
def o9:Ad:=bo 2 5
 (aj (lD (ay (av hX (ad (aa 0) (ad (aa 1) aq)))))
 (aj (di (bh (aw (ah 2) (aw (ah 3) (aw (ah 4) (aw (ah 5) bf))))) (ay (av mJ (ad (aa 0) (ad (aa 1) aq)))))
 (aj (aQ 6 (ay (av mB (ad (aa 0) (ad (aa 1) (ad (aa 3) (ad (aa 4) aq)))))))
 (i6 (av o5 (ad (aa 0) (ad (aa 6) (ad (ac bd (aa 4) (bb dm (ae (aa 1) am))) (ad (ge (ac ao (aa 0) (aC (.int 1)))) aq)))))))))
theorem ZpU (T:Txt K mg):ACal (bx (K,cn)) P w K mg base "lasting_marks" 7 ["shop","one"] o9:=bD T.ZoR j7 rfl λf cdv A outer sh H E hr=>by
 exact (ap (qx (aG (aA (qj T) hr (af (ab (pv 0)) (af (ab (pv 1)) aB)))))
 (ap (eY (dI (aG (aA (ZiB T) hr (af (ab (pv 0)) (af (ab (pv 1)) aB)))) (cJ rfl (ba (aL (aK (i:=2) j7.nd)) (ba (aL (aK (i:=3) j7.nd)) (ba (aL (aK (i:=4) j7.nd)) (ba (aL (aK (i:=5) j7.nd)) cI)))) (aZ (aZ (aZ (aZ cF)))))))
 (ap (aV (aS (i:=6) j7.nd (aG (aA (Ziu T) hr (af (ab (pv 0)) (af (ab (pv 1)) (af (ab (pv 3)) (af (ab (pv 4)) aB))))))))
 (aI (ll (aA (ZpL T) hr (af (ab (pv 0)) (af (ab (pv 6)) (af (ai bw bv (ab (pv 4)) (bm (t:=aY) (bj (gK rfl) rfl T.gC boot_sum (ag (ab (pv 1)) au)) gi)) (af (iZ (aF aE aD (ab (pv 0)) (cq rfl T.eB))) aB))))))))))
noncomputable def ow:z9 :=
 (ay (av o6 (ad (ac aM (ac bd (ac ao (aa 0) (aC (.int 0))) (ac ao (aa 1) (aC (.int 1)))) (ac bd (ac ao (aa 1) (aC (.int 0))) (ac ao (aa 0) (aC (.int 1))))) (ad (ac bd (ac ao (aa 0) (aC (.int 1))) (ac ao (aa 1) (aC (.int 1)))) aq))))
noncomputable def um:Ac :=
 (bZ (bu (ac cD (bb gu (ae (ay (av o9 (ad (aa 4) (ad (aa 16) aq)))) am)) (bb gu (ae (aa 17) am))))
  (bg (aC (.bool false)))
  bY)
noncomputable def kU:Ac :=
 (il 20 (ac ao (cf (dC (ae (aa 21) (ae (bb iO (ae (aa 21) (ae (aa 19) am))) am)))) (bb iU (ae (ac (cV λi j=>decide (i < j)) (aa 21) (aa 18)) am))))
noncomputable def ul:Ac :=
 (aj (aQ 3 (ay (av cr (bC 1 (ad (aC (.int 4)) aq)))))
 (aj (di (bh (aw (ah 4) (aw (ah 5) bf))) (ay (av mG (bC 1 (ad (aC (.int 6)) aq)))))
 (aj (bZ (bu (ac (cV λi j=>decide (i < j)) (aa 3) (aC (.int 2))))
  (aQ 4 (ay (av mE (bC 1 (ad (aa 4) aq)))))
  bY)
 (aj (bZ (bu (ac cR (aa 3) (aC (.int 2))))
  (di (bh (aw (ah 4) (aw (ah 5) bf))) (ay (av mD (bC 1 aq))))
  bY)
 (aj (aQ 6 (bb gu (ae (bA (ae (aa 4) (ae (aa 5) am))) am)))
 (aj (di (bh (aw (ah 7) (aw (ah 8) (aw (ah 9) bf)))) (ay (av iQ (ad (aa 4) (ad (aa 5) aq)))))
 (aj (aQ 10 (bA (ae (ac bF (ay (av cr (bC 1 (ad (aC (.int 9)) aq)))) (aC (.int 4))) (ae (ac aM (aC (.int 1)) (ay (av cr (bC 1 (ad (aC (.int 3)) aq))))) am))))
 (aj (aQ 11 (bb eO (ae (cf (dh (dF (aa 8)) 1 [10] (ah 0) ow)) am)))
 (aj (aQ 12 (ay (av hU (ad (ay (av jw (ad (aa 4) (ad (aa 5) (ad (aa 11) aq))))) (ad (ac bF (aC (.int 0)) (ac ao (aa 4) (aC (.int 1)))) aq)))))
 (aj (aQ 13 (ac aM (ac ao (aa 4) (aC (.int 0))) (ac ao (aa 4) (aC (.int 1)))))
 (aj (aQ 14 (ay (av kG (bC 1 (ad (ac aM (aa 13) (aC (.int 1))) (ad (aa 13) aq))))))
 (aj (aQ 15 (ay (av hU (ad (ay (av jw (ad (aa 4) (ad (aa 14) (ad (ac ao (ay (av iQ (ad (aa 4) (ad (aa 14) aq)))) (aC (.int 1))) aq))))) (ad (ac bF (aC (.int 0)) (ac ao (aa 4) (aC (.int 1)))) aq)))))
 (aj (cZ (dF (bA (ae (bA (ae (aa 5) (ae (aa 12) am))) (ae (bA (ae (aa 14) (ae (aa 15) am))) (ae (bA (ae (aa 5) (ae (aa 12) am))) am))))) (bh (aw (ah 16) (aw (ah 17) bf))) um)
 (aj (bZ (bu (ac cR (ac ao (aa 12) (aC (.int 0))) (aC (.str "marks"))))
  (aj (di (bh (aw (ah 18) (aw (ah 19) bf))) (i5 (aa 12) (ik (aC (.int 1))) i7))
 (aj (gL 20 (dC am))
 (aj (cZ (lA (ae (ac bF (aC (.int 0)) (ac ao (aa 4) (aC (.int 1)))) (ae (ac aM (ac ao (aa 4) (aC (.int 0))) (aC (.int 1))) am))) (ah 21) kU)
 (aj (gN 20 (bZ (bu (ac cD (ay (av kF (ad (aa 4) (ad (aa 5) (ad (bb eO (ae (aa 20) am)) aq))))) (aa 7)))
  (bg (aC (.bool false)))
  bY))
 (gN 20 (bZ (bu (ac mO (ay (av gD (ad (aa 4) (ad (aa 5) (ad (bA (ae (aa 7) (ae (aa 11) (ae (bb eO (ae (aa 20) am)) am)))) aq))))) (aC (.bool true))))
  (bg (aC (.bool false)))
  bY))))))
  bY)
 (bZ (bu (ac cD (bb gu (ae (bA (ae (aa 4) (ae (aa 5) am))) am)) (aa 6)))
  (bg (aC (.bool false)))
  bY)))))))))))))))
noncomputable def o8:Ac :=
 (aj (cZ (f9 (ae (aC (.int 4)) am)) (ah 2) ul)
 (bg (aC (.bool true))))
noncomputable abbrev ue:Ap:=.un::.pen::List.replicate 20 .un
theorem Zmf (T:Txt K mg) {f:Addr} {fd:FuncData} (F:Fun K "law" "law" oi f fd) (hl:(o8 ue).ok 0 λ_ o=>o=.ret (.d (.bool true))):FnOk P w K mg base iq 8 f fd ["_law_script"] (ZaP K):=by
 refine F.ok cP (λvs H Q E h=>?_) (λcdv A outer s H vs Q E hr h=>?_)
 ·obtain ⟨a,ns,rfl,_⟩:=h
  rfl
 ·obtain ⟨a,ns,rfl,hS,hlen,k⟩:=h
  have hu:=pM hr
  refine ⟨_,(eR (aS (i:=1) cP.nd (oE (Zmd T) (hr.mono (by decide)) rfl (bI (pv 0) cC)))
 (Zlq (t:=λcn=>bO (bx (K,cn)) o8) λcn=>(ap (dD wE rfl (ij (gX rfl T.dY (ag al au))) (aL (aK (i:=2) cP.nd))
  (ap (aV (aS (i:=3) cP.nd (aG (aA (cL T) hr (ce (pv 1) (af al aB))))))
 (ap (eY (dI (aG (aA (ZpT T) hr (ce (pv 1) (af al aB)))) (cJ rfl (ba (aL (aK (i:=4) cP.nd)) (ba (aL (aK (i:=5) cP.nd)) cI)) (aZ (aZ cF)))))
 (ap (cH (ci iE dl (ab (pv 3)) al (nomark _))
  (aI (aV (aS (i:=4) cP.nd (aG (aA (ZpR T) hr (ce (pv 1) (af (ab (pv 4)) aB)))))))
  cG)
 (ap (cH (ci (gy hr) gh (ab (pv 3)) al (nomark _))
  (aI (eY (dI (aG (aA (ZpQ T) hr (ce (pv 1) aB))) (cJ rfl (ba (aL (aK (i:=4) cP.nd)) (ba (aL (aK (i:=5) cP.nd)) cI)) (aZ (aZ cF))))))
  cG)
 (ap (aV (aS (i:=6) cP.nd (bm (t:=aY) (bj (qf hr) rfl T.oU boot_repr (ag (bV (ag (ab (pv 4)) (ag (ab (pv 5)) au))) au)) nM)))
 (ap (eY (dI (aG (aA (Ziy T) hr (af (ab (pv 4)) (af (ab (pv 5)) aB)))) (cJ rfl (ba (aL (aK (i:=7) cP.nd)) (ba (aL (aK (i:=8) cP.nd)) (ba (aL (aK (i:=9) cP.nd)) cI))) (aZ (aZ (aZ cF))))))
 (ap (aV (aS (i:=10) cP.nd (bV (ag (ai cg b6 (aG (aA (cL T) hr (ce (pv 1) (af al aB)))) al) (ag (ai aX aW al (aG (aA (cL T) hr (ce (pv 1) (af al aB))))) au)))))
 (ap (aV (aS (i:=11) cP.nd (bm (t:=aY) (dJ jG rfl T.fK boot_tuple (ag (cW (fP (fG qW ["_law_worth"] [10] rfl (e9 (ab (pv 8))) (λb=>(aL (aK (i:=0) (show ((bN qW ["_law_worth"] [10])).Nodup by trivial)))) (λb=>(aG (aA (ZpN T) hr (af (ai aX aW (ai bw bv (aF aE aD (ab (pv 0)) al) (aF aE aD (ab (pv 1)) al)) (ai bw bv (aF aE aD (ab (pv 1)) al) (aF aE aD (ab (pv 0)) al))) (af (ai bw bv (aF aE aD (ab (pv 0)) al) (aF aE aD (ab (pv 1)) al)) aB))))) rfl (show BlkOk qW (aP oi) _ [10] by trivial)) (cQ (by decide)))) au)) jj)))
 (ap (aV (aS (i:=12) cP.nd (aG (aA (Ziw T) hr (af (aG (aA (Zix T) hr (af (ab (pv 4)) (af (ab (pv 5)) (af (ab (pv 11)) aB))))) (af (ai cg b6 al (aF aE aD (ab (pv 4)) al)) aB))))))
 (ap (aV (aS (i:=13) cP.nd (ai aX aW (aF aE aD (ab (pv 4)) al) (aF aE aD (ab (pv 4)) al))))
 (ap (aV (aS (i:=14) cP.nd (aG (aA (Ziv T) hr (ce (pv 1) (af (ai aX aW (ab (pv 13)) al) (af (ab (pv 13)) aB)))))))
 (ap (aV (aS (i:=15) cP.nd (aG (aA (Ziw T) hr (af (aG (aA (Zix T) hr (af (ab (pv 4)) (af (ab (pv 14)) (af (aF aE aD (aG (aA (Ziy T) hr (af (ab (pv 4)) (af (ab (pv 14)) aB)))) al) aB))))) (af (ai cg b6 al (aF aE aD (ab (pv 4)) al)) aB))))))
 (ap (dD wE rfl (e9 (bV (ag (bV (ag (ab (pv 5)) (ag (ab (pv 12)) au))) (ag (bV (ag (ab (pv 14)) (ag (ab (pv 15)) au))) (ag (bV (ag (ab (pv 5)) (ag (ab (pv 12)) au))) au))))) (cJ rfl (ba (aL (aK (i:=16) cP.nd)) (ba (aL (aK (i:=17) cP.nd)) cI)) (aZ (aZ cF)))
  (aI (cH (ci (fH hr) fx (bm (t:=aY) (bj (qf hr) rfl T.oU boot_repr (ag (aG (aA (ZpU T) hr (af (ab (pv 4)) (af (ab (pv 16)) aB)))) au)) nM) (bm (t:=aY) (bj (qf hr) rfl T.oU boot_repr (ag (ab (pv 17)) au)) nM) (nomark _))
  (aI (bq dS))
  cG)))
 (ap (cH (ci (gy hr) gh (aF aE aD (ab (pv 12)) al) jJ (nomark _))
  (ap (eY (dI (np (ab (pv 12)) (ni al) nj) (cJ rfl (ba (aL (aK (i:=18) cP.nd)) (ba (aL (aK (i:=19) cP.nd)) cI)) (aZ (aZ cF)))))
 (ap (jI (aS (i:=20) cP.nd (dR au)))
 (ap (dD wE rfl (vC (tJ rfl T.dY (ag (ai cg b6 al (aF aE aD (ab (pv 4)) al)) (ag (ai aX aW (aF aE aD (ab (pv 4)) al) al) au)))) (aL (aK (i:=21) cP.nd))
  (aI (lq (iC (kj xj xq xp kA (pv 20) (bI (aF aE aD (cW (dR (ag (ab (pv 21)) (ag (bm (t:=aY) (bj (mY rfl) rfl T.iK boot_max (ag (ab (pv 21)) (ag (ab (pv 19)) au))) lL) au)))) (bm (t:=aY) (dJ qh rfl T.mw boot_int (ag (jK iE dl (ab (pv 21)) (ab (pv 18)) (nomark _)) au)) nO)) cC))))))
 (ap (lp (k:=20) (cH (ci (fH hr) fx (aG (aA (ZpK T) hr (af (ab (pv 4)) (af (ab (pv 5)) (af (bm (t:=aY) (dJ jG rfl T.fK boot_tuple (ag (ab (pv 20)) au)) jj) aB))))) (ab (pv 7)) (nomark _))
  (aI (bq dS))
  cG))
 (aI (lp (k:=20) (cH (ci Zl6 Zjr (aG (aA (ZpM T) hr (af (ab (pv 4)) (af (ab (pv 5)) (af (bV (ag (ab (pv 7)) (ag (ab (pv 11)) (ag (bm (t:=aY) (dJ jG rfl T.fK boot_tuple (ag (ab (pv 20)) au)) jj) au)))) aB))))) dS (nomark _))
  (aI (bq dS))
  cG)))))))
  cG)
 (aI (cH (ci (fH hr) fx (bm (t:=aY) (bj (qf hr) rfl T.oU boot_repr (ag (bV (ag (ab (pv 4)) (ag (ab (pv 5)) au))) au)) nM) (ab (pv 6)) (nomark _))
  (aI (bq dS))
  cG)))))))))))))))))
 (aI (bq dS))))),?_⟩
  refine ⟨_,rfl,a,ns,rfl,hS,hlen,λp H' hp hP hs=>?_⟩
  exact Zne (n:=20) hP rfl rfl (λH'=>k H') hl
end
end My
set_option Elab.async false
set_option linter.all false
set_option maxRecDepth 100000
local macro_rules | `(tactic| simp_arith [$ls,*] $[$loc]?) => do let b : Lean.TSyntaxArray ``Lean.Parser.Tactic.simpLemma ← (("L2.ZeM L2.ZeL L2.ZhK L2.Zhg L2.Zhf L2.ZhC L2.pX L2.mV L2.Ze1 L2.Zg1 L2.ZgS L2.ZfX L2.ZgT L2.ZgQ L2.ZfV L2.Zgq L2.ib L2.eX L2.jH L2.ng L2.qr L2.qq L2.qp L2.vn L2.vh L2.vg L2.vf L2.ZfU L2.ZfT L2.ZeZ L2.ZeS L2.ZeY L2.ZeX L2.ZeW L2.ZeV L2.ZeT L2.ZeU L2.Zhv L2.ZfM L2.ZfR L2.Zht L2.Zhu L2.ZfK L2.ZfL L2.ZfQ L2.Zhs L2.ZfP L2.Zhq L2.Zhr L2.ZfO L2.ZgF L2.ZgD L2.ZgE L2.Zg2 L2.Zg7 L2.Zg6 L2.Zg5 L2.Zg3 L2.Zg4 L2.ZfS L2.Zg0 L2.ZgZ L2.ZgY L2.ZeR L2.ZeQ L2.Zf5 L2.Zf4 L2.Zf7 L2.Zf6 L2.b7 L2.Zhb L2.Zg8 L2.uI L2.Zf9 L2.ZhD L2.Zf1 L2.Zgt L2.Zgu L2.ZeP L2.ZeN L2.Zf3 L2.Zf2 L2.Ze0 L2.pU L2.Zf0 L2.Zhw L2.Zgs L2.Zgr L2.Ze5 L2.Ze4 L2.Ze3 L2.pV L2.Ze2 L2.ZfH L2.ZfG L2.ZfF L2.ZeO L2.uG L2.ZhG L2.ZhH L2.ZhJ L2.ZhI L2.ZfC L2.ZfB L2.ZhF L2.ZhE L2.Zhd L2.ZfA L2.Zfz L2.ZgX L2.ZgP L2.ZgO L2.Zfi L2.Zff L2.Zfe L2.Zfh L2.Zfg L2.Ze6 L2.Zgy L2.Zgw L2.Zgx L2.Zfy L2.Zfx L2.Zfw L2.Zfv L2.Zfu L2.Zft L2.Zfs L2.Zfr L2.Zfq L2.Zfd L2.Zfc L2.Zfb L2.Zfa L2.ZdD L2.ZdC L2.Zhk L2.Zhj L2.Zhi L2.ZgG L2.ZfJ L2.ZfI L2.Zhp L2.Zho L2.Zhn L2.Zfp L2.Zfo L2.ZgH L2.Zev L2.Zew L2.Zeu L2.Zet L2.Zex L2.Zhm L2.Zhl L2.ZfN L2.Zep L2.Zem L2.Zeq L2.Zer L2.Zen L2.ZfE L2.ZfD L2.Zgp L2.Zgo L2.Zgn L2.Zfm L2.Zfl L2.ZeK L2.ZeJ L2.ZeI L2.ZeH L2.ZeG L2.ZgU L2.ZgW L2.ZgV L2.ZgM L2.ZgL L2.pP L2.fZ L2.eD L2.ZgJ L2.ZgK L2.ZgI L2.Zgi L2.Zgh L2.Zgg L2.Zdg L2.Zdh L2.Zdj L2.Zdi L2.Zgb L2.Zgc L2.Zga L2.Zf8 L2.Zgd L2.Zgf L2.Zge L2.Zgz L2.ZgB L2.ZgC L2.ZgA L2.Zha L2.Zg9 L2.ZgN L2.Ze9 L2.Ze8 L2.Ze7 L2.ZhB L2.ZhA L2.Zfk L2.Zfn L2.Zfj L2.pW L2.Zgm L2.Zgl L2.Zgk L2.Zgj Tw.Za7 Tw.Za6 Tw.Za5 Tw.Za4 Tw.Za3 Tw.Za2 Tw.Za1 Tw.Za0 Tw.ZaZ L2.ZfY L2.Zgv L2.rb2 L2.Tr.of_some L2.Tr.bind_assoc L2.Tr.draw_bind List.cons_append List.nil_append List.replicate_succ List.replicate_zero List.length_cons List.length_nil L2.Re.val_d L2.Re.val_own L2.blk L2.qo List.map_cons List.map_nil List.getElem?_cons_zero List.getElem?_cons_succ Option.getD_some Nat.reduceAdd Nat.reduceLeDiff List.isEmpty_cons".splitOn " ").toArray.map fun s => Lean.mkIdent s.toName).mapM fun i => `(Lean.Parser.Tactic.simpLemma| $i:ident); `(tactic| simp only [$b,*, $ls,*] $[$loc]?)
local macro_rules | `(tactic| simp_arith only [$ls,*] $[$loc]?) => do let b : Lean.TSyntaxArray ``Lean.Parser.Tactic.simpLemma ← (("L2.ZeM L2.ZeL L2.ZhK L2.Zhg L2.Zhf L2.ZhC L2.pX L2.mV L2.Ze1 L2.Zg1 L2.ZgS L2.ZfX L2.ZgT L2.ZgQ L2.ZfV L2.Zgq L2.ib L2.eX L2.jH L2.ng L2.qr L2.qq L2.qp L2.vn L2.vh L2.vg L2.vf L2.ZfU L2.ZfT L2.ZeZ L2.ZeS L2.ZeY L2.ZeX L2.ZeW L2.ZeV L2.ZeT L2.ZeU L2.Zhv L2.ZfM L2.ZfR L2.Zht L2.Zhu L2.ZfK L2.ZfL L2.ZfQ L2.Zhs L2.ZfP L2.Zhq L2.Zhr L2.ZfO L2.ZgF L2.ZgD L2.ZgE L2.Zg2 L2.Zg7 L2.Zg6 L2.Zg5 L2.Zg3 L2.Zg4 L2.ZfS L2.Zg0 L2.ZgZ L2.ZgY L2.ZeR L2.ZeQ L2.Zf5 L2.Zf4 L2.Zf7 L2.Zf6 L2.b7 L2.Zhb L2.Zg8 L2.uI L2.Zf9 L2.ZhD L2.Zf1 L2.Zgt L2.Zgu L2.ZeP L2.ZeN L2.Zf3 L2.Zf2 L2.Ze0 L2.pU L2.Zf0 L2.Zhw L2.Zgs L2.Zgr L2.Ze5 L2.Ze4 L2.Ze3 L2.pV L2.Ze2 L2.ZfH L2.ZfG L2.ZfF L2.ZeO L2.uG L2.ZhG L2.ZhH L2.ZhJ L2.ZhI L2.ZfC L2.ZfB L2.ZhF L2.ZhE L2.Zhd L2.ZfA L2.Zfz L2.ZgX L2.ZgP L2.ZgO L2.Zfi L2.Zff L2.Zfe L2.Zfh L2.Zfg L2.Ze6 L2.Zgy L2.Zgw L2.Zgx L2.Zfy L2.Zfx L2.Zfw L2.Zfv L2.Zfu L2.Zft L2.Zfs L2.Zfr L2.Zfq L2.Zfd L2.Zfc L2.Zfb L2.Zfa L2.ZdD L2.ZdC L2.Zhk L2.Zhj L2.Zhi L2.ZgG L2.ZfJ L2.ZfI L2.Zhp L2.Zho L2.Zhn L2.Zfp L2.Zfo L2.ZgH L2.Zev L2.Zew L2.Zeu L2.Zet L2.Zex L2.Zhm L2.Zhl L2.ZfN L2.Zep L2.Zem L2.Zeq L2.Zer L2.Zen L2.ZfE L2.ZfD L2.Zgp L2.Zgo L2.Zgn L2.Zfm L2.Zfl L2.ZeK L2.ZeJ L2.ZeI L2.ZeH L2.ZeG L2.ZgU L2.ZgW L2.ZgV L2.ZgM L2.ZgL L2.pP L2.fZ L2.eD L2.ZgJ L2.ZgK L2.ZgI L2.Zgi L2.Zgh L2.Zgg L2.Zdg L2.Zdh L2.Zdj L2.Zdi L2.Zgb L2.Zgc L2.Zga L2.Zf8 L2.Zgd L2.Zgf L2.Zge L2.Zgz L2.ZgB L2.ZgC L2.ZgA L2.Zha L2.Zg9 L2.ZgN L2.Ze9 L2.Ze8 L2.Ze7 L2.ZhB L2.ZhA L2.Zfk L2.Zfn L2.Zfj L2.pW L2.Zgm L2.Zgl L2.Zgk L2.Zgj Tw.Za7 Tw.Za6 Tw.Za5 Tw.Za4 Tw.Za3 Tw.Za2 Tw.Za1 Tw.Za0 Tw.ZaZ L2.ZfY L2.Zgv L2.rb2 L2.Tr.of_some L2.Tr.bind_assoc L2.Tr.draw_bind List.cons_append List.nil_append List.replicate_succ List.replicate_zero List.length_cons List.length_nil L2.Re.val_d L2.Re.val_own L2.blk L2.qo List.map_cons List.map_nil List.getElem?_cons_zero List.getElem?_cons_succ Option.getD_some Nat.reduceAdd Nat.reduceLeDiff List.isEmpty_cons".splitOn " ").toArray.map fun s => Lean.mkIdent s.toName).mapM fun i => `(Lean.Parser.Tactic.simpLemma| $i:ident); `(tactic| simp -implicitDefEqProofs only [$b,*, $ls,*] $[$loc]?)
namespace My
open L2 Tw
theorem ic {s:Shp} (h:s.Ok):fX [.d s.d]=.ret (.d (.tuple (aN (-s.depth) (s.top+1)))):=by
 have:=h.t0
 have:=h.d0
 have:=h.td
 have hr:md (-s.depth) (s.top+1)=true:=by
  unfold md
  rw [dB (by omega) (by omega),dB (by omega) (by omega)]
  simp
  omega
 simp_arith [fX,uG hr]
theorem uM (s:Shp) (y f:Int):jv [.d s.d,.d (.int y),.d (.int f)]=.ret (.d (.int (s.nx y f))):=by
 simp_arith [jv,Shp.nx]
theorem uL {s:Shp} (h:s.Ok) {x y:Int} (hx:nb 20 x) (hy:nb 20 y):ju [.d s.d,.d (.int x),.d (.int y)]=.ret (.d (.int (s.ord x y))):=by
 have f1:=aH h.piece (by decide)
 have f2:=aH (fJ hy hx) (by decide)
 by_cases hp:y<=x
 ·simp_arith [ju,decide_eq_true hp,Shp.ord,if_pos hp]
 ·simp_arith [ju,decide_eq_false hp,f1,f2,Shp.ord,if_neg hp]
theorem Zoo {s:Shp} (h:s.Ok) {y f:Int} (hy:nb 20 y) (hf:nb 40 f):mI [.d s.d,.d (.int y),.d (.int f)]=.ret (.d (.int (s.day y f))):=by
 have hd:nb 7 s.depth:=by have:=h.t0; have:=h.d0; have:=h.td; exact bP (by show -128 < _; omega) (by show _ < 128; omega)
 have hn:nb 50 (s.nx y f):=by
  unfold Shp.nx b8
  exact mt (aT (ku hd) (by decide)) (aT (fJ hy hf) (by decide))
 have f1:=aH h.keep (by decide)
 have f2:=aH hn (by decide)
 have f3:=aH (ku hn) (by decide)
 have f4:=aH h.lack (by decide)
 have f5:=aH h.lost (by decide)
 have f6:=aH (fJ hn (fJ hy hf)) (by decide)
 have e:=uM s y f
 by_cases hp:s.nx y f > 0
 ·simp_arith [mI,e,decide_eq_true hp,f1,f2,f5,f6,Shp.day,if_pos hp]
 ·simp_arith [mI,e,decide_eq_false hp,f3,f4,f5,f6,Shp.day,if_neg hp]
end My
set_option Elab.async false
set_option linter.all false
set_option maxRecDepth 100000
namespace My
open L2 Tw
theorem Znb (l:Aj):(l.map PyData.int).length=l.length:=v7 ..
theorem pY {s:Shp} (h:s.Ok) {day:Aj} (hd:DayB day) {y:Int} (y1:-s.depth<=y) (y2:y<=s.top) {A:Int->Int} {b:Nat} (hA:Bd s b A) {sc:Int} (hs:nb b sc) (hb:b<=5000) :
  jt [.d s.d,.d (tI day),.d (.int y),.d (lI (s.row A)),.d (.int sc)]=.ret (.d (.int (s.wg day y A sc))):=by
 have:=h.t0
 have:=h.d0
 have:=h.td
 have hy:nb 20 y:=bP (by show -1048576 < _; omega) (by show _ < 1048576; omega)
 apply vA
 simp_arith [jt,tI,lI]
 refine eZ (n:=0) (n':=0) (P:=λo=>∃ J1 J2 J3:Sl,o=.next [.d s.d,.d (.tuple (day.map PyData.int)),.d (.int y),.d (.list ((s.row A).map PyData.int)),.d (.int sc),.d (.int (s.wg day y A sc)),J1,J2,J3]) ?_ (by decide) ?_
 ·refine qz (n:=0) (λpre ρ=>∃ J1 J2 J3:Sl,ρ=[.d s.d,.d (.tuple (day.map PyData.int)),.d (.int y),.d (.list ((s.row A).map PyData.int)),.d (.int sc),.d (.int (s.wg day y A sc - ws (λf=>sc * s.day y f+A (s.nx y f)) pre.length (day.drop pre.length))),J1,J2,J3]) ⟨.un,.un,.un,?_⟩ (by simp) ?_ ?_
  ·have:s.wg day y A sc - ws (λf=>sc * s.day y f+A (s.nx y f)) 0 day=0:=by unfold Shp.wg; omega
   simp only [xo,List.drop_zero,this]
  ·rintro pre x post ρ e ⟨J1,J2,J3,rfl⟩
   obtain ⟨w,hw,rfl⟩:=Zn6 e
   rw [v9] at hw
   obtain ⟨v,hv,rfl⟩:=yS.mp hw
   refine ⟨_,rfl,?_⟩
   have hl:pre.length < day.length:=(we.mp hv).1
   have hlen:=hd.len
   have hf:nb 40 (pre.length:Int):=bP (by show -1099511627776 < _; omega) (by show _ < 1099511627776; omega)
   have e1:=uM s y pre.length
   have e2:=Zoo h hy hf
   have n1:=gA s y pre.length
   have n2:=gz h y2 (show (0:Int)<=pre.length by omega)
   have e3:=l8 (f:=A) n1 n2
   have v1:nb 30 v:=hd.nb v (xI hv)
   have b1:=bJ hs (lg h hy hf)
   have f1:=aH hs (by omega)
   have f2:=aH (lg h hy hf) (by decide)
   have f3:=aH v1 (by decide)
   have f4:=aH (dO b1 (hA _ n1 n2)) (by omega)
   simp_arith [Zd1,e1,e2,e3,f1,f2,f3,f4]
   have ed:day.drop pre.length=v::day.drop (pre.length+1):=by
    rw [xn hl]
    congr 1
    exact (we.mp hv).2
   have el:(pre++[PyData.tuple [PyData.int pre.length,PyData.int v]]).length=pre.length+1:=by simp
   have ee:s.wg day y A sc - ws (λf=>sc * s.day y f+A (s.nx y f)) pre.length (day.drop pre.length)+v * (sc * s.day y pre.length+A (s.nx y pre.length)) =
     s.wg day y A sc - ws (λf=>sc * s.day y f+A (s.nx y f)) (pre++[PyData.tuple [PyData.int pre.length,PyData.int v]]).length (day.drop (pre++[PyData.tuple [PyData.int pre.length,PyData.int v]]).length):=by
    rw [el,ed,ws]
    omega
   rw [ee]
   exact dE ⟨_,rfl,_,_,_,rfl⟩
  ·rintro ρ ⟨J1,J2,J3,rfl⟩
   refine ⟨J1,J2,J3,?_⟩
   rw [Zn7,Znb,yN,ws,Int.sub_zero]
 ·rintro _ ⟨J1,J2,J3,rfl⟩
  simp_arith [yi]
  exact dE rfl
theorem ZhW {s:Shp} (h:s.Ok) {day:Aj} (hd:DayB day) {A:Int->Int} {b:Nat} (hA:Bd s b A) {sc:Int} (hs:nb b sc) (hb:b<=5000) :
  mB [.d s.d,.d (tI day),.d (lI (s.row A)),.d (.int sc)]=.ret (.own ((s.row (s.sm day A sc)).map PyData.int)):=by
 have:=h.t0
 have:=h.d0
 have:=h.td
 have f1:=aH hs (by omega)
 have f2:=aH (dG hd) (by decide)
 have f3:=aH (bJ hs (dG hd)) (by omega)
 have f4:=aH h.piece (by decide)
 have f5:=aH (bJ (bJ hs (dG hd)) h.piece) (by omega)
 have es:bR dm [tI day]=.ret (.int day.sum):=pU day
 have hsm:small (aN (-s.depth) (s.top+1)).length=true:=b7 (by rw [cS]; omega)
 have e:bG (cu (ah 0) tj (blk 1 [0,1,2,3,4] [.d s.d,.d (tI day),.d (lI (s.row A)),.d (.int sc),.d (.int (sc * day.sum))])) (aN (-s.depth) (s.top+1))=.ret ((s.row (s.sm day A sc)).map PyData.int):=by
  refine Eq.trans (Zdt (f:=λx=>.int (s.sm day A sc x)) λz h1 h2=>?_) ?_
  ·have e1:=pY h hd (y:=z) (by omega) (by omega) hA hs hb
   have hz:nb 20 z:=bP (by show -1048576 < _; omega) (by show _ < 1048576; omega)
   have f6:=aH hz (by decide)
   simp_arith [tj,e1,f3,f4,f5,f6]
   rfl
  ·unfold Shp.row Shp.n
   rw [wu]
   rfl
 simp_arith [mB,ic h,hsm,es,f1,f2] at e ⊢
 simp_arith [e]
end My
set_option Elab.async false
set_option linter.all false
set_option maxRecDepth 100000
set_option exponentiation.threshold 9000
namespace My
open L2 Tw
theorem Zaa {xs ys pre post:Ai} {x:PyData} (h:bS xs ys=pre++x::post):∃ a b,xs[pre.length]?=some a/\ys[pre.length]?=some b/\x=.tuple [a,b]:=by
 have h1:(bS xs ys)[pre.length]?=some x:=by rw [h]; simp
 unfold bS at h1
 rw [v9] at h1
 obtain ⟨⟨a,b⟩,hz,rfl⟩:=yS.mp h1
 obtain ⟨z1,z2⟩:=zL.mp hz
 exact ⟨a,b,z1,z2,rfl⟩
theorem Zb0 {lo hi:Int} {k:Nat} {y:PyData} (h:(aN lo hi)[k]?=some y):y=.int (lo+k)/\(k:Int) < hi - lo:=by
 have hk:=(we.mp h).1
 rw [cS] at hk
 unfold aN ak at h
 rw [wu,v9,wm hk] at h
 cases h
 exact ⟨rfl,by omega⟩
noncomputable def cby (s:Shp) (day:Aj) (A:Int->Int) (sc:Int) (g:Int->Int) (x:Int):Int:=sc * day.sum * s.ord x (g x)+s.wg day (g x) A sc
theorem Zpx {s:Shp} (h:s.Ok) {day:Aj} (hd:DayB day) {A:Int->Int} {b:Nat} (hA:Bd s b A) {sc:Int} (hs:nb b sc) (hb:b<=5000) {x y:Int} (x1:-s.depth<=x) (xy:x<=y) (y2:y<=s.top) {L:Ai} (hL:L.length<=900) (LV:Sl) :
  uo [.d s.d,.d (tI day),LV,.d (lI (s.row A)),.d (.int sc),.d (.int (sc * day.sum)),.own L,.d (.int x),.d (.int y)]=.ret (.next [.d s.d,.d (tI day),LV,.d (lI (s.row A)),.d (.int sc),.d (.int (sc * day.sum)),.own (L++[.int (sc * day.sum * s.ord x y+s.wg day y A sc)]),.d (.int x),.d (.int y)]):=by
 have hx:=fU h x1 (show x<=s.top by omega)
 have hy:=fU h (show -s.depth<=y by omega) y2
 have e1:=uL h hx hy
 have e2:=pY h hd (show -s.depth<=y by omega) y2 hA hs hb
 have hsm:small (L.length+1)=true:=b7 (by omega)
 have g1:=aH (bJ hs (dG hd)) (by omega)
 have g2:=aH (oN h hx hy) (by decide)
 simp_arith [uo,e1,e2,hsm,g1,g2]
theorem Zop {s:Shp} (h:s.Ok) {day:Aj} (hd:DayB day) {A:Int->Int} {b:Nat} (hA:Bd s b A) {sc:Int} (hs:nb b sc) (hb:b<=5000) {g:Int->Int} (hg:s.RlOk g) {LV:PyData} (hLV:dg LV=.ret ((s.row g).map PyData.int)) :
  ph [.d s.d,.d (tI day),.d LV,.d (lI (s.row A)),.d (.int sc)]=.ret (.own ((s.row (cby s day A sc g)).map PyData.int)):=by
 have:=h.t0
 have:=h.d0
 have:=h.td
 have hn:=h.n_eq
 have g1:=aH hs (by omega)
 have g2:=aH (dG hd) (by decide)
 apply vA
 simp_arith [ph,gj,g1,g2,ic h,hLV]
 refine eZ (n:=0) (n':=0) (P:=λo=>∃ J7 J8:Sl,o=.next [.d s.d,.d (tI day),.d LV,.d (lI (s.row A)),.d (.int sc),.d (.int (sc * day.sum)),.own ((s.row (cby s day A sc g)).map PyData.int),J7,J8]) ?_ (by decide) ?_
 ·refine qz (n:=0) (λpre ρ=>∃ J7 J8:Sl,ρ=[.d s.d,.d (tI day),.d LV,.d (lI (s.row A)),.d (.int sc),.d (.int (sc * day.sum)),.own (((s.row (cby s day A sc g)).map PyData.int).take pre.length),J7,J8]) ⟨_,_,rfl⟩ (by simp) ?_ ?_
  ·rintro pre x post ρ e ⟨J7,J8,rfl⟩
   obtain ⟨a,c,ha,hc,rfl⟩:=Zaa e
   obtain ⟨rfl,hpre⟩:=Zb0 ha
   have x1:-s.depth<=-s.depth+(pre.length:Int):=by omega
   have x2:-s.depth+(pre.length:Int)<=s.top:=by omega
   have ek:(-s.depth+(pre.length:Int)+s.depth).toNat=pre.length:=by omega
   have hr:=gq (f:=g) x1 x2
   have hr3:=gq (f:=cby s day A sc g) x1 x2
   rw [ek] at hr hr3
   rw [v9,hr] at hc
   cases hc
   have hr2:((s.row (cby s day A sc g)).map PyData.int)[pre.length]?=some (.int (cby s day A sc g (-s.depth+(pre.length:Int)))):=by rw [v9,hr3]; rfl
   have el:∀ z:PyData,(pre++[z]).length=pre.length+1:=λz=>by simp
   rw [el,List.take_add_one,hr2]
   obtain ⟨q1,q2⟩:=hg _ x1 x2
   exact ⟨_,rfl,Zqq (Zpx h hd hA hs hb x1 q1 q2 (by rw [xP,v7,gS]; omega) _) ⟨_,rfl,_,_,rfl⟩⟩
  ·rintro ρ ⟨J7,J8,rfl⟩
   refine ⟨J7,J8,?_⟩
   have el:(bS (aN (-s.depth) (s.top+1)) ((s.row g).map PyData.int)).length=s.n:=by
    unfold bS
    rw [v7,ye,cS,v7,gS]
    unfold Shp.n
    omega
   rw [el,List.take_of_length_le (by rw [v7,gS]; exact wa _)]
 ·rintro _ ⟨J7,J8,rfl⟩
  simp_arith [yi]
  exact dE rfl
end My
set_option Elab.async false
set_option linter.all false
set_option maxRecDepth 100000
set_option exponentiation.threshold 9000
namespace My
open L2 Tw
def qT (s:Shp) (day:Aj) (C A:Int->Int) (sc:Int):Prop:=∀ x y,-s.depth<=x->x<=y->y<=s.top->C x<=sc * day.sum * s.ord x y+s.wg day y A sc
noncomputable abbrev dN (s:Shp) (day:Aj) (C A:Int->Int) (sc:Int) (J7 J8 J9:Sl):Ap:=[.d s.d,.d (tI day),.d (lI (s.row C)),.d (lI (s.row A)),.d (.int sc),.d (.int (sc * day.sum)),.d (lI (s.row λy=>s.wg day y A sc)),J7,J8,J9]
theorem nn1 {s:Shp} (h:s.Ok) {day:Aj} (hd:DayB day) {C A:Int->Int} {b:Nat} {sc:Int} (hs:nb b sc) (hb:b<=5000) {x y c:Int} (x1:-s.depth<=x) (xy:x<=y) (y2:y<=s.top) :
  kS (dN s day C A sc (.d (.int x)) (.d (.int c)) (.d (.int y)))=if sc * day.sum * s.ord x y+s.wg day y A sc < c then .ret (.ret (.d (.bool false))) else .ret (.next (dN s day C A sc (.d (.int x)) (.d (.int c)) (.d (.int y)))):=by
 have hx:=fU h x1 (show x<=s.top by omega)
 have hy:=fU h (show -s.depth<=y by omega) y2
 have e1:=uL h hx hy
 have e2:=l8 (s:=s) (f:=λy=>s.wg day y A sc) (x:=y) (by omega) y2
 have g1:=aH (bJ hs (dG hd)) (by omega)
 have g2:=aH (oN h hx hy) (by decide)
 by_cases q:sc * day.sum * s.ord x y+s.wg day y A sc < c
 ·rw [if_pos q]
  simp_arith [kS,dN,lI,e1,e2,g1,g2,decide_eq_true q]
 ·rw [if_neg q]
  simp_arith [kS,dN,lI,e1,e2,g1,g2,decide_eq_false q]
theorem nn2 {s:Shp} (h:s.Ok) {day:Aj} (hd:DayB day) {C A:Int->Int} {b:Nat} {sc:Int} (hs:nb b sc) (hb:b<=5000) {x c:Int} (x1:-s.depth<=x) (x2:x<=s.top) (J9:Sl) :
  ((∃ y,x<=y/\y<=s.top/\sc * day.sum * s.ord x y+s.wg day y A sc < c)/\kR (dN s day C A sc (.d (.int x)) (.d (.int c)) J9)=.ret (.ret (.d (.bool false))))\/((∀ y,x<=y->y<=s.top->¬ sc * day.sum * s.ord x y+s.wg day y A sc < c)/\∃ K9:Sl,kR (dN s day C A sc (.d (.int x)) (.d (.int c)) J9)=.ret (.next (dN s day C A sc (.d (.int x)) (.d (.int c)) K9))):=by
 have:=h.t0
 have:=h.d0
 have:=h.td
 have r1:gT [.int x,.int (s.top+1)]=.ret (aN x (s.top+1)):=mT (dB (by omega) (by omega)) (dB (by omega) (by omega))
 have key:=ZeA (g:=ah 9) (s:=kS) (r:=.d (.bool false)) (xs:=aN x (s.top+1)) (ρ:=dN s day C A sc (.d (.int x)) (.d (.int c)) J9) (λpre _=>sc * day.sum * s.ord x (x+pre.length)+s.wg day (x+pre.length) A sc < c) (λ_ ρ=>∃ K9:Sl,ρ=dN s day C A sc (.d (.int x)) (.d (.int c)) K9) ⟨_,rfl⟩ (by
  rintro pre z post ρ e ⟨K9,rfl⟩
  obtain ⟨rfl,hpre⟩:=sO e
  refine ⟨_,rfl,?_⟩
  have st:=nn1 h hd (C:=C) (A:=A) hs hb (c:=c) x1 (show x<=x+(pre.length:Int) by omega) (by omega)
  by_cases q:sc * day.sum * s.ord x (x+pre.length)+s.wg day (x+pre.length) A sc < c
  ·rw [if_pos q] at st
   exact .inl ⟨q,st⟩
  ·rw [if_neg q] at st
   exact .inr ⟨q,_,st,_,rfl⟩)
 have eL:kR (dN s day C A sc (.d (.int x)) (.d (.int c)) J9)=bT (ah 9) kS (aN x (s.top+1)) (dN s day C A sc (.d (.int x)) (.d (.int c)) J9):=by
  simp_arith [kR,dN,r1]
 rw [eL]
 rcases key with ⟨⟨p,z,q,e,hb⟩,k⟩ | ⟨hn,ρ2,k,K9,rfl⟩
 ·obtain ⟨rfl,hpre⟩:=sO e
  exact .inl ⟨⟨x+p.length,by omega,by omega,hb⟩,k⟩
 ·refine .inr ⟨λy y1 y2=>?_,K9,k⟩
  have hlen:(y - x).toNat < (aN x (s.top+1)).length:=by rw [cS]; omega
  have hsp:aN x (s.top+1)=(aN x (s.top+1)).take (y - x).toNat++(aN x (s.top+1))[(y - x).toNat]::(aN x (s.top+1)).drop ((y - x).toNat+1):=by
   rw [<- xn hlen,List.take_append_drop]
  have:=hn _ _ _ hsp
  rw [xP,yU (by omega)] at this
  have e:x+((y - x).toNat:Int)=y:=by omega
  rwa [e] at this
theorem Zob {s:Shp} (h:s.Ok) {day:Aj} (hd:DayB day) {C A:Int->Int} {b:Nat} (hA:Bd s b A) {sc:Int} (hs:nb b sc) (hb:b<=5000) :
  (qT s day C A sc/\kE [.d s.d,.d (tI day),.d (lI (s.row C)),.d (lI (s.row A)),.d (.int sc)]=.ret (.d (.bool true)))\/(¬ qT s day C A sc/\kE [.d s.d,.d (tI day),.d (lI (s.row C)),.d (lI (s.row A)),.d (.int sc)]=.ret (.d (.bool false))):=by
 have:=h.t0
 have:=h.d0
 have:=h.td
 have hn:=h.n_eq
 have g1:=aH hs (by omega)
 have g2:=aH (dG hd) (by decide)
 have hsm:small (aN (-s.depth) (s.top+1)).length=true:=b7 (by rw [cS]; omega)
 have hmap:bG (cu (ah 0) tf [.un,.d s.d,.d (tI day),.d (lI (s.row A)),.d (.int sc)]) (aN (-s.depth) (s.top+1))=.ret ((s.row λy=>s.wg day y A sc).map PyData.int):=by
  rw [Zdt (f:=λy=>.int (s.wg day y A sc)) λz z1 z2=>?_]
  ·unfold Shp.row
   rw [wu]
   rfl
  ·have e:=pY h hd (y:=z) z1 (by omega) hA hs hb
   have e3:∀ q:z9,cu (ah 0) q [.un,.d s.d,.d (tI day),.d (lI (s.row A)),.d (.int sc)] (.int z)=q [.d (.int z),.d s.d,.d (tI day),.d (lI (s.row A)),.d (.int sc)]:=λq=>rfl
   rw [e3]
   simp_arith [tf,e]
 have key:=ZeA (g:=bh (aw (ah 7) (aw (ah 8) bf))) (s:=kR) (r:=.d (.bool false)) (xs:=bS (aN (-s.depth) (s.top+1)) ((s.row C).map PyData.int)) (ρ:=dN s day C A sc .un .un .un) (λpre _=>∃ y,-s.depth+(pre.length:Int)<=y/\y<=s.top/\sc * day.sum * s.ord (-s.depth+pre.length) y+s.wg day y A sc < C (-s.depth+pre.length)) (λ_ ρ=>∃ K7 K8 K9:Sl,ρ=dN s day C A sc K7 K8 K9) ⟨_,_,_,rfl⟩ (by
  rintro pre z post ρ e ⟨K7,K8,K9,rfl⟩
  obtain ⟨a,c,ha,hc,rfl⟩:=Zaa e
  obtain ⟨rfl,hpre⟩:=Zb0 ha
  have x1:-s.depth<=-s.depth+(pre.length:Int):=by omega
  have x2:-s.depth+(pre.length:Int)<=s.top:=by omega
  have ek:(-s.depth+(pre.length:Int)+s.depth).toNat=pre.length:=by omega
  have hr:=gq (f:=C) x1 x2
  rw [ek] at hr
  rw [v9,hr] at hc
  cases hc
  refine ⟨_,rfl,?_⟩
  rcases nn2 h hd (C:=C) (A:=A) hs hb (c:=C (-s.depth+(pre.length:Int))) x1 x2 K9 with ⟨q,st⟩ | ⟨q,K9',st⟩
  ·exact .inl ⟨q,st⟩
  ·exact .inr ⟨λ⟨y,y1,y2,y3⟩=>q y y1 y2 y3,_,st,_,_,_,rfl⟩)
 rcases key with ⟨⟨p,z,q,e,y,y1,y2,y3⟩,k⟩ | ⟨hno,ρ2,k,K7,K8,K9,rfl⟩
 ·refine .inr ⟨λnl=>?_,?_⟩
  ·have:=nl _ y (by omega) y1 y2
   omega
  ·have ei:dg (lI (s.row C))=.ret ((s.row C).map PyData.int):=rfl
   have el:PyData.list ((s.row λy=>s.wg day y A sc).map PyData.int)=lI (s.row λy=>s.wg day y A sc):=rfl
   simp_arith [kE,gj,g1,g2,ic h,hsm,hmap,ei,el]
   simp only [dN] at k
   simp_arith [k]
 ·refine .inl ⟨λx y x1 xy y2=>?_,?_⟩
  ·have hlen:(x+s.depth).toNat < (bS (aN (-s.depth) (s.top+1)) ((s.row C).map PyData.int)).length:=by
    unfold bS
    rw [v7,ye,cS,v7,gS]
    omega
   have hsp:bS (aN (-s.depth) (s.top+1)) ((s.row C).map PyData.int)=(bS (aN (-s.depth) (s.top+1)) ((s.row C).map PyData.int)).take (x+s.depth).toNat++(bS (aN (-s.depth) (s.top+1)) ((s.row C).map PyData.int))[(x+s.depth).toNat]::(bS (aN (-s.depth) (s.top+1)) ((s.row C).map PyData.int)).drop ((x+s.depth).toNat+1):=by
    rw [<- xn hlen,List.take_append_drop]
   have:=hno _ _ _ hsp
   rw [xP,yU (by omega)] at this
   have e:-s.depth+((x+s.depth).toNat:Int)=x:=by omega
   rw [e] at this
   by_cases q:C x<=sc * day.sum * s.ord x y+s.wg day y A sc
   ·exact q
   ·exact absurd ⟨y,xy,y2,by omega⟩ this
  ·have ei:dg (lI (s.row C))=.ret ((s.row C).map PyData.int):=rfl
   have el:PyData.list ((s.row λy=>s.wg day y A sc).map PyData.int)=lI (s.row λy=>s.wg day y A sc):=rfl
   simp_arith [kE,gj,g1,g2,ic h,hsm,hmap,ei,el]
   simp only [dN] at k
   simp_arith [k]
end My
set_option Elab.async false
set_option linter.all false
set_option maxRecDepth 100000
namespace My
open L2 Tw
theorem Zqf {xs:Ai} {v:PyData} (h:xs[xs.length - 1]?=some v):bz xs (-1)=some v:=by
 have hl:xs≠[]:=λe=>by subst e; cases h
 have hp:0 < xs.length:=yu.mpr hl
 obtain ⟨k,hk⟩:=Nat.exists_eq_succ_of_ne_zero (xb hp)
 unfold bz db
 have e0:(-1:Int)+(xs.length:Int)=(k:Int):=by rw [hk]; show (-1:Int)+((k:Int)+1)=k; rw [Int.add_comm,Int.add_assoc]; exact yo _
 have e:((-1:Int)+(xs.length:Int)).toNat=xs.length - 1:=by rw [e0,hk]; exact wU k
 rw [if_neg (by decide),if_pos (by omega)]
 show xs[((-1:Int)+(xs.length:Int)).toNat]?=some v
 rw [e]
 exact h
noncomputable def dc (g:Int->Int) (top K P x:Int):PyData:=.tuple [.int (cst g top K P x),.int (lvl g top K x)]
theorem Zk3 {lo hi:Int} {F:Int->PyData}:((List.range (hi - lo).toNat).map λ(i:Nat)=>F (hi - 1 - i)).reverse=(ak lo (hi - lo).toNat).map F:=by
 unfold ak
 rw [wu]
 apply xw
 intro i
 by_cases hi':i < (hi - lo).toNat
 ·rw [yZ (by simpa using hi'),v7,wI,v9,v9,wm (by omega),wm hi']
  show some (F (hi - 1 - (((hi - lo).toNat - 1 - i:Nat):Int)))=some (F (lo+(i:Int)))
  congr 2
  omega
 ·rw [wA (by simpa using hi'),wA (by simpa using hi')]
theorem Zoq {s:Shp} (h:s.Ok) {low:Int} (hl:low<=s.top) (hl0:-1000<=low) {g:Int->Int} {b:Nat} (hg:∀ x,low<=x->x<=s.top->nb b (g x)) {sc:Int} (hs:nb b sc) (hK:0<=sc * s.start) (hb:b<=3000) :
  pi [.d s.d,.d (.int low),.d (lI ((ak low (s.top+1 - low).toNat).map g)),.d (.int sc)]=.ret (.own ((ak low (s.top+1 - low).toNat).map (dc g s.top (sc * s.start) (sc * s.piece)))):=by
 have:=h.t0
 have:=h.d0
 have:=h.td
 have hn:0 < (s.top+1 - low).toNat:=by omega
 have hlen:(((ak low (s.top+1 - low).toNat).map g).map PyData.int).length=(s.top+1 - low).toNat:=by rw [v7,v7,dU]
 have hat:∀ x,low<=x->x<=s.top->(((ak low (s.top+1 - low).toNat).map g).map PyData.int)[(x - low).toNat]?=some (.int (g x)):=λx h1 h2=>by
  unfold ak
  rw [wu,wu,v9,wm (by omega)]
  show some (PyData.int (g (low+((x - low).toNat:Int))))=_
  congr 3
  omega
 have hlast:bz (((ak low (s.top+1 - low).toNat).map g).map PyData.int) (-1)=some (.int (g s.top)):=Zqf (by
  rw [hlen]
  have:=hat s.top hl (wG _)
  have e:(s.top - low).toNat=(s.top+1 - low).toNat - 1:=by
   obtain ⟨k,hk⟩:=yL (Int.sub_nonneg_of_le hl)
   have hk2:s.top+1 - low=((k+1:Nat):Int):=by omega
   rw [hk,hk2]
   rfl
  rw [e] at this
  exact this)
 have r1:fY low=true:=dB (by omega) (by omega)
 have r2:fY (s.top+1)=true:=dB (by omega) (by omega)
 have f1:=aH hs (by omega)
 have f2:=aH h.start (by decide)
 have f3:=aH h.piece (by decide)
 have f4:=aH (bJ hs h.piece) (by omega)
 apply vA
 simp_arith [pi,lI,hlast,mT r1 r2]
 refine eZ (n:=0) (n':=0) (P:=λo=>∃ J5 J6 J7 J8 J9:Sl,o=.next [.d s.d,.d (.int low),.d (.list (((ak low (s.top+1 - low).toNat).map g).map PyData.int)),.d (.int sc),.own ((List.range (s.top+1 - low).toNat).map λ(i:Nat)=>dc g s.top (sc * s.start) (sc * s.piece) (s.top+1 - 1 - i)),J5,J6,J7,J8,J9]) ?_ (by decide) ?_
 ·refine qz (n:=0) (λpre ρ=>∃ J6 J7 J8 J9:Sl,ρ=[.d s.d,.d (.int low),.d (.list (((ak low (s.top+1 - low).toNat).map g).map PyData.int)),.d (.int sc),.own ((List.range pre.length).map λ(i:Nat)=>dc g s.top (sc * s.start) (sc * s.piece) (s.top+1 - 1 - i)),.d (.tuple [.int (bst g s.top (pre.length - 1)).1,.int (bst g s.top (pre.length - 1)).2]),J6,J7,J8,J9]) ⟨.un,.un,.un,.un,rfl⟩ (by simp) ?_ ?_
  ·rintro pre x post ρ e ⟨J6,J7,J8,J9,rfl⟩
   obtain ⟨rfl,hpre⟩:=Zk0 e
   refine ⟨_,rfl,?_⟩
   generalize hk:pre.length=k at hpre ⊢
   have hx1:low<=s.top+1 - 1 - (k:Int):=by omega
   have hx2:s.top+1 - 1 - (k:Int)<=s.top:=by omega
   have ha:bz (((ak low (s.top+1 - low).toNat).map g).map PyData.int) (s.top+1 - 1 - (k:Int) - low)=some (.int (g (s.top+1 - 1 - (k:Int)))):=ft (by omega) (hat _ hx1 hx2)
   have hxn:nb 20 (s.top+1 - 1 - (k:Int)):=bP (by show -1048576 < _; omega) (by show _ < 1048576; omega)
   have f5:=aH hxn (by decide)
   have hsm:small (((List.range k).map λ(i:Nat)=>dc g s.top (sc * s.start) (sc * s.piece) (s.top+1 - 1 - i)).length+1)=true:=b7 (by rw [v7,wI]; omega)
   have el:(pre++[PyData.int (s.top+1 - 1 - (k:Int))]).length=k+1:=by rw [wx,hk]; rfl
   have m1:bR iL [.tuple [.int (g (s.top+1 - 1 - (k:Int))),.int (s.top+1 - 1 - (k:Int))],.tuple [.int (sc * s.start+(bst g s.top (k - 1)).1),.int (bst g s.top (k - 1)).2]]=.ret (.tuple [.int (pck g s.top (sc * s.start) (s.top+1 - 1 - (k:Int))).1,.int (pck g s.top (sc * s.start) (s.top+1 - 1 - (k:Int))).2]):=by
    rw [pW]
    cases k with
    | zero =>
     have ex:s.top+1 - 1 - ((0:Nat):Int)=s.top:=by simp
     rw [ex,fW,if_neg]
     show ¬ (sc * s.start+g s.top < g s.top\/sc * s.start+g s.top=g s.top/\s.top < s.top)
     omega
    | succ n =>
     have ex:s.top+1 - 1 - ((n+1:Nat):Int)=s.top - ((n+1:Nat):Int):=by omega
     rw [ex,gv,Nat.add_sub_cancel]
     have hb:=(qk g s.top n).1
     by_cases hc:sc * s.start+(bst g s.top n).1 < g (s.top - ((n+1:Nat):Int))
     ·rw [if_pos (.inl hc),if_pos hc]
     ·rw [if_neg (by omega),if_neg hc]
   have m2:bR iL [.tuple [.int (g (s.top+1 - 1 - (k:Int))),.int (s.top+1 - 1 - (k:Int))],.tuple [.int (bst g s.top (k - 1)).1,.int (bst g s.top (k - 1)).2]]=.ret (.tuple [.int (bst g s.top k).1,.int (bst g s.top k).2]):=by
    rw [pW]
    cases k with
    | zero =>
     have ex:s.top+1 - 1 - ((0:Nat):Int)=s.top:=by simp
     rw [ex,if_neg]
     ·rfl
     ·show ¬ (g s.top < g s.top\/g s.top=g s.top/\s.top < s.top)
      omega
    | succ n =>
     have ex:s.top+1 - 1 - ((n+1:Nat):Int)=s.top - ((n+1:Nat):Int):=by omega
     rw [ex,Nat.add_sub_cancel]
     have hb:=(qk g s.top n).1
     rw [bst]
     by_cases hc:(bst g s.top n).1 < g (s.top - ((n+1:Nat):Int))
     ·rw [if_pos (.inl hc),if_pos hc]
     ·rw [if_neg (by omega),if_neg hc]
   simp_arith [Zd2,ha,m1,m2,f1,f2,f3,f4,f5,hsm]
   rw [el,xS,wT]
   exact dE ⟨_,rfl,_,_,_,_,rfl⟩
  ·rintro ρ ⟨J6,J7,J8,J9,rfl⟩
   rw [ya,cS]
   exact ⟨_,J6,J7,J8,J9,rfl⟩
 ·rintro _ ⟨J5,J6,J7,J8,J9,rfl⟩
  simp_arith [yi]
  rw [Zk3]
  exact dE rfl
theorem ZhZ {s:Shp} (h:s.Ok) {g:Int->Int} {b:Nat} (hg:Bd s b g) {sc:Int} (hs:nb b sc) (h0:0<=sc) (hb:b<=3000) :
  kM [.d s.d,.d (lI (s.row g)),.d (.int sc)]=.ret (.own ((ak (-s.depth) s.n).map (dc g s.top (sc * s.start) (sc * s.piece)))):=by
 have:=h.t0
 have:=h.d0
 have:=h.td
 have e:=Zoq h (low:=-s.depth) (by omega) (by omega) (λx h1 h2=>hg x h1 h2) hs (wW h0 h.start0) hb
 simp_arith [kM]
 unfold Shp.row Shp.n
 rw [e]
 simp_arith [yi]
end My
set_option Elab.async false
set_option linter.all false
set_option maxRecDepth 100000
set_option exponentiation.threshold 9000
namespace My
open L2 Tw Bar
noncomputable def cx (A:Nat->Nat->Int) (n k i:Nat):PyData:=.list (((List.range (n+1)).map λj=>M A k i (col A j)).map PyData.int)
noncomputable def cj (A:Nat->Nat->Int) (n k at':Nat):Ai:=(List.range n).map λi=>if i < at' then cx A n (k+1) i else cx A n k i
structure SvOk (A:Nat->Nat->Int) (n:Nat):Prop where
 n9:n<=9
 d0:∀ j,j<=n->0 < d A j
 nb:∀ k i j,k<=n->i < n->j<=n->Tw.nb 3000 (M A k i (col A j))
 nd:∀ j,j<=n->Tw.nb 3000 (d A j)
theorem gR (A:Nat->Nat->Int) (n k at':Nat):(cj A n k at').length=n:=by unfold cj; rw [v7,wI]
theorem jp (A:Nat->Nat->Int) {n k at' i:Nat} (h:i < n):(cj A n k at')[i]?=some (if i < at' then cx A n (k+1) i else cx A n k i):=by
 unfold cj
 rw [v9,wm h]
 rfl
theorem ZkS {A:Nat->Nat->Int} {n k:Nat} (h:SvOk A n) (hk:k < n):cx A n (k+1) k=cx A n k k:=by
 unfold cx
 congr 2
 refine wR λj _=>?_
 exact Zrk A (λj hj=>xi (h.d0 j (by omega))) _
theorem ZkQ {A:Nat->Nat->Int} {n k i:Nat} (hi:i < n):(cj A n k i).set i (cx A n (k+1) i)=cj A n k (i+1):=by
 refine xw λq=>?_
 rw [List.getElem?_set,gR]
 by_cases e:i=q
 ·subst e
  rw [if_pos rfl,if_pos hi,jp A hi,if_pos (by omega)]
 ·rw [if_neg e]
  by_cases hq:q < n
  ·rw [jp A hq,jp A hq]
   by_cases h2:q < i
   ·rw [if_pos h2,if_pos (by omega)]
   ·rw [if_neg h2,if_neg (by omega)]
  ·rw [wA (by rw [gR]; omega),wA (by rw [gR]; omega)]
theorem ZkP {A:Nat->Nat->Int} {n k:Nat} (h:SvOk A n) (hk:k < n):cj A n k k=cj A n k (k+1):=by
 refine xw λq=>?_
 by_cases hq:q < n
 ·rw [jp A hq,jp A hq]
  by_cases h2:q < k
  ·rw [if_pos h2,if_pos (by omega)]
  ·rw [if_neg h2]
   by_cases h3:q=k
   ·subst h3
    rw [if_pos (by omega),ZkS h hk]
   ·rw [if_neg (by omega)]
 ·rw [wA (by rw [gR]; omega),wA (by rw [gR]; omega)]
theorem ZkR (A:Nat->Nat->Int) (n k:Nat):cj A n k n=cj A n (k+1) 0:=by
 unfold cj
 refine wR λi hi=>?_
 have:=wQ.mp hi
 rw [if_pos this,if_neg (by omega)]
theorem ZnZ {a m:Int} (ha:0 < a):(a * m).fdiv a=m:=by
 rw [xB _ (by omega)]
 exact yF m (by omega)
theorem ZbU {A:Nat->Nat->Int} {n k i j:Nat} (hj:j<=n):aR ao (cx A n k i) (.int j)=.ret (.int (M A k i (col A j))):=by
 unfold cx
 rw [ib,ft (v:=.int (M A k i (col A j))) (by omega) (by rw [wU,v9,v9,wm (by omega)]; rfl)]
 rfl
theorem Zka {A:Nat->Nat->Int} {n k i:Nat} (h:SvOk A n) (hk:k < n) (hi:i < n) (hik:i≠k):bG (cu (bh (aw (ah 0) (aw (ah 1) bf))) mi [.un,.un,.d (.int (d A k)),.d (.int (d A (k+1))),.d (.int (M A k i (col A k)))]) (bS (((List.range (n+1)).map λj=>M A k i (col A j)).map PyData.int) (((List.range (n+1)).map λj=>M A k k (col A j)).map PyData.int))=.ret (((List.range (n+1)).map λj=>M A (k+1) i (col A j)).map PyData.int):=by
 have key:∀ l:List Nat,(∀ j∈l,j<=n)->bG (cu (bh (aw (ah 0) (aw (ah 1) bf))) mi [.un,.un,.d (.int (d A k)),.d (.int (d A (k+1))),.d (.int (M A k i (col A k)))]) (bS ((l.map λj=>M A k i (col A j)).map PyData.int) ((l.map λj=>M A k k (col A j)).map PyData.int))=.ret ((l.map λj=>M A (k+1) i (col A j)).map PyData.int):=by
  intro l
  induction l with
  | nil=>intro _; rfl
  | cons j l ih =>
   intro hl
   have hj:=hl j (by simp)
   have ih':=ih λq hq=>hl q (v8 _ hq)
   have st:=Zrj A (k:=k) (λq hq=>xi (h.d0 q (by omega))) (col A j) hik
   rw [vY] at st
   have dk:=h.d0 k (by omega)
   have f1:=aH (h.nd k (by omega)) (by decide)
   have f2:=aH (h.nd (k+1) (by omega)) (by decide)
   have f3:=aH (h.nb k i j (by omega) hi hj) (by decide)
   have f4:=aH (h.nb k i k (by omega) hi (by omega)) (by decide)
   have f5:=aH (h.nb k k j (by omega) hk hj) (by decide)
   have ed:aR fr (.int (d A (k+1) * M A k i (col A j) - M A k i (col A k) * M A k k (col A j))) (.int (d A k))=.ret (.int (M A (k+1) i (col A j))):=by
    rw [jF (by omega) f1,<- st,ZnZ dk]
   have e0:cu (bh (aw (ah 0) (aw (ah 1) bf))) mi [.un,.un,.d (.int (d A k)),.d (.int (d A (k+1))),.d (.int (M A k i (col A k)))] (.tuple [.int (M A k i (col A j)),.int (M A k k (col A j))])=.ret (.int (M A (k+1) i (col A j))):=by
    simp_arith [mi,f2,f3,f4,f5,ed]
   have ez:bS (((j::l).map λj=>M A k i (col A j)).map PyData.int) (((j::l).map λj=>M A k k (col A j)).map PyData.int)=.tuple [.int (M A k i (col A j)),.int (M A k k (col A j))]::bS ((l.map λj=>M A k i (col A j)).map PyData.int) ((l.map λj=>M A k k (col A j)).map PyData.int):=rfl
   rw [ez,bG,e0,Tr.ret_bind,ih']
   rfl
 exact key _ λj hj=>by have:=wQ.mp hj; omega
theorem sv1 {A:Nat->Nat->Int} {n k i:Nat} (h:SvOk A n) (hk:k < n) (hi:i < n) (J6:Sl):∃ K6:Sl,mM [.own (cj A n k i),.d (.int (d A k)),.d (.int k),.d (cx A n k k),.d (.int (d A (k+1))),.d (.int i),J6]=.ret (.next [.own (cj A n k (i+1)),.d (.int (d A k)),.d (.int k),.d (cx A n k k),.d (.int (d A (k+1))),.d (.int i),K6]):=by
 by_cases e:i=k
 ·subst e
  have c:(!((i:Int) == (i:Int)))=false:=by simp
  refine ⟨J6,?_⟩
  rw [<- ZkP h hk]
  simp_arith [mM,c]
 ·have c:(!((i:Int) == (k:Int)))=true:=by simp; omega
  have hat:bz (cj A n k i) (i:Int)=some (cx A n k i):=ft (by omega) (by rw [wU,jp A hi,if_neg (by omega)])
  have hix:=ZbU (A:=A) (n:=n) (k:=k) (i:=i) (j:=k) (by omega)
  have er:=Zka h hk hi e
  have i1:dg (cx A n k i)=.ret (((List.range (n+1)).map λj=>M A k i (col A j)).map PyData.int):=rfl
  have i2:dg (cx A n k k)=.ret (((List.range (n+1)).map λj=>M A k k (col A j)).map PyData.int):=rfl
  have hs:small (bS (((List.range (n+1)).map λj=>M A k i (col A j)).map PyData.int) (((List.range (n+1)).map λj=>M A k k (col A j)).map PyData.int)).length=true:=b7 (by
   unfold bS
   have:=h.n9
   simp
   omega)
  have hx:db (cj A n k i).length (i:Int)=some i:=by
   unfold db
   rw [gR,if_pos (by omega),if_pos (by omega)]
   simp
  have e2:PyData.list (((List.range (n+1)).map λj=>M A (k+1) i (col A j)).map PyData.int)=cx A n (k+1) i:=rfl
  refine ⟨.d (.int (M A k i (col A k))),?_⟩
  simp_arith [mM,c,hat,hix,i1,i2,hs,er,uH hx,e2,ZkQ hi]
theorem sv2 {A:Nat->Nat->Int} {n k:Nat} (h:SvOk A n) (hk:k < n):∀ (m i:Nat) (J5 J6:Sl),i+m=n->∃ K5 K6:Sl,bT (ah 5) mM ((ak i m).map PyData.int) [.own (cj A n k i),.d (.int (d A k)),.d (.int k),.d (cx A n k k),.d (.int (d A (k+1))),J5,J6]=.ret (.next [.own (cj A n k n),.d (.int (d A k)),.d (.int k),.d (cx A n k k),.d (.int (d A (k+1))),K5,K6])
 | 0,i,J5,J6,e=>⟨J5,J6,by
  have e0:i=n:=by omega
  rw [e0]; rfl⟩
 | m+1,i,J5,J6,e=>by
  obtain ⟨K6,e1⟩:=sv1 h hk (show i < n by omega) J6
  obtain ⟨L5,L6,e2⟩:=sv2 h hk m (i+1) (.d (.int i)) K6 (by omega)
  refine ⟨L5,L6,?_⟩
  have er:(ak (i:Int) (m+1)).map PyData.int=.int (i:Int)::(ak ((i+1:Nat):Int) m).map PyData.int:=by
   have e1:ak (i:Int) (m+1)=ak (i:Int) 1++ak ((i:Int)+(1:Nat)) m:=by rw [<- mf,yx]
   have e2:ak (i:Int) 1=[(i:Int)]:=by unfold ak; simp
   have e3:((i+1:Nat):Int)=(i:Int)+(1:Nat):=by omega
   rw [e1,e2,e3]
   rfl
  have eg:ah 5 (.int (i:Int)) [.own (cj A n k i),.d (.int (d A k)),.d (.int k),.d (cx A n k k),.d (.int (d A (k+1))),J5,J6]=some [.own (cj A n k i),.d (.int (d A k)),.d (.int k),.d (cx A n k k),.d (.int (d A (k+1))),.d (.int i),J6]:=rfl
  rw [er,eW,eg,Tr.of_some,Tr.ret_bind,fZ,e1,Tr.ret_bind,eD,e2]
theorem sv3 {A:Nat->Nat->Int} {n k:Nat} (h:SvOk A n) (hk:k < n) (J3 J4 J5 J6:Sl):∃ K3 K4 K5 K6:Sl,pA [.own (cj A n k 0),.d (.int (d A k)),.d (.int k),J3,J4,J5,J6]=.ret (.next [.own (cj A n (k+1) 0),.d (.int (d A (k+1))),.d (.int k),K3,K4,K5,K6]):=by
 have n9:=h.n9
 obtain ⟨K5,K6,e⟩:=sv2 h hk n 0 J5 J6 (by omega)
 have hat:bz (cj A n k 0) (k:Int)=some (cx A n k k):=ft (by omega) (by rw [wU,jp A hk,if_neg (by omega)])
 have hix:=ZbU (A:=A) (n:=n) (k:=k) (i:=k) (j:=k) (by omega)
 rw [vY] at hix
 have hl:(cj A n k 0).length=n:=gR A n k 0
 have r1:fE [.int (n:Int)]=.ret ((ak ((0:Nat):Int) n).map PyData.int):=by
  rw [ia (dB (by omega) (by omega))]
  unfold aN
  have:((n:Int) - 0).toNat=n:=by omega
  rw [this]
  rfl
 refine ⟨.d (cx A n k k),.d (.int (d A (k+1))),K5,K6,?_⟩
 rw [<- ZkR]
 simp_arith only [pA,hat,hix,hl,r1,e]
theorem sv4 {A:Nat->Nat->Int} {n:Nat} (h:SvOk A n):∀ (m k:Nat) (J2 J3 J4 J5 J6:Sl),k+m=n->∃ K2 K3 K4 K5 K6:Sl,bT (ah 2) pA ((ak k m).map PyData.int) [.own (cj A n k 0),.d (.int (d A k)),J2,J3,J4,J5,J6]=.ret (.next [.own (cj A n n 0),.d (.int (d A n)),K2,K3,K4,K5,K6])
 | 0,k,J2,J3,J4,J5,J6,e=>⟨J2,J3,J4,J5,J6,by
  have e0:k=n:=by omega
  rw [e0]; rfl⟩
 | m+1,k,J2,J3,J4,J5,J6,e=>by
  obtain ⟨K3,K4,K5,K6,e1⟩:=sv3 h (show k < n by omega) J3 J4 J5 J6
  obtain ⟨L2,L3,L4,L5,L6,e2⟩:=sv4 h m (k+1) (.d (.int k)) K3 K4 K5 K6 (by omega)
  refine ⟨L2,L3,L4,L5,L6,?_⟩
  have er:(ak (k:Int) (m+1)).map PyData.int=.int (k:Int)::(ak ((k+1:Nat):Int) m).map PyData.int:=by
   have e1:ak (k:Int) (m+1)=ak (k:Int) 1++ak ((k:Int)+(1:Nat)) m:=by rw [<- mf,yx]
   have e2:ak (k:Int) 1=[(k:Int)]:=by unfold ak; simp
   have e3:((k+1:Nat):Int)=(k:Int)+(1:Nat):=by omega
   rw [e1,e2,e3]
   rfl
  have eg:ah 2 (.int (k:Int)) [.own (cj A n k 0),.d (.int (d A k)),J2,J3,J4,J5,J6]=some [.own (cj A n k 0),.d (.int (d A k)),.d (.int k),J3,J4,J5,J6]:=rfl
  rw [er,eW,eg,Tr.of_some,Tr.ret_bind,fZ,e1,Tr.ret_bind,eD,e2]
theorem ZhT {A:Nat->Nat->Int} {n:Nat} (h:SvOk A n):oZ [.own ((List.range n).map λi=>.list (((List.range (n+1)).map λj=>A i j).map PyData.int))]=.ret (.d (.tuple [.list (((List.range n).map λi=>M A n i (col A n)).map PyData.int),.int (d A n)])):=by
 have n9:=h.n9
 have e0:((List.range n).map λi=>PyData.list (((List.range (n+1)).map λj=>A i j).map PyData.int))=cj A n 0 0:=by
  unfold cj
  refine wR λi _=>?_
  rw [if_neg (by omega)]
  unfold cx
  congr 2
  refine wR λj _=>?_
  rw [Zri]
  rfl
 obtain ⟨K2,K3,K4,K5,K6,e⟩:=sv4 h n 0 .un .un .un .un .un (by omega)
 rw [p8] at e
 have hl:(cj A n 0 0).length=n:=gR A n 0 0
 have r1:fE [.int (n:Int)]=.ret ((ak ((0:Nat):Int) n).map PyData.int):=by
  rw [ia (dB (by omega) (by omega))]
  unfold aN
  have:((n:Int) - 0).toNat=n:=by omega
  rw [this]
  rfl
 have hs:small (cj A n n 0).length=true:=b7 (by rw [gR]; omega)
 have em:bG (cu (ah 0) mh [.un]) (cj A n n 0)=.ret (((List.range n).map λi=>M A n i (col A n)).map PyData.int):=by
  have key:∀ l:List Nat,(∀ i∈l,i < n)->bG (cu (ah 0) mh [.un]) (l.map λi=>if i < 0 then cx A n (n+1) i else cx A n n i)=.ret ((l.map λi=>M A n i (col A n)).map PyData.int):=by
   intro l
   induction l with
   | nil=>intro _; rfl
   | cons i l ih =>
    intro hi
    have ih':=ih λq hq=>hi q (v8 _ hq)
    have hix:aR ao (cx A n n i) (.int (-1))=.ret (.int (M A n i (col A n))):=by
     unfold cx
     have hl:(((List.range (n+1)).map λj=>M A n i (col A j)).map PyData.int).length=n+1:=by rw [v7,v7,wI]
     have ha:bz (((List.range (n+1)).map λj=>M A n i (col A j)).map PyData.int) (-1)=some (.int (M A n i (col A n))):=by
      unfold bz db
      rw [hl,if_neg (by omega),if_pos (by omega)]
      have:(-1+((n+1:Nat):Int)).toNat=n:=by omega
      simp only [Option.bind_some,this]
      rw [v9,v9,wm (by omega)]
      rfl
     rw [ib,ha]
     rfl
    have e1:cu (ah 0) mh [.un] (cx A n n i)=.ret (.int (M A n i (col A n))):=by
     simp_arith only [mh,hix]
    rw [wf,if_neg (by omega),bG,e1,Tr.ret_bind,ih']
    rfl
  exact key _ λi hi=>wQ.mp hi
 rw [e0]
 simp_arith only [oZ,hl,r1,e,hs,em]
end My
set_option Elab.async false
set_option linter.all false
set_option maxRecDepth 100000
set_option exponentiation.threshold 9000
namespace My
open L2 Tw Bar
noncomputable def jr (s:Shp) (one:Aj) (y:Int) (j:Nat):Int:=ws (λf=>if (s.nx y f+s.depth).toNat=j then 1 else 0) 0 one
noncomputable def cB (s:Shp) (one:Aj) (x y:Int):Int:=one.sum * s.ord x y+s.wg one y (λ_=>0) 1
noncomputable def cb (s:Shp) (one:Aj) (lv:Nat->Int) (n i j:Nat):Int:=if j=n then cB s one ((i:Int) - s.depth) (lv i) else if j=0 then one.sum else (if i=j then one.sum else 0) - jr s one (lv i) j
noncomputable def bM (n:Nat) (r:Nat->Int):Ai:=((List.range n).map r).map PyData.int
theorem ka (n:Nat) (r:Nat->Int):(bM n r).length=n:=by unfold bM; rw [v7,v7,wI]
theorem l9 {n:Nat} {r:Nat->Int} {j:Nat} (h:j < n):(bM n r)[j]?=some (.int (r j)):=by
 unfold bM
 rw [v9,v9,wm h]
 rfl
theorem sM {n:Nat} {r:Nat->Int} {j:Nat} (h:j < n) (v:Int):(bM n r).set j (.int v)=bM n λq=>if q=j then v else r q:=by
 refine xw λq=>?_
 rw [List.getElem?_set,ka]
 by_cases e:j=q
 ·subst e
  rw [if_pos rfl,if_pos h,l9 h,if_pos rfl]
 ·rw [if_neg e]
  by_cases hq:q < n
  ·rw [l9 hq,l9 hq,if_neg (by omega)]
  ·rw [wA (by rw [ka]; omega),wA (by rw [ka]; omega)]
theorem sN {n:Nat} {r r':Nat->Int} (h:∀ j,j < n->r j=r' j):bM n r=bM n r':=by
 unfold bM
 congr 1
 exact wR λj hj=>h j (wQ.mp hj)
theorem ZhO {s:Shp} (h:s.Ok) {y:Int} (y1:-s.depth<=y) (y2:y<=s.top) (O X7 X8:Sl) (x:Sl):∀ (l:Aj) (k:Nat) (r:Nat->Int) (J5 J6:Sl),∃ K5 K6:Sl,bT (bh (aw (ah 5) (aw (ah 6) bf))) pG (enu k l) [.d s.d,O,x,.d (.int y),.own (bM s.n r),J5,J6,X7,X8]=.ret (.next [.d s.d,O,x,.d (.int y),.own (bM s.n λj=>r j - ws (λf=>if (s.nx y f+s.depth).toNat=j then 1 else 0) k l),K5,K6,X7,X8])
 | [],k,r,J5,J6=>⟨J5,J6,by
  have e:bM s.n (λj=>r j - ws (λf=>if (s.nx y f+s.depth).toNat=j then 1 else 0) k [])=bM s.n r:=sN λj _=>by rw [ws,Int.sub_zero]
  rw [e]
  rfl⟩
 | w::l,k,r,J5,J6=>by
  have n1:=gA s y k
  have n2:=gz h y2 (show (0:Int)<=k by omega)
  have hn:=h.n_eq
  have hj:(s.nx y k+s.depth).toNat < s.n:=by omega
  obtain ⟨K5,K6,e⟩:=ZhO h y1 y2 O X7 X8 x l (k+1) (λj=>if j=(s.nx y k+s.depth).toNat then r (s.nx y k+s.depth).toNat - w else r j) (.d (.int k)) (.d (.int w))
  refine ⟨K5,K6,?_⟩
  have e1:=uM s y k
  have ha:=Zhz (g:=λi j=>i - j) (k:=4) (i:=aa 6) (ρ:=[.d s.d,O,x,.d (.int y),.own (bM s.n r),.d (.int k),.d (.int w),X7,X8]) (xs:=bM s.n r) (y:=s.nx y k+s.depth) (a:=r (s.nx y k+s.depth).toNat) (by omega) (l9 hj)
  have et:pG [.d s.d,O,x,.d (.int y),.own (bM s.n r),.d (.int k),.d (.int w),X7,X8]=.ret (.next [.d s.d,O,x,.d (.int y),.own (bM s.n λj=>if j=(s.nx y k+s.depth).toNat then r (s.nx y k+s.depth).toNat - w else r j),.d (.int k),.d (.int w),X7,X8]):=by
   unfold pG
   rw [Zhh (xs:=bM s.n r) rfl]
   have en:(ac aM (ay (av jv (ad (aa 0) (ad (aa 3) (ad (aa 5) aq))))) (ac ao (aa 0) (aC (.int 1)))) [.d s.d,O,x,.d (.int y),.own (bM s.n r),.d (.int k),.d (.int w),X7,X8]=.ret (.int (s.nx y k+s.depth)):=by
    simp_arith [e1]
   rw [en,Tr.ret_bind,ha,Zhy]
   have ew:aa 6 [.d s.d,O,x,.d (.int y),.own (bM s.n r),.d (.int k),.d (.int w),X7,X8]=.ret (.int w):=rfl
   rw [ew,Tr.ret_bind,Zhx,sM hj]
   rfl
  have eg:(bh (aw (ah 5) (aw (ah 6) bf))) (.tuple [.int (k:Int),.int w]) [.d s.d,O,x,.d (.int y),.own (bM s.n r),J5,J6,X7,X8]=some [.d s.d,O,x,.d (.int y),.own (bM s.n r),.d (.int k),.d (.int w),X7,X8]:=rfl
  have er:(bM s.n λj=>(if j=(s.nx y k+s.depth).toNat then r (s.nx y k+s.depth).toNat - w else r j) - ws (λf=>if (s.nx y f+s.depth).toNat=j then 1 else 0) (k+1) l)=bM s.n λj=>r j - ws (λf=>if (s.nx y f+s.depth).toNat=j then 1 else 0) k (w::l):=sN λj hj=>by
   rw [ws]
   by_cases q:j=(s.nx y k+s.depth).toNat
   ·subst q
    rw [if_pos rfl,if_pos rfl]
    omega
   ·rw [if_neg q,if_neg (λe=>q e.symm)]
    omega
  rw [enu,eW,eg,Tr.of_some,Tr.ret_bind,fZ,et,Tr.ret_bind,eD,e,er]
theorem Zon {s:Shp} (h:s.Ok) {one:Aj} (hd:DayB one) {i:Nat} (hi:i < s.n) {lv:Nat->Int} (y0:(i:Int) - s.depth<=lv i) (y2:lv i<=s.top) :
  pe [.d s.d,.d (tI one),.d (.int ((i:Int) - s.depth)),.d (.int (lv i))]=.ret (.d (.list (((List.range (s.n+1)).map λj=>cb s one lv s.n i j).map PyData.int))):=by
 have hn:=h.n_eq
 have t0:=h.t0
 have d0:=h.d0
 have td:=h.td
 have y1:-s.depth<=lv i:=by omega
 have hrep:m9 kc (.list [.int 0]) (.int (s.top+s.depth+1))=.ret (bM s.n λ_=>0):=by
  rw [Zk4 (by simp; omega)]
  have e1:(s.top+s.depth+1).toNat=s.n:=by omega
  rw [e1]
  unfold bM
  congr 1
  generalize s.n=m
  induction m with
  | zero=>rfl
  | succ m ih=>rw [List.replicate_succ',List.flatten_append,ih,xS,wT,wT]; rfl
 have ei:(i:Int) - s.depth+s.depth=(i:Int):=by omega
 have ea:jN (λi j=>i+j) 4 (ac aM (aa 2) (ac ao (aa 0) (aC (.int 1)))) (bb dm (ae (aa 1) am)) [.d s.d,.d (tI one),.d (.int ((i:Int) - s.depth)),.d (.int (lv i)),.own (bM s.n λ_=>0),.un,.un,.un,.un]=.ret (.next [.d s.d,.d (tI one),.d (.int ((i:Int) - s.depth)),.d (.int (lv i)),.own (bM s.n λj=>if j=i then one.sum else 0),.un,.un,.un,.un]):=by
  rw [Zhh (xs:=bM s.n λ_=>0) rfl]
  have en:(ac aM (aa 2) (ac ao (aa 0) (aC (.int 1)))) [.d s.d,.d (tI one),.d (.int ((i:Int) - s.depth)),.d (.int (lv i)),.own (bM s.n λ_=>0),.un,.un,.un,.un]=.ret (.int (i:Int)):=by
   simp_arith only [ei]
  rw [en,Tr.ret_bind,Zhz (a:=0) (by omega) (by rw [wU]; exact l9 hi),Zhy]
  have ew:(bb dm (ae (aa 1) am)) [.d s.d,.d (tI one),.d (.int ((i:Int) - s.depth)),.d (.int (lv i)),.own (bM s.n λ_=>0),.un,.un,.un,.un]=.ret (.int one.sum):=by
   simp_arith only [gj]
  rw [ew,Tr.ret_bind,Zhx,wU,sM hi,Int.zero_add]
  rfl
 obtain ⟨K5,K6,eL⟩:=ZhO h y1 y2 (.d (tI one)) .un .un (.d (.int ((i:Int) - s.depth))) one 0 (λj=>if j=i then one.sum else 0) .un .un
 have ee:eE (one.map PyData.int)=enu 0 one:=uJ one
 generalize hr:(λj=>(if j=i then one.sum else 0) - ws (λf=>if (s.nx (lv i) f+s.depth).toNat=j then 1 else 0) 0 one)=r at *
 have hx:db (bM s.n r).length 0=some 0:=by
  unfold db
  rw [ka,if_pos (by omega),if_pos (by omega)]
  rfl
 have hmul:aR bd (.list [.int 0]) (.int (s.n:Int))=.ret (lI (s.row λ_=>0)):=by
  have hsm:small ([PyData.int 0].length * (s.n:Int).toNat)=true:=b7 (by rw [wU]; show 1 * _<=_; omega)
  have hc:(decide (-(2 ^ 63)<=(s.n:Int)) && decide ((s.n:Int) < 2 ^ 63) && small ([PyData.int 0].length * (s.n:Int).toNat))=true:=by
   rw [hsm,decide_eq_true (show -(2 ^ 63)<=(s.n:Int) by omega),decide_eq_true (show (s.n:Int) < 2 ^ 63 by omega)]
   rfl
  have ef:(List.replicate s.n [PyData.int 0]).flatten=(s.row λ_=>0).map PyData.int:=by
   unfold Shp.row ak
   rw [wu,wu]
   generalize s.n=m
   induction m with
   | zero=>rfl
   | succ m ih=>rw [List.replicate_succ',List.flatten_append,ih,xS,wT]; rfl
  have em:bd (.list [.int 0]) (.int (s.n:Int))=some (lI (s.row λ_=>0)):=by
   rw [bd,if_pos hc,wU,ef]
   rfl
  unfold aR
  rw [em]
  rfl
 have hz:Bd s 1 λ_=>0:=λx _ _=>by show (0:Int).natAbs < 2 ^ 1; decide
 have ew:=pY h hd y1 y2 (hz) (sc:=1) (b:=1) (by show (1:Int).natAbs < 2 ^ 1; decide) (by decide)
 have eo:=uL h (fU h (show -s.depth<=(i:Int) - s.depth by omega) (by omega)) (fU h y1 y2)
 have g1:=aH (dG hd) (by decide)
 have g2:=aH (oN h (fU h (show -s.depth<=(i:Int) - s.depth by omega) (by omega)) (fU h y1 y2)) (by decide)
 have hl4:∀ q:Nat->Int,(bM s.n q).length=s.n:=ka s.n
 have hset:(bM s.n r).set 0 (.int one.sum)=bM s.n λq=>if q=0 then one.sum else r q:=sM (by omega) _
 have hs:small ((bM s.n λq=>if q=0 then one.sum else r q).length+[PyData.int (cB s one ((i:Int) - s.depth) (lv i))].length)=true:=b7 (by rw [ka]; show _+1<=_; omega)
 have hfin:(bM s.n λq=>if q=0 then one.sum else r q)++[PyData.int (cB s one ((i:Int) - s.depth) (lv i))]=((List.range (s.n+1)).map λj=>cb s one lv s.n i j).map PyData.int:=by
  rw [xS,wT,wT]
  have e1:(bM s.n λq=>if q=0 then one.sum else r q)=((List.range s.n).map λj=>cb s one lv s.n i j).map PyData.int:=sN λj hj=>by
   unfold cb
   rw [if_neg (show ¬ j=s.n by omega)]
   by_cases e:j=0
   ·rw [if_pos e,if_pos e]
   ·rw [if_neg e,if_neg e,<- hr]
    unfold jr
    dsimp only
    by_cases e2:j=i
    ·rw [if_pos e2,if_pos e2.symm]
    ·rw [if_neg e2,if_neg (λq=>e2 q.symm)]
  have e2:([s.n].map λj=>cb s one lv s.n i j).map PyData.int=[PyData.int (cB s one ((i:Int) - s.depth) (lv i))]:=by
   unfold cb
   simp
  rw [e1,e2]
 have hadd:aR aM (.list (bM s.n λq=>if q=0 then one.sum else r q)) (.list [PyData.int (cB s one ((i:Int) - s.depth) (lv i))])=.ret (.list (((List.range (s.n+1)).map λj=>cb s one lv s.n i j).map PyData.int)):=by rw [mV hs,hfin]
 unfold cB at hadd
 simp_arith only [pe,Zn2,Zn1,hrep,ea,pJ,ee,eL,gj,uH hx,hset,hl4,hmul,eo,ew,g1,g2,hadd]
end My
set_option Elab.async false
set_option linter.all false
set_option maxRecDepth 100000
set_option exponentiation.threshold 9000
namespace My
open L2 Tw Bar
theorem nJ {f:Int->Int}:∀ {l:Aj} {k:Nat},(∀ w∈l,0<=w)->(∀ x:Int,0<=f x)->0<=ws f k l
 | [],k,_,_=>by rw [ws]; exact wG _
 | w::l,k,h0,hf=>by
  have a:=nJ (f:=f) (l:=l) (k:=k+1) (λv hv=>h0 v (v8 _ hv)) hf
  have b:=wW (h0 w (by simp)) (hf k)
  rw [ws]
  omega
theorem rf {f:Int->Int}:∀ {l:Aj} {k:Nat},(∀ w∈l,0<=w)->(∀ x:Int,0<=f x)->∀ {x:Int},x∈fh k l->0 < f x->0 < ws f k l
 | [],k,_,_,x,hx,_=>by cases hx
 | w::l,k,h0,hf,x,hx,hp=>by
  have h0':∀ v∈l,0<=v:=λv hv=>h0 v (v8 _ hv)
  have a:=nJ (f:=f) (l:=l) (k:=k+1) h0' hf
  have b:=wW (h0 w (by simp)) (hf k)
  rw [ws]
  rw [fh] at hx
  by_cases hw:w > 0
  ·rw [if_pos hw] at hx
   rcases wt.mp hx with rfl | hx
   ·have:=wV hw hp
    omega
   ·have:=rf h0' hf hx hp
    omega
  ·rw [if_neg hw] at hx
   have:=rf h0' hf hx hp
   omega
theorem Zke {g:Nat} {n:Nat} (h:g < n) (w:Int):Bar.az (λj=>w * (if g=j then 1 else 0)) n=w:=by
 have key:∀ m:Nat,Bar.az (λj=>w * (if g=j then 1 else 0)) m=if g < m then w else 0:=by
  intro m
  induction m with
  | zero=>rfl
  | succ m ih =>
   rw [Bar.az,ih]
   by_cases e:g=m
   ·subst e
    rw [if_neg (by omega),if_pos rfl,if_pos (by omega)]
    omega
   ·rw [if_neg e]
    by_cases e2:g < m
    ·rw [if_pos e2,if_pos (by omega)]
     omega
    ·rw [if_neg e2,if_neg (by omega)]
     omega
 rw [key,if_pos h]
theorem rJ (f g:Nat->Int):∀ n:Nat,Bar.az (λj=>f j+g j) n=Bar.az f n+Bar.az g n
 | 0=>rfl
 | n+1=>by rw [Bar.az,Bar.az,Bar.az,rJ f g n]; omega
theorem ZaN {n:Nat} {ix:Int->Nat} (h:∀ x:Int,0<=x->ix x < n):∀ (l:Aj) (k:Nat),Bar.az (λj=>ws (λf=>if ix f=j then 1 else 0) k l) n=l.sum
 | [],k=>by
  rw [lP λj _=>by rw [ws]]
  rfl
 | w::l,k=>by
  have ih:=ZaN h l (k+1)
  have e:(λj=>ws (λf=>if ix f=j then 1 else 0) k (w::l))=λj=>w * (if ix (k:Int)=j then 1 else 0)+ws (λf=>if ix f=j then 1 else 0) (k+1) l:=funext λj=>by rw [ws]
  rw [e,rJ,Zke (h k (by omega)),ih,xu]
structure RuOk (s:Shp) (one:Aj) (lv:Nat->Int):Prop where
 h:s.Ok
 n9:s.n<=9
 hd:DayB one
 gr:s.top+s.depth<=great one
 ps:∃ w∈one,w > 0
 lo:∀ i,i < s.n->(i:Int) - s.depth<=lv i
 hi:∀ i,i < s.n->lv i<=s.top
theorem kh {s:Shp} {one:Aj} {lv:Nat->Int} (r:RuOk s one lv):Pol s.n (cb s one lv s.n) (λi j=>jr s one (lv i) j) one.sum:=by
 have h:=r.h
 have hn:=h.n_eq
 have t0:=h.t0
 have d0:=h.d0
 refine ⟨r.hd.pos,λi hi=>?_,λi j hi j1 j2=>?_,λi j _ _=>?_,λi hi=>?_,λi hi=>?_⟩
 ·unfold cb
  rw [if_neg (by omega),if_pos rfl]
 ·unfold cb
  rw [if_neg (by omega),if_neg (by omega)]
 ·exact nJ r.hd.w0 λx=>by split <;> omega
 ·have y2:=r.hi i hi
  have y1:=r.lo i hi
  have hg:=(my (rM (k:=0) r.ps)).1
  refine rf r.hd.w0 (λx=>by split <;> omega) (x:=great one) hg ?_
  have gr:=r.gr
  have en:s.nx (lv i) (great one)=-s.depth:=by unfold Shp.nx b8; split <;> omega
  rw [en,if_pos (by omega)]
  decide
 ·exact ZaN (ix:=λf=>(s.nx (lv i) f+s.depth).toNat) (λx hx=>by
   have n1:=gA s (lv i) x
   have n2:=gz h (r.hi i hi) hx
   omega) one 0
theorem Zp6 {s:Shp} {one:Aj} {lv:Nat->Int} (r:RuOk s one lv) {i:Nat} (hi:i < s.n):nb 160 (cB s one ((i:Int) - s.depth) (lv i)):=by
 have h:=r.h
 have hn:=h.n_eq
 have t0:=h.t0
 have d0:=h.d0
 have y2:=r.hi i hi
 have y1:=r.lo i hi
 have a1:=bJ (dG r.hd) (oN h (fU h (show -s.depth<=(i:Int) - s.depth by omega) (show (i:Int) - s.depth<=s.top by omega)) (fU h (show -s.depth<=lv i by omega) y2))
 have a2:nb (30+110+one.length) (s.wg one (lv i) (λ_=>0) 1):=by
  unfold Shp.wg
  refine Zae (a:=30) (b:=110) r.hd.nb λx x1 x2=>?_
  have hl:=r.hd.len
  have:=lg h (fU h (show -s.depth<=lv i by omega) y2) (show nb 40 x from bP (by show -1099511627776 < _; omega) (by show _ < 1099511627776; omega))
  rw [zx,yo]
  exact aT this (by decide)
 unfold cB
 exact aT (dO a1 a2) (by have:=r.hd.len; omega)
theorem ld {s:Shp} {one:Aj} {lv:Nat->Int} (r:RuOk s one lv) {i j:Nat} (hi:i < s.n):nb 160 (cb s one lv s.n i j):=by
 unfold cb
 split
 ·exact Zp6 r hi
 ·split
  ·exact aT (dG r.hd) (by decide)
  ·have h1:nb 46 (if i=j then one.sum else 0):=by
    split
    ·exact dG r.hd
    ·exact kw _
   have h2:nb (30+1+one.length) (jr s one (lv i) j):=Zaf (a:=30) (b:=1) (λx _=>by
    split
    ·show (1:Int).natAbs < 2 ^ 1; decide
    ·exact kw _) r.hd.nb
   exact aT (fJ h1 h2) (by have:=r.hd.len; omega)
theorem ZaF {s:Shp} {one:Aj} {lv:Nat->Int} (r:RuOk s one lv):SvOk (cb s one lv s.n) s.n:=by
 have p:=kh r
 refine ⟨r.n9,λj hj=>leads p j hj,λk i j hk hi hj=>?_,λj hj=>?_⟩
 ·exact aT (Zjc (b:=160) r.n9 (λi j hi _=>ld r hi) hk hi λq hq=>ld r hq) (by decide)
 ·exact aT (qa (b:=160) r.n9 (λi j hi _=>ld r hi) hj) (by decide)
end My
set_option Elab.async false
set_option linter.all false
set_option maxRecDepth 100000
set_option exponentiation.threshold 9000
namespace My
open L2 Tw Bar
noncomputable def zB (s:Shp) (one:Aj) (lv:Nat->Int) (i:Nat):Int:=M (cb s one lv s.n) s.n i (col (cb s one lv s.n) s.n)
noncomputable def aJ (s:Shp) (one:Aj) (lv:Nat->Int):Int:=d (cb s one lv s.n) s.n
noncomputable def wB (s:Shp) (one:Aj) (lv:Nat->Int) (x:Int):Int:=if x=-s.depth then 0 else zB s one lv (x+s.depth).toNat
theorem Zih (xs:Ai):L2.fO xs (some 1) none=xs.drop 1:=by
 unfold L2.fO
 have e1:(1:Int)=((1:Nat):Int):=rfl
 rw [e1,HT.ZbT,HT.ZkM]
 cases xs with
 | nil=>rfl
 | cons x xs =>
  rw [yU (by simp),List.take_of_length_le (by rw [x9]; exact wa _)]
theorem Zam {s:Shp} (h:s.Ok) (one:Aj) (lv:Nat->Int):PyData.int 0::(((List.range s.n).map (zB s one lv)).map PyData.int).drop 1=(s.row (wB s one lv)).map PyData.int:=by
 have hn:=h.n_eq
 have t0:=h.t0
 have d0:=h.d0
 unfold Shp.row ak
 rw [wu,wu,wu]
 refine xw λq=>?_
 rw [v9]
 cases q with
 | zero =>
  rw [wm (by omega)]
  show some (PyData.int 0)=some (PyData.int (wB s one lv (-s.depth+((0:Nat):Int))))
  unfold wB
  rw [if_pos (by omega)]
 | succ q =>
  rw [yJ,List.getElem?_drop,v9,yx 1 q]
  by_cases hq:q+1 < s.n
  ·rw [wm hq]
   show some (PyData.int (zB s one lv (q+1)))=some (PyData.int (wB s one lv (-s.depth+((q+1:Nat):Int))))
   unfold wB
   have e:(-s.depth+((q+1:Nat):Int)+s.depth).toNat=q+1:=by omega
   rw [if_neg (by omega),e]
  ·rw [wA (by rw [wI]; omega)]
   rfl
theorem Zde {s:Shp} {one:Aj} {lv:Nat->Int} (r:RuOk s one lv):bG (cu (bh (aw (ah 0) (aw (ah 1) bf))) mj [.un,.un,.d s.d,.d (tI one)]) (bS (aN (-s.depth) (s.top+1)) (((List.range s.n).map lv).map PyData.int))=.ret ((List.range s.n).map λi=>.list (((List.range (s.n+1)).map λj=>cb s one lv s.n i j).map PyData.int)):=by
 have h:=r.h
 have hn:=h.n_eq
 have e1:bS (aN (-s.depth) (s.top+1)) (((List.range s.n).map lv).map PyData.int)=(List.range s.n).map λi:Nat=>PyData.tuple [.int ((i:Int) - s.depth),.int (lv i)]:=by
  unfold aN ak bS
  have e:(s.top+1 - -s.depth).toNat=s.n:=rfl
  rw [e,wu,wu]
  have key:∀ l:List Nat,((l.map (PyData.int ∘ λk:Nat=>-s.depth+(k:Int))).zip (l.map (PyData.int ∘ lv))).map (λp=>PyData.tuple [p.1,p.2])=l.map λi:Nat=>PyData.tuple [.int ((i:Int) - s.depth),.int (lv i)]:=by
   intro l
   induction l with
   | nil=>rfl
   | cons i l ih =>
    rw [wf,wf,ze,wf,wf,ih]
    have:-s.depth+(i:Int)=(i:Int) - s.depth:=by omega
    simp only [zb,this]
  exact key _
 rw [e1]
 have key:∀ l:List Nat,(∀ i∈l,i < s.n)->bG (cu (bh (aw (ah 0) (aw (ah 1) bf))) mj [.un,.un,.d s.d,.d (tI one)]) (l.map λi:Nat=>PyData.tuple [.int ((i:Int) - s.depth),.int (lv i)])=.ret (l.map λi=>.list (((List.range (s.n+1)).map λj=>cb s one lv s.n i j).map PyData.int)):=by
  intro l
  induction l with
  | nil=>intro _; rfl
  | cons i l ih =>
   intro hl
   have hi:=hl i (by simp)
   have e:=Zon h r.hd hi (r.lo i hi) (r.hi i hi)
   have e0:cu (bh (aw (ah 0) (aw (ah 1) bf))) mj [.un,.un,.d s.d,.d (tI one)] (.tuple [.int ((i:Int) - s.depth),.int (lv i)])=.ret (.list (((List.range (s.n+1)).map λj=>cb s one lv s.n i j).map PyData.int)):=by
    simp_arith [mj,e]
   rw [wf,bG,e0,Tr.ret_bind,ih λq hq=>hl q (v8 _ hq)]
   rfl
 exact key _ λi hi=>wQ.mp hi
theorem Zoe {s:Shp} {one:Aj} {lv:Nat->Int} (r:RuOk s one lv):iP [.d s.d,.d (tI one),.d (lI ((List.range s.n).map lv))]=.ret (.d (.tuple [.int (zB s one lv 0),lI (s.row (wB s one lv)),.int (aJ s one lv)])):=by
 have h:=r.h
 have hn:=h.n_eq
 have t0:=h.t0
 have d0:=h.d0
 have n9:=r.n9
 have e1:=ic h
 have em:=Zde r
 have es:=ZhT (ZaF r)
 have it:∀ xs,dg (.tuple xs)=.ret xs:=λ_=>rfl
 have hs:small (bS (aN (-s.depth) (s.top+1)) (((List.range s.n).map lv).map PyData.int)).length=true:=b7 (by
  unfold bS
  rw [v7,ye,cS]
  omega)
 have ew:=Zam h one lv
 have ez:((List.range s.n).map λi=>M (cb s one lv s.n) s.n i (col (cb s one lv s.n) s.n)).map PyData.int=((List.range s.n).map (zB s one lv)).map PyData.int:=rfl
 rw [ez] at es
 have a0:aR ao (.list (((List.range s.n).map (zB s one lv)).map PyData.int)) (.int 0)=.ret (.int (zB s one lv 0)):=by
  rw [ib,ft (v:=.int (zB s one lv 0)) (by decide) (by rw [v9,v9]; show Option.map _ (Option.map _ ((List.range s.n)[0]?))=_; rw [wm (by omega)]; rfl)]
  rfl
 have a1:gQ (.list (((List.range s.n).map (zB s one lv)).map PyData.int)) (some 1) none=.ret (.list ((((List.range s.n).map (zB s one lv)).map PyData.int).drop 1)):=by
  rw [pV,Zih]
 have a2:aR aM (.list [.int 0]) (.list ((((List.range s.n).map (zB s one lv)).map PyData.int).drop 1))=.ret (lI (s.row (wB s one lv))):=by
  rw [mV (b7 (by rw [x9,v7,v7,wI]; show 1+_<=_; omega))]
  show Tr.ret (PyData.list (PyData.int 0::(((List.range s.n).map (zB s one lv)).map PyData.int).drop 1))=_
  rw [ew]
  rfl
 have ed:d (cb s one lv s.n) s.n=aJ s one lv:=rfl
 rw [ed] at es
 generalize ((List.range s.n).map (zB s one lv)).map PyData.int=zs at *
 simp_arith only [iP,Zhc,Zhe,e1,it,Zd8,hs,em,es,a0,a1,a2]
end My
set_option Elab.async false
set_option linter.all false
set_option maxRecDepth 100000
set_option exponentiation.threshold 9000
namespace My
open L2 Tw Bar
theorem Zkd {g n:Nat} (h:g < n) (w:Int) (v:Nat->Int):Bar.az (λj=>w * (if g=j then 1 else 0) * v j) n=w * v g:=by
 have key:∀ m:Nat,Bar.az (λj=>w * (if g=j then 1 else 0) * v j) m=if g < m then w * v g else 0:=by
  intro m
  induction m with
  | zero=>rfl
  | succ m ih =>
   rw [Bar.az,ih]
   by_cases e:g=m
   ·subst e
    rw [if_neg (by omega),if_pos rfl,if_pos (by omega),yK]
    omega
   ·rw [if_neg e]
    by_cases e2:g < m
    ·rw [if_pos e2,if_pos (by omega)]
     simp
    ·rw [if_neg e2,if_neg (by omega)]
     simp
 rw [key,if_pos h]
theorem ZaI {n:Nat} {ix:Int->Nat} (h:∀ x:Int,0<=x->ix x < n) (v:Nat->Int):∀ (l:Aj) (k:Nat),Bar.az (λj=>ws (λf=>if ix f=j then 1 else 0) k l * v j) n=ws (λf=>v (ix f)) k l
 | [],k=>by
  rw [lP λj _=>by rw [ws,Int.zero_mul]]
  rfl
 | w::l,k=>by
  have ih:=ZaI h v l (k+1)
  have e:(λj=>ws (λf=>if ix f=j then 1 else 0) k (w::l) * v j)=λj=>w * (if ix (k:Int)=j then 1 else 0) * v j+ws (λf=>if ix f=j then 1 else 0) (k+1) l * v j:=funext λj=>by rw [ws,Int.add_mul]
  rw [e,rJ,Zkd (h k (by omega)),ih]
  rfl
noncomputable def vB (s:Shp) (one:Aj) (A:Int->Int) (D x y:Int):Int:=D * one.sum * s.ord x y+s.wg one y A D
theorem Zad (f g:Int->Int) (D:Int):∀ (l:Aj) (k:Nat),ws (λx=>D * f x+g x) k l=D * ws (λx=>1 * f x+0) k l+ws g k l
 | [],k=>by simp [ws]
 | w::l,k=>by
  rw [ws,ws,ws,Zad f g D l (k+1)]
  grind
theorem l7 {s:Shp} {one:Aj} {lv:Nat->Int} (r:RuOk s one lv) (z:Nat->Int) (A:Int->Int) (hA:∀ x,-s.depth<=x->x<=s.top->A x=if (x+s.depth).toNat=0 then 0 else z (x+s.depth).toNat) (D:Int) {i:Nat} (hi:i < s.n) :
  Bar.az (λl=>cb s one lv s.n i l * z l) s.n=one.sum * z 0+one.sum * A ((i:Int) - s.depth) - (vB s one A D ((i:Int) - s.depth) (lv i) - D * cB s one ((i:Int) - s.depth) (lv i)):=by
 have h:=r.h
 have hn:=h.n_eq
 have t0:=h.t0
 have d0:=h.d0
 obtain ⟨m,hm⟩:∃ m,s.n=m+1:=⟨s.n - 1,by omega⟩
 have e1:=gq (kh r) z hi (m:=m) (by omega)
 rw [<- hm] at e1
 rw [e1]
 have e2:(λl=>jr s one (lv i) l * (if l=0 then 0 else z l))=λl=>ws (λf=>if (s.nx (lv i) f+s.depth).toNat=l then 1 else 0) 0 one * (λl=>if l=0 then 0 else z l) l:=rfl
 rw [e2,ZaI (ix:=λf=>(s.nx (lv i) f+s.depth).toNat) (λx hx=>by
   have n1:=gA s (lv i) x
   have n2:=gz h (r.hi i hi) hx
   omega)]
 have e3:ws (λf=>(λl=>if l=0 then 0 else z l) (s.nx (lv i) f+s.depth).toNat) 0 one=ws (λf=>A (s.nx (lv i) f)) 0 one:=lJ λf hf=>by
  have n1:=gA s (lv i) f
  have n2:=gz h (r.hi i hi) hf
  rw [hA _ n1 n2]
 rw [e3]
 have e4:A ((i:Int) - s.depth)=if i=0 then 0 else z i:=by
  rw [hA _ (by omega) (by omega)]
  have:((i:Int) - s.depth+s.depth).toNat=i:=by omega
  rw [this]
 have e5:(if 1<=i/\i<=m then one.sum * z i else 0)=one.sum * A ((i:Int) - s.depth):=by
  rw [e4]
  by_cases e:i=0
  ·rw [if_neg (by omega),if_pos e,xN]
  ·rw [if_pos (by omega),if_neg e]
 rw [e5]
 have e6:s.wg one (lv i) A D=D * s.wg one (lv i) (λ_=>0) 1+ws (λf=>A (s.nx (lv i) f)) 0 one:=Zad (λf=>s.day (lv i) f) (λf=>A (s.nx (lv i) f)) D one 0
 unfold vB cB
 rw [e6]
 grind
theorem fR {s:Shp} {one:Aj} {A:Int->Int} {D x y:Int} (h:x<=y):vB s one A D x y=cp (s.sm one A D) (D * one.sum * s.start) x y - D * one.sum * s.piece * x:=by
 unfold vB cp Shp.sm Shp.ord
 by_cases e:x < y
 ·rw [if_pos e,if_neg (by omega)]
  grind
 ·have:y=x:=by omega
  subst this
  rw [if_neg e,if_pos (by omega)]
  grind
end My
set_option Elab.async false
set_option linter.all false
set_option maxRecDepth 100000
set_option exponentiation.threshold 9000
namespace My
open L2 Tw Bar
noncomputable def gB (s:Shp) (one:Aj) (lv:Nat->Int):Int->Int:=s.sm one (wB s one lv) (aJ s one lv)
noncomputable def kB (s:Shp) (one:Aj) (lv:Nat->Int):Int:=aJ s one lv * one.sum * s.start
noncomputable def bn (s:Shp) (one:Aj) (lv:Nat->Int) (i:Nat):Int:=if i < s.n then lvl (gB s one lv) s.top (kB s one lv) ((i:Int) - s.depth) else 0
theorem kr {s:Shp} {one:Aj} {lv:Nat->Int} {i:Nat} (hi:i < s.n):bn s one lv i=(pck (gB s one lv) s.top (kB s one lv) ((i:Int) - s.depth)).2:=if_pos hi
theorem dq {s:Shp} {one:Aj} {lv:Nat->Int} (r:RuOk s one lv):0 < aJ s one lv:=leads (kh r) s.n (wa _)
theorem js {s:Shp} {one:Aj} {lv:Nat->Int} (r:RuOk s one lv):RuOk s one (bn s one lv):=by
 have hn:=r.h.n_eq
 refine ⟨r.h,r.n9,r.hd,r.gr,r.ps,λi hi=>?_,λi hi=>?_⟩
 ·rw [kr hi]
  exact (eS (g:=gB s one lv) (top:=s.top) (K:=kB s one lv) (x:=(i:Int) - s.depth) (by omega)).1
 ·rw [kr hi]
  exact (eS (g:=gB s one lv) (top:=s.top) (K:=kB s one lv) (x:=(i:Int) - s.depth) (by omega)).2.1
theorem oK {s:Shp} {one:Aj} {lv:Nat->Int} (r:RuOk s one lv) {i:Nat} (hi:i < s.n):Bar.az (λl=>cb s one lv s.n i l * zB s one lv l) s.n=aJ s one lv * cB s one ((i:Int) - s.depth) (lv i):=by
 have:=Zrl (cb s one lv s.n) hi (col (cb s one lv s.n) s.n)
 have e:col (cb s one lv s.n) s.n i=cB s one ((i:Int) - s.depth) (lv i):=by
  unfold col cb
  rw [if_pos rfl]
 rw [e] at this
 exact this
theorem lK {s:Shp} (one:Aj) (lv:Nat->Int) (x:Int) (x1:-s.depth<=x) (x2:x<=s.top):wB s one lv x=if (x+s.depth).toNat=0 then 0 else zB s one lv (x+s.depth).toNat:=by
 unfold wB
 by_cases e:x=-s.depth
 ·rw [if_pos e,if_pos (by omega)]
 ·rw [if_neg e,if_neg (by omega)]
noncomputable def gP (s:Shp) (one:Aj) (lv:Nat->Int) (i:Nat):Int:=cp (gB s one lv) (kB s one lv) ((i:Int) - s.depth) (lv i) - (pck (gB s one lv) s.top (kB s one lv) ((i:Int) - s.depth)).1
theorem ZaO {s:Shp} {one:Aj} {lv:Nat->Int} (r:RuOk s one lv) {i:Nat} (hi:i < s.n):0<=gP s one lv i:=by
 have hn:=r.h.n_eq
 obtain ⟨p1,p2⟩:=oG (g:=gB s one lv) (top:=s.top) (K:=kB s one lv) (x:=(i:Int) - s.depth) (by omega)
 have y1:=r.lo i hi
 have y2:=r.hi i hi
 unfold gP cp
 split
 ·have:=p2 (lv i) (by omega) y2
  omega
 ·have:lv i=(i:Int) - s.depth:=by omega
  rw [this]
  omega
theorem uU {s:Shp} {one:Aj} {lv:Nat->Int} (r:RuOk s one lv) {i:Nat} (hi:i < s.n):cp (gB s one lv) (kB s one lv) ((i:Int) - s.depth) (bn s one lv i)=(pck (gB s one lv) s.top (kB s one lv) ((i:Int) - s.depth)).1:=by
 have hn:=r.h.n_eq
 obtain ⟨q1,q2,q3⟩:=eS (g:=gB s one lv) (top:=s.top) (K:=kB s one lv) (x:=(i:Int) - s.depth) (by omega)
 rw [kr hi]
 unfold cp
 rcases q3 with ⟨e1,e2⟩ | ⟨e1,e2,e3⟩
 ·rw [e1,if_neg (by omega),e2]
 ·rw [if_pos e1,e2]
theorem ZcX {s:Shp} {one:Aj} {lv:Nat->Int} (r:RuOk s one lv) {i:Nat} (hi:i < s.n):Bar.az (λl=>cb s one (bn s one lv) s.n i l * zB s one lv l) s.n=aJ s one lv * cB s one ((i:Int) - s.depth) (bn s one lv i)+gP s one lv i:=by
 have hn:=r.h.n_eq
 have r':=js r
 have a1:=l7 r (zB s one lv) (wB s one lv) (lK one lv) (aJ s one lv) hi
 have a2:=l7 r' (zB s one lv) (wB s one lv) (lK one lv) (aJ s one lv) hi
 rw [oK r hi] at a1
 rw [a2]
 have v1:=fR (s:=s) (one:=one) (A:=wB s one lv) (D:=aJ s one lv) (r.lo i hi)
 have v2:=fR (s:=s) (one:=one) (A:=wB s one lv) (D:=aJ s one lv) (r'.lo i hi)
 have c2:=uU r hi
 unfold gP
 unfold gB kB at *
 omega
theorem Zp9 {s:Shp} {one:Aj} {lv:Nat->Int} (r:RuOk s one lv) (hs:∃ i,i < s.n/\0 < gP s one lv i):Bet s.n (zB s one lv) (aJ s one lv) (zB s one (bn s one lv)) (aJ s one (bn s one lv)):=by
 have hn:=r.h.n_eq
 have t0:=r.h.t0
 have d0:=r.h.d0
 exact better (kh (js r)) (by omega) (dq r) (dq (js r)) (b:=λi=>cB s one ((i:Int) - s.depth) (bn s one lv i)) (λi hi=>oK (js r) hi) (λi hi=>ZaO r hi) (λi hi=>ZcX r hi) hs
theorem ZjJ {s:Shp} {one:Aj} {lv:Nat->Int} (r:RuOk s one lv) (hs:∀ i,i < s.n->gP s one lv i=0):∀ l,l < s.n->aJ s one lv * zB s one (bn s one lv) l=aJ s one (bn s one lv) * zB s one lv l:=by
 intro l hl
 have r':=js r
 have:=sole (cb s one (bn s one lv) s.n) (k:=s.n) (λj hj=>xi (leads (kh r') j hj)) (z:=λl=>aJ s one lv * zB s one (bn s one lv) l - aJ s one (bn s one lv) * zB s one lv l) (λi hi=>by
  rw [gk,oK r' hi,ZcX r hi,hs i hi]
  grind) l hl
 have e:aJ s one lv * zB s one (bn s one lv) l - aJ s one (bn s one lv) * zB s one lv l=0:=this
 omega
theorem ZjK {s:Shp} {one:Aj} {lv:Nat->Int} (r:RuOk s one lv) (hs:∀ i,i < s.n->gP s one lv i=0):∀ i,i < s.n->bn s one (bn s one lv) i=bn s one lv i:=by
 intro i hi
 have h:=r.h
 have hn:=h.n_eq
 have t:=ZjJ r hs
 have p1:=dq r
 have p2:=dq (js r)
 generalize hD:aJ s one lv=D at *
 generalize hD':aJ s one (bn s one lv)=D' at *
 have hw:∀ x,-s.depth<=x->x<=s.top->D * wB s one (bn s one lv) x=D' * wB s one lv x:=λx x1 x2=>by
  rw [lK one _ x x1 x2,lK one _ x x1 x2]
  split
  ·omega
  ·exact t _ (by omega)
 have hg:∀ y,-s.depth<=y->y<=s.top->D * gB s one (bn s one lv) y=D' * gB s one lv y:=λy y1 y2=>by
  unfold gB Shp.sm
  rw [hD,hD']
  have e1:D * s.wg one y (wB s one (bn s one lv)) D'=D' * s.wg one y (wB s one lv) D:=by
   unfold Shp.wg
   rw [<- jh,<- jh]
   refine lJ λf hf=>?_
   have n1:=gA s y f
   have n2:=gz h y2 hf
   have:=hw _ n1 n2
   grind
  have e2:D * (D' * one.sum * s.piece * y+s.wg one y (wB s one (bn s one lv)) D')=D * (D' * one.sum * s.piece * y)+D * s.wg one y (wB s one (bn s one lv)) D':=by rw [xc]
  have e3:D' * (D * one.sum * s.piece * y+s.wg one y (wB s one lv) D)=D' * (D * one.sum * s.piece * y)+D' * s.wg one y (wB s one lv) D:=by rw [xc]
  rw [e2,e3,e1]
  grind
 have hk:D * kB s one (bn s one lv)=D' * kB s one lv:=by
  unfold kB
  rw [hD,hD']
  grind
 have m1:=oF (g:=gB s one (bn s one lv)) (top:=s.top) (K:=kB s one (bn s one lv)) (m:=D) (x:=(i:Int) - s.depth) p1 (by omega)
 have m2:=oF (g:=gB s one lv) (top:=s.top) (K:=kB s one lv) (m:=D') (x:=(i:Int) - s.depth) p2 (by omega)
 have m3:pck (λy=>D * gB s one (bn s one lv) y) s.top (D * kB s one (bn s one lv)) ((i:Int) - s.depth)=pck (λy=>D' * gB s one lv y) s.top (D' * kB s one lv) ((i:Int) - s.depth):=by
  rw [hk]
  exact ZcL (λy y1 y2=>hg y (by omega) y2) (by omega)
 rw [m1,m2] at m3
 have:=congrArg Prod.snd m3
 rw [kr hi,kr hi]
 exact this
end My
set_option Elab.async false
set_option linter.all false
set_option maxRecDepth 100000
set_option exponentiation.threshold 9000
namespace My
open L2 Tw Bar
noncomputable def offs:Nat->List (List Nat)
 | 0=>[[]]
 | m+1=>(List.range (m+1)).flatMap λc=>(offs m).map (c::·)
theorem Zmh {m:Nat} {f:Nat->Nat}:∀ {k:Nat},(∀ j,j < m->f (k+j) < m - j)->(List.range m).map (λj=>f (k+j))∈offs m:=by
 induction m with
 | zero=>intro k _; simp [offs]
 | succ m ih =>
  intro k h
  have h1:=ih (k:=k+1) λj hj=>by
   have:=h (j+1) (by omega)
   have e:k+(j+1)=k+1+j:=by omega
   rw [e] at this
   omega
  have e:(List.range (m+1)).map (λj=>f (k+j))=f k::(List.range m).map λj=>f (k+1+j):=by
   rw [List.range_succ_eq_map,wf,wu]
   refine congrArg _ (wR λj _=>?_)
   show f (k+(j+1))=f (k+1+j)
   congr 1
   omega
  rw [e,offs]
  exact List.mem_flatMap.mpr ⟨f k,wQ.mpr (by have:=h 0 (by omega); simpa using this),wL.mpr ⟨_,h1,rfl⟩⟩
theorem iI:∀ m:Nat,(offs (m+1)).length=(m+1) * (offs m).length:=λm=>by
 rw [offs,List.length_flatMap]
 have e:(List.range (m+1)).map (λa=>((offs m).map (a::·)).length)=List.replicate (m+1) (offs m).length:=by
  rw [List.eq_replicate_iff]
  refine ⟨by rw [v7,wI],λb hb=>?_⟩
  obtain ⟨c,_,rfl⟩:=wL.mp hb
  exact v7 ..
 rw [e]
 simp
theorem Zmi {m:Nat} (h:m<=8):(offs m).length<=40320:=by
 have e0:(offs 0).length=1:=rfl
 have e1:(offs 1).length=1 * (offs 0).length:=iI 0
 have e2:(offs 2).length=2 * (offs 1).length:=iI 1
 have e3:(offs 3).length=3 * (offs 2).length:=iI 2
 have e4:(offs 4).length=4 * (offs 3).length:=iI 3
 have e5:(offs 5).length=5 * (offs 4).length:=iI 4
 have e6:(offs 6).length=6 * (offs 5).length:=iI 5
 have e7:(offs 7).length=7 * (offs 6).length:=iI 6
 have e8:(offs 8).length=8 * (offs 7).length:=iI 7
 have:m=0\/m=1\/m=2\/m=3\/m=4\/m=5\/m=6\/m=7\/m=8:=by omega
 rcases this with rfl | rfl | rfl | rfl | rfl | rfl | rfl | rfl | rfl <;> omega
noncomputable def bQ (s:Shp) (one:Aj) (lv:Nat->Int):Nat->Nat->Int
 | 0=>lv
 | t+1=>bn s one (bQ s one lv t)
theorem fM {s:Shp} {one:Aj} {lv:Nat->Int} (r:RuOk s one lv):∀ t,RuOk s one (bQ s one lv t)
 | 0=>r
 | t+1=>js (fM r t)
def ip (n:Nat) (lv:Nat->Int):Prop:=∀ i,n<=i->lv i=0
theorem kX {s:Shp} {one:Aj} {lv:Nat->Int} (h:ip s.n lv):∀ t,ip s.n (bQ s one lv t)
 | 0=>h
 | t+1=>λi hi=>by
  show bn s one (bQ s one lv t) i=0
  unfold bn
  rw [if_neg (by omega)]
noncomputable def iJ (s:Shp) (lv:Nat->Int):List Nat:=(List.range s.n).map λj=>(lv (0+j) - (((0+j:Nat):Int) - s.depth)).toNat
theorem Zmk {s:Shp} {one:Aj} {lv:Nat->Int} (r:RuOk s one lv):iJ s lv∈offs s.n:=by
 have hn:=r.h.n_eq
 have t0:=r.h.t0
 have d0:=r.h.d0
 refine Zmh (f:=λq=>(lv q - ((q:Int) - s.depth)).toNat) (k:=0) λj hj=>?_
 have a:=r.hi (0+j) (by omega)
 have b:=r.lo (0+j) (by omega)
 show (lv (0+j) - (((0+j:Nat):Int) - s.depth)).toNat < s.n - j
 omega
theorem Zml {s:Shp} {one:Aj} {lv lv':Nat->Int} (r:RuOk s one lv) (r':RuOk s one lv') (n1:ip s.n lv) (n2:ip s.n lv') (h:iJ s lv=iJ s lv'):lv=lv':=by
 funext i
 by_cases hi:i < s.n
 ·have e:=congrArg (λl=>l[i]?) h
  unfold iJ at e
  simp only [v9,wm hi,Option.map_some,Option.some.injEq,Nat.zero_add] at e
  have a:=r.lo i hi
  have b:=r'.lo i hi
  omega
 ·rw [n1 i (by omega),n2 i (by omega)]
theorem ends {s:Shp} {one:Aj} {lv:Nat->Int} (r:RuOk s one lv) (n0:ip s.n lv) (n8:s.n<=8):∃ t,t<=40321/\bQ s one lv (t+1)=bQ s one lv t:=by
 apply yA
 intro hno
 have hne:∀ t,t<=40321->bQ s one lv (t+1)≠bQ s one lv t:=λt ht e=>hno ⟨t,ht,e⟩
 have strict:∀ t,t < 40321->Bet s.n (zB s one (bQ s one lv t)) (aJ s one (bQ s one lv t)) (zB s one (bQ s one lv (t+1))) (aJ s one (bQ s one lv (t+1))):=λt ht=>by
  apply Zp9 (fM r t)
  apply yA
  intro hn
  have all0:∀ i,i < s.n->gP s one (bQ s one lv t) i=0:=λi hi=>by
   have a:=ZaO (fM r t) hi
   have:¬ 0 < gP s one (bQ s one lv t) i:=λq=>hn ⟨i,hi,q⟩
   omega
  have tn:=ZjK (fM r t) all0
  apply hne (t+1) (by omega)
  funext i
  by_cases hi:i < s.n
  ·exact tn i hi
  ·rw [kX n0 (t+1+1) i (by omega),kX n0 (t+1) i (by omega)]
 have far:∀ (k t:Nat),t+k+1<=40321->Bet s.n (zB s one (bQ s one lv t)) (aJ s one (bQ s one lv t)) (zB s one (bQ s one lv (t+k+1))) (aJ s one (bQ s one lv (t+k+1))):=by
  intro k
  induction k with
  | zero=>intro t ht; exact strict t (by omega)
  | succ k ih =>
   intro t ht
   have a:=ih t (by omega)
   have b:=strict (t+k+1) (by omega)
   exact Bet.trans (dq (fM r _)) (dq (fM r _)) (dq (fM r _)) a b
 have inj:∀ i j,i < j->j<=40321->iJ s (bQ s one lv i)≠iJ s (bQ s one lv j):=λi j hij hj e=>by
  have e2:=Zml (fM r i) (fM r j) (kX n0 i) (kX n0 j) e
  have b:=far (j - i - 1) i (by omega)
  have ej:i+(j - i - 1)+1=j:=by omega
  rw [ej,<- e2] at b
  exact Bet.irrefl b
 have hnd:((List.range 40322).map λt=>iJ s (bQ s one lv t)).Nodup:=by
  rw [List.nodup_iff_pairwise_ne,List.pairwise_map]
  refine List.Pairwise.imp_of_mem (R:=λa b=>a < b) ?_ List.pairwise_lt_range
  intro a b ha hb hab
  have:=wQ.mp hb
  exact inj a b hab (by omega)
 have hsub:∀ x∈(List.range 40322).map λt=>iJ s (bQ s one lv t),x∈offs s.n:=λx hx=>by
  obtain ⟨t,_,rfl⟩:=wL.mp hx
  exact Zmk (fM r t)
 have h1:=List.Nodup.length_le_of_subset hnd hsub
 rw [v7,wI] at h1
 have h2:=Zmi n8
 omega
end My
set_option Elab.async false
set_option linter.all false
set_option maxRecDepth 100000
set_option exponentiation.threshold 9000
namespace My
open L2 Tw Bar
theorem ZhM:∀ a b:Aj,PyData.eqvAll (a.map PyData.int) (b.map PyData.int)=decide (a=b)
 | [],[]=>rfl
 | [],_::_=>rfl
 | _::_,[]=>rfl
 | x::a,y::b=>by
  have ih:=ZhM a b
  rw [wf,wf,PyData.eqvAll,ih]
  by_cases e:x=y
  ·subst e
   by_cases e2:a=b
   ·subst e2; simp [PyData.eqv]
   ·simp [PyData.eqv,e2]
  ·simp [PyData.eqv,e]
theorem Zn3 (a b:Aj):aR cR (lI a) (lI b)=.ret (.bool (decide (a=b))):=by
 unfold lI
 rw [ZgR (j3 a) (j3 b),ZhM]
noncomputable def bB (s:Shp) (lv:Nat->Int):Aj:=(List.range s.n).map lv
theorem Zac {s:Shp} {one:Aj} {lv:Nat->Int} (r:RuOk s one lv) {i:Nat} (hi:i < s.n):nb 1702 (zB s one lv i):=by
 refine aT (Zjc (b:=160) r.n9 (λi j hi _=>ld r hi) (wa _) hi λq hq=>ld r hq) (by decide)
theorem jU {s:Shp} {one:Aj} {lv:Nat->Int} (r:RuOk s one lv):Bd s 1702 (wB s one lv):=λx x1 x2=>by
 have hn:=r.h.n_eq
 unfold wB
 split
 ·exact kw _
 ·exact Zac r (by omega)
theorem gm {s:Shp} {one:Aj} {lv:Nat->Int} (r:RuOk s one lv):nb 1531 (aJ s one lv):=aT (qa (b:=160) r.n9 (λi j hi _=>ld r hi) (wa _)) (by decide)
noncomputable def lM (s:Shp) (one:Aj) (lv:Nat->Int):PyData:=.tuple [.int (zB s one lv 0),lI (s.row (wB s one lv)),.int (aJ s one lv),lI (bB s lv)]
theorem ZdN {g:Int->Int} {top K P:Int}:∀ l:Aj,bG (cu (bh (aw (ah 0) (aw (ah 1) bf))) tu [.un,.un]) (l.map (dc g top K P))=.ret ((l.map (lvl g top K)).map PyData.int)
 | []=>rfl
 | x::l=>by
  have e0:cu (bh (aw (ah 0) (aw (ah 1) bf))) tu [.un,.un] (dc g top K P x)=.ret (.int (lvl g top K x)):=rfl
  rw [wf,bG,e0,Tr.ret_bind,ZdN l]
  rfl
theorem Zp8 {s:Shp} {one:Aj} {lv:Nat->Int} (r:RuOk s one lv) (J3 J4 J5 J6 J7:Sl):∃ K3 K4 K5 K6 K7:Sl,mN [.d s.d,.d (tI one),.d (lI (bB s lv)),J3,J4,J5,J6,J7]=if bB s (bn s one lv)=bB s lv then .ret (.ret (.d (lM s one lv))) else .ret (.next [.d s.d,.d (tI one),.d (lI (bB s (bn s one lv))),K3,K4,K5,K6,K7]):=by
 have h:=r.h
 have hn:=h.n_eq
 have td:=h.td
 have em:iP [.d s.d,.d (tI one),.d (lI (bB s lv))]=_:=Zoe r
 have el:=ZhW h r.hd (jU r) (sc:=aJ s one lv) (aT (gm r) (by decide)) (by decide)
 have g1:=aH (gm r) (by decide)
 have g2:=aH (dG r.hd) (by decide)
 have hsc:nb 1853 (aJ s one lv * one.sum):=aT (bJ (gm r) (dG r.hd)) (by decide)
 have hg:Bd s 1853 (gB s one lv):=λx x1 x2=>aT (ZaS h r.hd (jU r) (aT (gm r) (by decide)) x x1 x2) (by decide)
 have ec:kM [.d s.d,.d (.list ((s.row (s.sm one (wB s one lv) (aJ s one lv))).map PyData.int)),.d (.int (aJ s one lv * one.sum))]=_:=ZhZ h hg hsc (wy (wV (dq r) r.hd.pos)) (by decide)
 have hs:small ((ak (-s.depth) s.n).map (dc (gB s one lv) s.top (aJ s one lv * one.sum * s.start) (aJ s one lv * one.sum * s.piece))).length=true:=b7 (by rw [v7,dU]; omega)
 have lm:=ZdN (g:=gB s one lv) (top:=s.top) (K:=aJ s one lv * one.sum * s.start) (P:=aJ s one lv * one.sum * s.piece) (ak (-s.depth) s.n)
 have e7:((ak (-s.depth) s.n).map (lvl (gB s one lv) s.top (aJ s one lv * one.sum * s.start)))=bB s (bn s one lv):=by
  unfold bB ak
  rw [wu]
  refine wR λi hi=>?_
  have hi':=wQ.mp hi
  rw [kr hi']
  have:-s.depth+(i:Int)=(i:Int) - s.depth:=by omega
  simp only [zb,this]
  rfl
 rw [e7] at lm
 have eq:aR cR (.list ((bB s (bn s one lv)).map PyData.int)) (lI (bB s lv))=.ret (.bool (decide (bB s (bn s one lv)=bB s lv))):=Zn3 _ _
 by_cases e:bB s (bn s one lv)=bB s lv
 ·rw [decide_eq_true e] at eq
  refine ⟨.un,.un,.un,.un,.un,?_⟩
  rw [if_pos e]
  simp_arith [mN,em,el,gj,g1,g2,ec,hs,lm,eq]
  rfl
 ·rw [decide_eq_false e] at eq
  refine ⟨.d (.int (zB s one lv 0)),.d (lI (s.row (wB s one lv))),.d (.int (aJ s one lv)),.d (.list ((ak (-s.depth) s.n).map (dc (gB s one lv) s.top (aJ s one lv * one.sum * s.start) (aJ s one lv * one.sum * s.piece)))),.d (.list ((bB s (bn s one lv)).map PyData.int)),?_⟩
  rw [if_neg e]
  simp_arith [mN,em,el,gj,g1,g2,ec,hs,lm,eq]
  rfl
end My
set_option Elab.async false
set_option linter.all false
set_option maxRecDepth 100000
set_option exponentiation.threshold 9000
namespace My
open L2 Tw Bar
theorem ZmV {s:Shp} {lv lv':Nat->Int} (n1:ip s.n lv) (n2:ip s.n lv'):bB s lv=bB s lv' ↔ lv=lv':=by
 constructor
 ·intro h
  funext i
  by_cases hi:i < s.n
  ·have e:=congrArg (λl=>l[i]?) h
   unfold bB at e
   simpa only [v9,wm hi,Option.map_some,Option.some.injEq] using e
  ·rw [n1 i (by omega),n2 i (by omega)]
 ·intro h
  rw [h]
theorem ZiH {s:Shp} {one:Aj} {lv:Nat->Int} (r:RuOk s one lv) (n0:ip s.n lv):∀ (m t fuel:Nat),bQ s one lv (t+m+1)=bQ s one lv (t+m)->m < fuel->∀ J3 J4 J5 J6 J7:Sl,∃ T,bQ s one lv (T+1)=bQ s one lv T/\cX rj mN fuel [.d s.d,.d (tI one),.d (lI (bB s (bQ s one lv t))),J3,J4,J5,J6,J7]=.ret (.ret (.d (lM s one (bQ s one lv T))))
 | m,t,0,_,hf,_,_,_,_,_=>by omega
 | m,t,fuel+1,he,hf,J3,J4,J5,J6,J7=>by
  obtain ⟨K3,K4,K5,K6,K7,e⟩:=Zp8 (fM r t) J3 J4 J5 J6 J7
  have hp:rj [.d s.d,.d (tI one),.d (lI (bB s (bQ s one lv t))),J3,J4,J5,J6,J7]=.ret true:=rfl
  by_cases hc:bB s (bn s one (bQ s one lv t))=bB s (bQ s one lv t)
  ·rw [if_pos hc] at e
   refine ⟨t,(ZmV (kX n0 (t+1)) (kX n0 t)).mp hc,?_⟩
   rw [cX,hp,Tr.ret_bind,if_pos rfl,e,Tr.ret_bind]
  ·rw [if_neg hc] at e
   cases m with
   | zero =>
    exfalso
    apply hc
    have:bn s one (bQ s one lv t)=bQ s one lv t:=he
    rw [this]
   | succ m =>
    have he':bQ s one lv (t+1+m+1)=bQ s one lv (t+1+m):=by
     have e1:t+(m+1)=t+1+m:=by omega
     rw [e1] at he
     exact he
    obtain ⟨T,h1,h2⟩:=ZiH r n0 m (t+1) fuel he' (by omega) K3 K4 K5 K6 K7
    refine ⟨T,h1,?_⟩
    rw [cX,hp,Tr.ret_bind,if_pos rfl,e,Tr.ret_bind]
    exact h2
noncomputable def gG (s:Shp) (i:Nat):Int:=if i < s.n then (i:Int) - s.depth else 0
theorem Zh0 {s:Shp} {one:Aj} (h:s.Ok) (n8:s.n<=8) (hd:DayB one) (gr:s.top+s.depth<=great one) (ps:∃ w∈one,w > 0) :
  ∃ lv:Nat->Int,RuOk s one lv/\bn s one lv=lv/\mJ [.d s.d,.d (tI one)]=.ret (.d (lM s one lv)):=by
 have hn:=h.n_eq
 have t0:=h.t0
 have d0:=h.d0
 have r:RuOk s one (gG s):=⟨h,by omega,hd,gr,ps,λi hi=>by unfold gG; rw [if_pos hi]; exact wG _,λi hi=>by unfold gG; rw [if_pos hi]; omega⟩
 have n0:ip s.n (gG s):=λi hi=>by unfold gG; rw [if_neg (by omega)]
 obtain ⟨t,ht,he⟩:=ends r n0 n8
 obtain ⟨T,h1,h2⟩:=ZiH r n0 t 0 100000 (by rw [Nat.zero_add]; exact he) (by omega) .un .un .un .un .un
 refine ⟨bQ s one (gG s) T,fM r T,h1,?_⟩
 have e1:=ic h
 have el:aN (-s.depth) (s.top+1)=(bB s (gG s)).map PyData.int:=by
  unfold aN bB ak
  have e:(s.top+1 - -s.depth).toNat=s.n:=rfl
  rw [e,wu,wu]
  refine wR λi hi=>?_
  have hi':=wQ.mp hi
  simp only [zb]
  unfold gG
  rw [if_pos hi']
  have:-s.depth+(i:Int)=(i:Int) - s.depth:=by omega
  rw [this]
 have elst:qe kN [.tuple (aN (-s.depth) (s.top+1))]=.ret (aN (-s.depth) (s.top+1)):=rfl
 have e2:bQ s one (gG s) 0=gG s:=rfl
 rw [e2] at h2
 unfold lI at h2
 simp_arith [mJ,e1,elst,el,h2]
end My
set_option Elab.async false
set_option linter.all false
set_option maxRecDepth 100000
set_option exponentiation.threshold 9000
namespace My
open L2 Tw
theorem uN {a b:Int} (hb:nb 8000 b):kL [.d (.int a),.d (.int b)]=.ret (.d (.int (Nat.gcd a.natAbs b.natAbs:Nat))):=by
 have key:=euclid (p:=rh) (s:=uq) (E:=λa b=>[.d (.int a),.d (.int b)]) (λa b=>by
  simp_arith [rh]
  by_cases h:b=0
  ·subst h; rfl
  ·rw [decide_eq_true h]
   congr 1
   simp [h]) (λa b h=>by
  have h':(b:Int)≠0:=by omega
  simp_arith [uq,ZfZ h',ZeF]) 8000 83999 a.natAbs b.natAbs hb
 have e:2 * 8000+1+83999=100000:=rfl
 rw [e] at key
 simp_arith [kL,Zi4,key]
theorem mW {t b:Int} (h0:b≠0) (hb:nb 7000 b):hI [.d (.int t),.d (.int b)]=.ret (.d (c5 t b)):=by
 have e:=uN (a:=t) (b:=b) (aT hb (by decide))
 have e0:(b == 0)=false:=beq_eq_false_iff_ne.mpr h0
 have hd:=Gc.mX (t:=t) h0
 have hf:=aH (Zib (t:=t) hb h0) (by decide)
 unfold c5 Gc.cm Gc.b9
 by_cases hn:b < 0
 ·have ed:Gc.den t b=-((Nat.gcd t.natAbs b.natAbs:Nat):Int):=by unfold Gc.den Gc.iV; rw [if_pos hn]
  rw [ed] at hd hf ⊢
  simp_arith [hI,e0,e,decide_eq_true hn,jF hd hf]
 ·have ed:Gc.den t b=((Nat.gcd t.natAbs b.natAbs:Nat):Int):=by unfold Gc.den Gc.iV; rw [if_neg hn]
  rw [ed] at hd hf ⊢
  simp_arith [hI,e0,e,decide_eq_false hn,jF hd hf]
end My
set_option Elab.async false
set_option linter.all false
set_option maxRecDepth 100000
set_option exponentiation.threshold 9000
namespace My
open L2 Tw Bar
theorem ZmR {ls:Aj} (h:∃ n∈ls,n > 0):bR g9 [.list ((fh 0 ls).map PyData.int)]=.ret (.int (great ls)):=tY _ (rM (k:=0) h)
theorem Zbf:∀ (ns:Aj) (k:Nat),eU (iT (bh (aw (ah 0) (aw (ah 1) bf))) mq ml [.un,.un]) (enu k ns)=.ret ((fh k ns).map PyData.int)
 | [],k=>rfl
 | n::ns,k=>by
  have ih:=Zbf ns (k+1)
  have e0:iT (bh (aw (ah 0) (aw (ah 1) bf))) mq ml [.un,.un] (.tuple [.int k,.int n])=.ret (if n > 0 then some (.int k) else none):=by
   by_cases h:n > 0
   ·simp_arith [mq,ml,decide_eq_true h,if_pos h]
   ·simp_arith [mq,ml,decide_eq_false h,if_neg h]
  rw [enu,eU,e0,Tr.ret_bind,ih,Tr.ret_bind,fh]
  unfold mz
  by_cases h:n > 0
  ·rw [if_pos h,if_pos h]; rfl
  ·rw [if_neg h,if_neg h]
theorem ZhY {ls:Aj} (h:∃ n∈ls,n > 0) (hl:ls.length<=100):pd [.d (tI ls)]=.ret (.d (.int (great ls))):=by
 have hs:small (enu 0 ls).length=true:=b7 (by rw [ZhP]; omega)
 simp_arith [pd,pJ,uJ,hs,Zbf,ZmR h]
noncomputable def drB (ρ:Ap) (_:PyData):Tr Ou:=.ret (.next ρ)
theorem lb {i:z9} {ρ:Ap}:lD i ρ=(i ρ).bind (drB ρ):=rfl
theorem lc {ρ:Ap} {x:PyData}:drB ρ x=.ret (.next ρ):=rfl
noncomputable def kO (s:Shp) (one:Aj) (lv:Nat->Int):PyData:=.tuple [c5 (zB s one lv 0) (aJ s one lv),.tuple ((ak (-s.depth) s.n).map λx=>c5 (wB s one lv x) (aJ s one lv)),tI (bB s lv)]
theorem Zol {s:Shp} {one:Aj} (h:s.Ok) (n8:s.n<=8) (hd:DayB one) (gr:s.top+s.depth<=great one) (ps:∃ w∈one,w > 0) :
  ∃ lv:Nat->Int,RuOk s one lv/\bn s one lv=lv/\iQ [.d s.d,.d (tI one)]=.ret (.d (kO s one lv)):=by
 obtain ⟨lv,r,hf,e⟩:=Zh0 h n8 hd gr ps
 refine ⟨lv,r,hf,?_⟩
 have eg:=ZhY ps (by have:=hd.len; omega)
 have ca:decide (great one < s.top+s.depth)=false:=decide_eq_false (by omega)
 have ea:hX [.d s.d,.d (tI one)]=.ret (.d .none):=by
  simp_arith [hX,eg,ca]
 have sp:=dq r
 have sn:nb 7000 (aJ s one lv):=aT (gm r) (by decide)
 have e1:=mW (t:=zB s one lv 0) (b:=aJ s one lv) (by omega) sn
 have hs:small ((s.row (wB s one lv)).map PyData.int).length=true:=b7 (by rw [v7,gS]; omega)
 have em:∀ l:Aj,bG (cu (ah 0) ox [.un,.d (.int (aJ s one lv))]) (l.map PyData.int)=.ret (l.map λx=>c5 x (aJ s one lv)):=by
  intro l
  induction l with
  | nil=>rfl
  | cons x l ih =>
   have e0:cu (ah 0) ox [.un,.d (.int (aJ s one lv))] (.int x)=.ret (c5 x (aJ s one lv)):=by
    have e2:=mW (t:=x) (b:=aJ s one lv) (by omega) sn
    simp_arith [ox,e2]
   rw [wf,bG,e0,Tr.ret_bind,ih]
   rfl
 unfold lM at e
 simp_arith [iQ,lb,lc,ea,e,e1,Zd8,hs,em]
 unfold kO Shp.row tI
 rw [wu]
 rfl
end My
set_option Elab.async false
set_option linter.all false
set_option maxRecDepth 100000
set_option exponentiation.threshold 9000
namespace My
open L2 Tw Bar
theorem pZ {s:Shp} {one:Aj} {lv:Nat->Int} (r:RuOk s one lv) {i:Nat} (hi:i < s.n):one.sum * (zB s one lv 0+wB s one lv ((i:Int) - s.depth))=vB s one (wB s one lv) (aJ s one lv) ((i:Int) - s.depth) (lv i):=by
 have a1:=l7 r (zB s one lv) (wB s one lv) (lK one lv) (aJ s one lv) hi
 rw [oK r hi] at a1
 rw [xc]
 omega
theorem Zor {s:Shp} {one:Aj} {lv:Nat->Int} (r:RuOk s one lv) (hf:bn s one lv=lv) {i:Nat} (hi:i < s.n) {y:Int} (y1:(i:Int) - s.depth<=y) (y2:y<=s.top):vB s one (wB s one lv) (aJ s one lv) ((i:Int) - s.depth) (lv i)<=vB s one (wB s one lv) (aJ s one lv) ((i:Int) - s.depth) y:=by
 have hn:=r.h.n_eq
 rw [fR (r.lo i hi),fR y1]
 have c2:=uU r hi
 rw [hf] at c2
 obtain ⟨p1,p2⟩:=oG (g:=gB s one lv) (top:=s.top) (K:=kB s one lv) (x:=(i:Int) - s.depth) (by omega)
 have key:(pck (gB s one lv) s.top (kB s one lv) ((i:Int) - s.depth)).1<=cp (gB s one lv) (kB s one lv) ((i:Int) - s.depth) y:=by
  unfold cp
  split
  ·exact p2 y (by omega) y2
  ·have:y=(i:Int) - s.depth:=by omega
   rw [this]
   exact p1
 unfold gB kB at *
 omega
end My
set_option Elab.async false
set_option linter.all false
set_option maxRecDepth 100000
set_option exponentiation.threshold 9000
namespace My
open L2 Tw
theorem Zmn (s:Shp) (y f:Int):b8 (y - f) (0 - s.depth)=s.nx y f:=by
 unfold Shp.nx
 have e:0 - s.depth=-s.depth:=by omega
 rw [e]
theorem Zoh {s:Shp} (h:s.Ok) {x y:Int} (x1:-s.depth<=x) (xy:x<=y) (y2:y<=s.top):mC [.d s.d,.d (.int x),.d (.int y)]=.ret (.d (.int (s.ord x y))):=by
 have:=h.t0
 have:=h.d0
 have:=h.td
 have g1:=aH h.start (by decide)
 have g2:=aH (show nb 20 (1:Int) from bP (by decide) (by decide)) (by decide)
 have g3:=aH (show nb 20 (0:Int) from bP (by decide) (by decide)) (by decide)
 have g4:=aH h.piece (by decide)
 have g5:=aH (show nb 20 (y - x) from bP (by show -1048576 < _; omega) (by show _ < 1048576; omega)) (by decide)
 have g6:=aH (dO h.start (bJ h.piece (show nb 20 (y - x) from bP (by show -1048576 < _; omega) (by show _ < 1048576; omega)))) (by decide)
 unfold Shp.ord
 by_cases hp:y > x
 ·rw [if_neg (by omega)]
  simp_arith [mC,decide_eq_true hp,if_true,g1,g2,g4,g5,g6,yK]
 ·rw [if_pos (by omega)]
  have e:y - x=0:=by omega
  simp_arith [mC,decide_eq_false hp,g1,g3,g4,e,xN,xt,if_false,yo]
theorem Zog {t b:Int} (hb:0 < b) (nB:nb 7000 b):o6 [.d (.int t),.d (.int b)]=.ret (.d (c5 t b)):=by
 obtain ⟨z,rfl⟩:∃ z:Nat,b=(z:Int):=⟨b.toNat,by omega⟩
 have key:=euclid (p:=rg) (s:=uk) (E:=λa b'=>[.d (.int t),.d (.int z),.d (.int a),.d (.int b')]) (λa b=>by
  simp_arith [rg]
  by_cases h:b=0
  ·subst h; rfl
  ·rw [decide_eq_true h]
   congr 1
   simp
   omega) (λa b h=>by
  have h':(b:Int)≠0:=by omega
  simp_arith [uk,ZfZ h',ZeF]) 8000 83999 t.natAbs z (wk (show z < 2 ^ 7000 from by unfold nb at nB; rwa [Int.natAbs_natCast] at nB) (y6 (by decide) (by decide)))
 have e:2 * 8000+1+83999=100000:=rfl
 rw [e] at key
 have hd:=Gc.mX (t:=t) (b:=(z:Int)) (by omega)
 have hf:=aH (Zib (t:=t) nB (by omega)) (by decide)
 have ed:Gc.den t (z:Int)=((Nat.gcd t.natAbs z:Nat):Int):=by unfold Gc.den Gc.iV; rw [if_neg (by omega),Int.natAbs_natCast]
 unfold c5 Gc.cm Gc.b9
 rw [ed] at hd hf ⊢
 simp_arith [o6,Zi4,key,jF hd hf]
end My
set_option Elab.async false
set_option linter.all false
set_option maxRecDepth 100000
set_option exponentiation.threshold 9000
namespace My
open L2 Tw
theorem ZoA {s:Shp} (d0:0<=s.depth) (y f:Int):(if y - f > 0 then s.keep * (y - f) else s.lack * (0 - (y - f) - b8 0 (0 - s.depth - (y - f)))+s.lost * b8 0 (0 - s.depth - (y - f)))=s.day y f:=by
 unfold Shp.day Shp.nx
 generalize y - f=r
 by_cases h:r > 0
 ·have e:b8 r (-s.depth)=r:=by unfold b8; split <;> omega
  rw [e,if_pos h,if_pos h,Int.sub_self,xN,yo]
 ·have e:b8 r (-s.depth)=r+b8 0 (0 - s.depth - r):=by unfold b8; split <;> split <;> omega
  have h2:¬ b8 r (-s.depth) > 0:=by unfold b8; split <;> omega
  rw [if_neg h,if_neg h2,e]
  generalize b8 0 (0 - s.depth - r)=z
  have e1:0 - r - z=-(r+z):=by omega
  have e2:r+z - r=z:=by omega
  rw [e1,e2]
theorem Zoi (s:Shp) (y f:Int):o7 [.d s.d,.d (.int y),.d (.int f)]=.ret (.d (.int (s.nx y f))):=by
 simp_arith [o7,Zmn]
theorem Zok {s:Shp} (h:s.Ok) {y f:Int} (y1:-s.depth<=y) (y2:y<=s.top) (f0:0<=f) (f1:f<=16):mF [.d s.d,.d (.int y),.d (.int f)]=.ret (.d (.int (s.day y f))):=by
 have:=h.t0
 have d0:=h.d0
 have:=h.td
 have z1:0<=b8 0 (0 - s.depth - (y - f))/\b8 0 (0 - s.depth - (y - f))<=1000:=by unfold b8; split <;> omega
 have n1:nb 20 (y - f):=bP (by show -1048576 < _; omega) (by show _ < 1048576; omega)
 have n2:nb 20 (b8 0 (0 - s.depth - (y - f))):=bP (by show -1048576 < _; omega) (by show _ < 1048576; omega)
 have n3:nb 20 (0 - (y - f) - b8 0 (0 - s.depth - (y - f))):=bP (by show -1048576 < _; omega) (by show _ < 1048576; omega)
 have g1:=aH h.keep (by decide)
 have g2:=aH h.lack (by decide)
 have g3:=aH h.lost (by decide)
 have g4:=aH n1 (by decide)
 have g5:=aH n2 (by decide)
 have g6:=aH n3 (by decide)
 rw [<- ZoA d0]
 by_cases hr:y - f > 0
 ·rw [if_pos hr]
  simp_arith [mF,decide_eq_true hr,g1,g4]
 ·rw [if_neg hr]
  simp_arith [mF,decide_eq_false hr,g2,g3,g5,g6]
noncomputable def shr (p:Int×Int):PyData:=.tuple [.int p.1,.int p.2]
structure IsSh (p:Int×Int):Prop where
 pos:0 < p.2
 one:Nat.gcd p.1.natAbs p.2.natAbs=1
noncomputable def lT (p:Int×Int):Bool:=decide (0 < p.2) && (Nat.gcd p.1.natAbs p.2.natAbs == 1)
theorem nV (p:Int×Int):lT p=true ↔ IsSh p:=by
 unfold lT
 rw [wD,decide_eq_true_iff,beq_iff_eq]
 exact ⟨λ⟨a,b⟩=>⟨a,b⟩,λh=>⟨h.pos,h.one⟩⟩
theorem nR:((((2:Nat):Int)) == 2)=true:=rfl
theorem rD:((((3:Nat):Int)) == 3)=true:=rfl
noncomputable def dW (m:Int×Int) (ws:List (Int×Int)) (ls:Aj):PyData:=.tuple [shr m,.tuple (ws.map shr),tI ls]
def lG (s:Shp) (ls:Aj):Prop:=∀ i (h:i < ls.length),(i:Int) - s.depth<=ls[i]/\ls[i]<=s.top
def fmB (s:Shp) (ws:List (Int×Int)) (ls:Aj) (i:Nat):Prop:=(∃ p,ws[i]?=some p/\lT p=true)/\∃ y,ls[i]?=some y/\(i:Int) - s.depth<=y/\y<=s.top
end My
set_option Elab.async false
set_option linter.all false
set_option maxRecDepth 100000
set_option exponentiation.threshold 9000
namespace My
open L2 Tw Bar
noncomputable def bK:Int->List (Int×Int)->Int
 | D,[]=>D
 | D,p::ws=>bK (D * p.2) ws
theorem ZiG {c:Nat}:∀ {ws:List (Int×Int)} {b:Nat} {D:Int},nb b D->(∀ p∈ws,nb c p.2)->nb (b+c * ws.length) (bK D ws)
 | [],b,D,h,_=>by rw [bK]; exact aT h (by omega)
 | p::ws,b,D,h,hw=>by
  have ih:=ZiG (bJ h (hw p (by simp))) λq hq=>hw q (v8 _ hq)
  rw [bK,wl,zn]
  exact aT ih (by omega)
theorem m7:∀ {ws:List (Int×Int)} {D:Int},0 < D->(∀ p∈ws,0 < p.2)->0 < bK D ws
 | [],D,h,_=>h
 | p::ws,D,h,hw=>by rw [bK]; exact m7 (wV h (hw p (by simp))) λq hq=>hw q (v8 _ hq)
theorem ql:∀ {ws:List (Int×Int)} {D:Int},D ∣ bK D ws
 | [],D=>Int.dvd_refl _
 | p::ws,D=>by rw [bK]; exact zg (Int.dvd_mul_right D p.2) ql
theorem qm:∀ {ws:List (Int×Int)} {D:Int} {p:Int×Int},p∈ws->p.2 ∣ bK D ws
 | q::ws,D,p,h=>by
  rw [bK]
  rcases wt.mp h with rfl | h
  ·exact zg (Int.dvd_mul_left D p.2) ql
  ·exact qm h
theorem pS {k:Nat} {D c:Int} (hD:0 < D) (hc:0 < c) (h:nb k D):nb k (D.fdiv c):=by
 have e:D.fdiv c=D / c:=xB _ (wy hc)
 have e1:D / c<=D:=Int.ediv_le_self _ (wy hD)
 have e2:0<=D / c:=zF (wy hD) (wy hc)
 rw [e]
 unfold nb at *
 omega
noncomputable def ovr (D:Int) (p:Int×Int):Int:=p.1 * D.fdiv p.2
theorem km {D:Int} {p:Int×Int} (hp:0 < p.2) (hd:p.2 ∣ D):ovr D p * p.2=p.1 * D:=by
 obtain ⟨q,rfl⟩:=hd
 unfold ovr
 rw [xB _ (wy hp),yF _ (xi hp)]
 grind
def ff (s:Shp) (one:Aj) (A:Int->Int) (D M x y:Int):Prop:=one.sum * (M+A x)=vB s one A D x y/\∀ z,x<=z->z<=s.top->one.sum * (M+A x)<=vB s one A D x z
end My
set_option Elab.async false
set_option linter.all false
set_option maxRecDepth 100000
set_option exponentiation.threshold 9000
namespace My
open L2 Tw Bar
noncomputable def bH (s:Shp) (l:Aj) (x:Int):Int:=(l[(x+s.depth).toNat]?).getD 0
theorem sL {s:Shp} (h:s.Ok) {l:Aj} (hl:l.length=s.n):s.row (bH s l)=l:=by
 have hn:=h.n_eq
 apply xw
 intro i
 by_cases hi:i < s.n
 ·have e:=gq (s:=s) (f:=bH s l) (x:=(i:Int) - s.depth) (by omega) (by omega)
  have ei:((i:Int) - s.depth+s.depth).toNat=i:=by omega
  rw [ei] at e
  rw [e]
  unfold bH
  rw [ei,wp (by omega)]
  rfl
 ·rw [wA (by rw [gS]; omega),wA (by omega)]
theorem Zqg {s:Shp} {l:Aj} {i:Nat} (hi:i < l.length):bH s l ((i:Int) - s.depth)=l[i]:=by
 unfold bH
 have ei:((i:Int) - s.depth+s.depth).toNat=i:=by omega
 rw [ei,wp hi]
 rfl
theorem ZiT {s:Shp} {l:Aj} {b:Nat} (h:∀ v∈l,nb b v):Bd s b (bH s l):=λx _ _=>by
 unfold bH
 cases e:l[(x+s.depth).toNat]? with
 | none=>exact Nat.pow_pos (by decide)
 | some v=>exact h v (xI e)
noncomputable def pz (s:Shp) (m:Int×Int) (ws:List (Int×Int)):Int->Int:=bH s (ws.map (ovr (bK m.2 ws)))
structure LkP (s:Shp) (one:Aj) (m:Int×Int) (ws:List (Int×Int)) (ls:Aj):Prop where
 sm:IsSh m
 fm:∀ i,i < s.n->fmB s ws ls i
 lk:∀ i (h:i < ls.length),ff s one (pz s m ws) (bK m.2 ws) (ovr (bK m.2 ws) m) ((i:Int) - s.depth) ls[i]
end My
set_option Elab.async false
set_option linter.all false
set_option maxRecDepth 100000
set_option exponentiation.threshold 9000
namespace My
open L2 Tw Bar
theorem Zjl {s:Shp} (h:s.Ok) {one:Aj} {A B:Int->Int} {D D' c e:Int} (hD:c * D=e * D') (hA:∀ x,-s.depth<=x->x<=s.top->c * A x=e * B x) {y:Int} (y2:y<=s.top):c * s.wg one y A D=e * s.wg one y B D':=by
 unfold Shp.wg
 rw [<- jh,<- jh]
 refine lJ λf hf=>?_
 have k:=hA _ (gA s y f) (gz h y2 hf)
 rw [xc,xc,k,<- zX,<- zX,hD]
theorem rq {s:Shp} (h:s.Ok) {one:Aj} {A B:Int->Int} {D D' c e:Int} (hD:c * D=e * D') (hA:∀ x,-s.depth<=x->x<=s.top->c * A x=e * B x) {x y:Int} (y2:y<=s.top):c * vB s one A D x y=e * vB s one B D' x y:=by
 unfold vB
 rw [xc,xc,Zjl h hD hA y2]
 have e1:c * (D * one.sum * s.ord x y)=c * D * (one.sum * s.ord x y):=by grind
 have e2:e * (D' * one.sum * s.ord x y)=e * D' * (one.sum * s.ord x y):=by grind
 rw [e1,e2,hD]
theorem t5 {s:Shp} (h:s.Ok) {one:Aj} {A B:Int->Int} {D D' c e M M':Int} (c0:0 < c) (e0:0 < e) (hD:c * D=e * D') (hM:c * M=e * M') (hA:∀ x,-s.depth<=x->x<=s.top->c * A x=e * B x) {x y:Int} (x1:-s.depth<=x) (x2:x<=s.top) (y2:y<=s.top) (k:ff s one B D' M' x y):ff s one A D M x y:=by
 obtain ⟨k1,k2⟩:=k
 have eq:c * (one.sum * (M+A x))=e * (one.sum * (M'+B x)):=by
  have:c * (one.sum * (M+A x))=one.sum * (c * M+c * A x):=by grind
  rw [this,hM,hA x x1 x2]
  grind
 refine ⟨xH (xi c0) ?_,λz z1 z2=>yz ?_ c0⟩
 ·rw [eq,rq h hD hA y2,k1]
 ·rw [eq,rq h hD hA z2]
  exact wP (k2 z z1 z2) (wy e0)
theorem Zas {s:Shp} {one:Aj} {A:Int->Int} {D x y t:Int}:vB s one (λz=>A z+t) D x y=vB s one A D x y+one.sum * t:=by
 unfold vB Shp.wg
 have e:∀ (l:Aj) (k:Nat),ws (λf=>D * s.day y f+(A (s.nx y f)+t)) k l=ws (λf=>D * s.day y f+A (s.nx y f)) k l+l.sum * t:=by
  intro l
  induction l with
  | nil=>intro k; rw [ws,ws,List.sum_nil,Int.zero_mul,Int.zero_add]
  | cons w l ih=>intro k; rw [ws,ws,ih,xu]; grind
 rw [e]
 omega
theorem Zm1 {s:Shp} {one:Aj} {A:Int->Int} {D M x y:Int} (t:Int) (k:ff s one A D M x y):ff s one (λz=>A z+t) D M x y:=by
 obtain ⟨k1,k2⟩:=k
 have e:one.sum * (M+(A x+t))=one.sum * (M+A x)+one.sum * t:=by grind
 refine ⟨?_,λz z1 z2=>?_⟩
 ·rw [e,Zas,k1]
 ·rw [e,Zas]
  have:=k2 z z1 z2
  omega
theorem nU {s:Shp} {one:Aj} {lv:Nat->Int} (r:RuOk s one lv) {A A':Int->Int} {D D' M M':Int} (z0:A (-s.depth)=0) (z0':A' (-s.depth)=0) (D0':0 < D')
  (hle:∀ i,i < s.n->one.sum * (M+A ((i:Int) - s.depth))<=vB s one A D ((i:Int) - s.depth) (lv i)) (hown:∀ i,i < s.n->one.sum * (M'+A' ((i:Int) - s.depth))=vB s one A' D' ((i:Int) - s.depth) (lv i)) :
  D' * M < D * M'\/(D' * M=D * M'/\∀ i,i < s.n->D' * A ((i:Int) - s.depth)<=D * A' ((i:Int) - s.depth)):=by
 have h:=r.h
 have hn:=h.n_eq
 have t0:=h.t0
 have d0:=h.d0
 have ez:∀ (A:Int->Int) (M:Int),A (-s.depth)=0->∀ x,-s.depth<=x->x<=s.top->A x=if (x+s.depth).toNat=0 then 0 else (λl:Nat=>if l=0 then M else A ((l:Int) - s.depth)) (x+s.depth).toNat:=λA M z x x1 x2=>by
  by_cases c:(x+s.depth).toNat=0
  ·rw [if_pos c]
   have:x=-s.depth:=by omega
   rw [this,z]
  ·rw [if_neg c]
   show A x=if (x+s.depth).toNat=0 then M else A (((x+s.depth).toNat:Int) - s.depth)
   rw [if_neg c]
   congr 1
   omega
 have key:=improve (kh r) (by omega) (y:=λl=>D' * (λl:Nat=>if l=0 then M else A ((l:Int) - s.depth)) l - D * (λl:Nat=>if l=0 then M' else A' ((l:Int) - s.depth)) l) (s:=λi=>D' * (vB s one A D ((i:Int) - s.depth) (lv i) - one.sum * (M+A ((i:Int) - s.depth))))
  (λi hi=>wW (wy D0') (by have:=hle i hi; omega))
  (λi hi=>by
   have a1:=l7 r (λl:Nat=>if l=0 then M else A ((l:Int) - s.depth)) A (ez A M z0) D hi
   have a2:=l7 r (λl:Nat=>if l=0 then M' else A' ((l:Int) - s.depth)) A' (ez A' M' z0') D' hi
   have a3:=hown i hi
   rw [xc] at a3
   rw [gk,a1,a2,<- a3,if_pos rfl,if_pos rfl]
   grind)
 rcases key with k | ⟨k,k2⟩
 ·have k':D' * M - D * M' < 0:=k
  exact .inl (by omega)
 ·have k':D' * M - D * M'=0:=k
  refine .inr ⟨by omega,λi hi=>?_⟩
  by_cases c:i=0
  ·subst c
   have e:((0:Nat):Int) - s.depth=-s.depth:=by omega
   rw [e,z0,z0',xN,xN]
   exact wG _
  ·have k3:D' * (if i=0 then M else A ((i:Int) - s.depth)) - D * (if i=0 then M' else A' ((i:Int) - s.depth))<=0:=k2 i (by omega) hi
   rw [if_neg c,if_neg c] at k3
   omega
theorem Zkl {s:Shp} {one:Aj} {lv lv':Nat->Int} (r:RuOk s one lv) (r':RuOk s one lv') {A A':Int->Int} {D D' M M':Int} (z0:A (-s.depth)=0) (z0':A' (-s.depth)=0) (D0:0 < D) (D0':0 < D')
  (k:∀ i,i < s.n->ff s one A D M ((i:Int) - s.depth) (lv i)) (k':∀ i,i < s.n->ff s one A' D' M' ((i:Int) - s.depth) (lv' i)) :
  D' * M=D * M'/\∀ i,i < s.n->D' * A ((i:Int) - s.depth)=D * A' ((i:Int) - s.depth):=by
 have a:=nU r' z0 z0' D0' (λi hi=>(k i hi).2 _ (r'.lo i hi) (r'.hi i hi)) (λi hi=>(k' i hi).1)
 have b:=nU r z0' z0 D0 (λi hi=>(k' i hi).2 _ (r.lo i hi) (r.hi i hi)) (λi hi=>(k i hi).1)
 rcases a with a | ⟨a,a2⟩
 ·rcases b with b | ⟨b,_⟩ <;> omega
 ·rcases b with b | ⟨_,b2⟩
  ·omega
  ·exact ⟨a,λi hi=>zE (a2 i hi) (b2 i hi)⟩
theorem pq {s:Shp} {one:Aj} {lv:Nat->Int} (r:RuOk s one lv) (hf:bn s one lv=lv) {i:Nat} (hi:i < s.n):ff s one (wB s one lv) (aJ s one lv) (zB s one lv 0) ((i:Int) - s.depth) (lv i):=by
 refine ⟨pZ r hi,λz z1 z2=>?_⟩
 rw [pZ r hi]
 exact Zor r hf hi z1 z2
theorem jV (s:Shp) (one:Aj) (lv:Nat->Int):wB s one lv (-s.depth)=0:=if_pos rfl
theorem Zag {f:Int->Int}:∀ {l:Aj} {k:Nat},(∀ w∈l,0<=w)->(∀ x:Int,f x<=1)->ws f k l<=l.sum
 | [],k,_,_=>by rw [ws]; exact wG _
 | w::l,k,h0,hf=>by
  have ih:=Zag (l:=l) (k:=k+1) (λv hv=>h0 v (v8 _ hv)) hf
  have h1:=wP (hf k) (h0 w (by simp))
  rw [ws,xu]
  omega
theorem Zbh {s:Shp} {one:Aj} {lv:Nat->Int} (r:RuOk s one lv) (s13:nb 13 one.sum):nb 208 (aJ s one lv):=by
 refine qa (b:=13) r.n9 (λi j hi hj=>?_) (wa _)
 have p0:0<=jr s one (lv i) j:=nJ r.hd.w0 λx=>by split <;> decide
 have p1:jr s one (lv i) j<=one.sum:=Zag r.hd.w0 λx=>by split <;> decide
 have sp:=r.hd.pos
 unfold cb
 rw [if_neg (by omega)]
 split
 ·exact s13
 ·unfold nb at *
  split <;> omega
noncomputable def cT (t b:Int):Int×Int:=(Gc.cm t b,Gc.b9 t b)
theorem gH {t b:Int} (h:0 < b):IsSh (cT t b):=by
 obtain ⟨_,_,a,b⟩:=Gc.mK (t:=t) (b:=b) (by omega)
 exact ⟨a,b⟩
theorem kP {t b:Int} (h:0 < b):(cT t b).1 * b=t * (cT t b).2:=by
 obtain ⟨e1,e2,_,_⟩:=Gc.mK (t:=t) (b:=b) (by omega)
 show Gc.cm t b * b=t * Gc.b9 t b
 generalize Gc.cm t b=p at *
 generalize Gc.b9 t b=q at *
 generalize Gc.den t b=g at *
 rw [e1,e2]
 grind
theorem ZcP {D t b:Int} (h:0 < b) (hd:(cT t b).2 ∣ D):b * ovr D (cT t b)=D * t:=by
 have e1:=km (gH h).pos hd
 have e2:=kP (t:=t) h
 have p:=(gH (t:=t) h).pos
 refine xf (xi p) ?_
 have:b * ovr D (cT t b) * (cT t b).2=b * (ovr D (cT t b) * (cT t b).2):=by grind
 rw [this,e1]
 grind
theorem Zbb {t b u c:Int} (hb:0 < b) (hc:0 < c) (h:t * c=u * b):c5 t b=c5 u c:=by
 obtain ⟨a1,a2,a3,a4⟩:=Gc.mK (t:=t) (b:=b) (by omega)
 obtain ⟨b1,b2,b3,b4⟩:=Gc.mK (t:=u) (b:=c) (by omega)
 have hd:Gc.den t b≠0:=Gc.mX (by omega)
 have he:Gc.den u c≠0:=Gc.mX (by omega)
 obtain ⟨e1,e2⟩:=Gc.ZmX a3 b3 a4 b4 (by
  refine xH (Int.mul_ne_zero hd he) ?_
  have q1:Gc.den t b * Gc.den u c * (Gc.cm t b * Gc.b9 u c)=(Gc.den t b * Gc.cm t b) * (Gc.den u c * Gc.b9 u c):=by grind
  have q2:Gc.den t b * Gc.den u c * (Gc.cm u c * Gc.b9 t b)=(Gc.den u c * Gc.cm u c) * (Gc.den t b * Gc.b9 t b):=by grind
  rw [q1,q2,<- a1,<- a2,<- b1,<- b2,h])
 unfold c5
 rw [e1,e2]
noncomputable def bW (s:Shp) (one:Aj) (lv:Nat->Int):List (Int×Int):=(ak (-s.depth) s.n).map λx=>cT (wB s one lv x) (aJ s one lv)
theorem ZdF (s:Shp) (one:Aj) (lv:Nat->Int):kO s one lv=dW (cT (zB s one lv 0) (aJ s one lv)) (bW s one lv) (bB s lv):=by
 unfold kO dW bW
 rw [wu]
 rfl
theorem rQ (s:Shp) (one:Aj) (lv:Nat->Int):(bW s one lv).length=s.n:=by unfold bW; rw [v7,dU]
theorem jz (s:Shp) (lv:Nat->Int):(bB s lv).length=s.n:=by unfold bB; rw [v7,wI]
theorem pj {s:Shp} {lv:Nat->Int} {i:Nat} (hi:i < (bB s lv).length):(bB s lv)[i]=lv i:=by
 have e:(bB s lv)[i]?=some (lv i):=by
  rw [jz] at hi
  unfold bB
  rw [v9,wm hi]
  rfl
 rw [wp hi] at e
 exact wJ e
theorem rR {s:Shp} {one:Aj} {lv:Nat->Int} {i:Nat} (hi:i < s.n):(bW s one lv)[i]?=some (cT (wB s one lv ((i:Int) - s.depth)) (aJ s one lv)):=by
 unfold bW ak
 rw [wu,v9,wm hi]
 have:-s.depth+(i:Int)=(i:Int) - s.depth:=by omega
 show some (cT (wB s one lv (-s.depth+(i:Int))) _)=_
 rw [this]
theorem Zm2 {s:Shp} {one:Aj} {lv:Nat->Int} (r:RuOk s one lv) (hf:bn s one lv=lv):LkP s one (cT (zB s one lv 0) (aJ s one lv)) (bW s one lv) (bB s lv):=by
 have sp:=dq r
 have h:=r.h
 have hn:=h.n_eq
 refine ⟨gH sp,λi hi=>⟨⟨_,rR hi,(nV _).mpr (gH sp)⟩,lv i,?_,r.lo i hi,r.hi i hi⟩,λi hi=>?_⟩
 ·have hi':i < (bB s lv).length:=by rw [jz]; exact hi
  rw [wp hi',pj hi']
 ·rw [pj hi]
  rw [jz] at hi
  have w0:∀ p∈bW s one lv,0 < p.2:=λp hp=>by
   unfold bW at hp
   obtain ⟨x,_,rfl⟩:=wL.mp hp
   exact (gH sp).pos
  refine t5 h sp (m7 (gH sp).pos w0) (xO _ _) (ZcP sp ql) (λx x1 x2=>?_) (by omega) (by omega) (r.hi i hi) (pq r hf hi)
  have hk:(x+s.depth).toNat < s.n:=by omega
  have ex:(((x+s.depth).toNat:Nat):Int) - s.depth=x:=by omega
  have e1:=rR (one:=one) (lv:=lv) hk
  rw [ex] at e1
  unfold pz bH
  rw [v9,e1]
  exact ZcP sp (qm (xI e1))
end My
set_option Elab.async false
set_option linter.all false
set_option maxRecDepth 100000
set_option exponentiation.threshold 9000
namespace My
open L2 Tw
theorem bi (n:Int):cr [.pen,.d (.int n)]=.draw n λr=>.ret (.d (.int r)):=rfl
theorem sk:Al (kH [.pen]) 3 λr=>∃ p:Int,r=.d (.int p)/\0<=p/\p<=1000000:=by
 simp_arith [kH,bi]
 refine cM (n:=2) (by decide) (by decide) (by decide) λw w0 w1=>?_
 by_cases c:w < 4
 ·simp_arith [bi,decide_eq_true c]
  refine cM (n:=1) (by decide) (by decide) (by decide) λf f0 f1=>?_
  have g1:fit f=true:=aH (show nb 20 f from bP (by show -1048576 < _; omega) (by show _ < 1048576; omega)) (by decide)
  have g2:fit (1:Int)=true:=aH (show nb 20 (1:Int) from bP (by decide) (by decide)) (by decide)
  have g3:fit (0:Int)=true:=aH (show nb 20 (0:Int) from bP (by decide) (by decide)) (by decide)
  by_cases c2:w > 0
  ·simp_arith [bi,decide_eq_true c2,if_true,g1,g2,yK]
   refine dE ?_
   exact ⟨f,rfl,by omega,by omega⟩
  ·simp_arith [bi,decide_eq_false c2,xt,if_false,g1,g3,xN]
   refine dE ?_
   exact ⟨0,rfl,by decide,by decide⟩
 ·simp_arith [bi,decide_eq_false c]
  refine cM (n:=1) (by decide) (by decide) (by decide) λa a0 a1=>?_
  try simp_arith [bi]
  refine cM (n:=0) (by decide) (by decide) (by decide) λb b0 b1=>?_
  obtain ⟨y,hy,y0,y1⟩:=tH (xs:=[PyData.int a,.int (1000000 - b)]) (lo:=0) (hi:=1000000) (r:=w - 4) (by simp [kZ]; omega) (by omega) (by simp; omega)
  have e6:(10:Int) ^ Int.toNat 6=1000000:=rfl
  simp_arith [bi,e6,hy]
  exact dE ⟨y,rfl,y0,y1⟩
theorem ZkI {ns:Aj} (hl:ns.length<=100) (A B C:Sl):Al (uj [.pen,A,B,.own (ns.map PyData.int),C]) 3 λo=>∃ y:Int,o=.next [.pen,A,B,.own ((ns++[y]).map PyData.int),C]/\0<=y/\y<=1000:=by
 have hs:small ((ns.map PyData.int).length+1)=true:=b7 (by rw [v7]; omega)
 simp_arith [uj,bi]
 refine cM (n:=2) (by decide) (by decide) (by decide) λa a0 a1=>?_
 try simp_arith [bi]
 refine cM (n:=1) (by decide) (by decide) (by decide) λb b0 b1=>?_
 try simp_arith [bi]
 refine cM (n:=0) (by decide) (by decide) (by decide) λw w0 w1=>?_
 obtain ⟨y,hy,y0,y1⟩:=tH (xs:=[PyData.int 0,.int 1,.int a,.int b]) (lo:=0) (hi:=1000) (by simp [kZ]; omega) w0 w1
 simp_arith [bi,hy,hs]
 have em:ns.map PyData.int++[PyData.int y]=(ns++[y]).map PyData.int:=by rw [wT]; rfl
 rw [em]
 exact dE ⟨y,rfl,y0,y1⟩
structure WtAt (many k:Nat) (ls:Aj):Prop where
 len:ls.length=many
 le:∀ n∈ls,0<=n/\n<=1000
 at':∃ v,ls[k]?=some v/\1<=v
theorem Zbl {many k:Nat} (m1:many<=20) (hk:k < many):Al (kG [.pen,.d (.int many),.d (.int k)]) (3 * many) λr=>∃ ls:Aj,r=.d (tI ls)/\WtAt many k ls:=by
 have r1:fE [.int (many:Int)]=.ret (aN 0 many):=ia (dB (by omega) (by omega))
 simp_arith only [kG,bi,r1]
 refine eZ (n:=3 * many) (n':=0) (P:=λo=>∃ (ns:Aj) (C:Sl),o=.next [.pen,.d (.int many),.d (.int k),.own (ns.map PyData.int),C]/\ns.length=many/\∀ n∈ns,0<=n/\n<=1000) ?_ (by omega) ?_
 ·refine qz (n:=3) (λpre ρ=>∃ (ns:Aj) (C:Sl),ρ=[.pen,.d (.int many),.d (.int k),.own (ns.map PyData.int),C]/\ns.length=pre.length/\∀ n∈ns,0<=n/\n<=1000) ⟨[],_,rfl,rfl,λ_ q=>by cases q⟩ (by rw [cS]; omega) ?_ ?_
  ·rintro pre x post ρ e ⟨ns,C,rfl,hl,hn⟩
   obtain ⟨rfl,hpre⟩:=sO e
   refine ⟨_,rfl,nn (ZkI (by omega) _ _ _) (wa _) ?_⟩
   rintro _ ⟨y,rfl,y0,y1⟩
   refine ⟨_,rfl,ns++[y],_,rfl,by simp [hl],λn hn'=>?_⟩
   rcases xT.mp hn' with hq | hq
   ·exact hn n hq
   ·simp at hq
    subst hq
    exact ⟨y0,y1⟩
  ·rintro ρ ⟨ns,C,rfl,hl,hn⟩
   rw [cS] at hl
   exact ⟨ns,C,rfl,by omega,hn⟩
 ·rintro _ ⟨ns,C,rfl,hl,hn⟩
  have hkl:k < ns.length:=by omega
  have hi:db (ns.map PyData.int).length (k:Int)=some k:=by
   rw [v7]
   unfold db
   rw [if_pos (by omega),if_pos (by omega)]
   congr 1
  have hat:bz (ns.map PyData.int) (k:Int)=some (.int ns[k]):=ft (by omega) (by rw [v9,show ((k:Int)).toNat=k by omega,wp hkl]; rfl)
  have hv:=hn ns[k] (xQ hkl)
  have es:(ns.map PyData.int).set k (.int (b8 1 ns[k]))=(ns.set k (b8 1 ns[k])).map PyData.int:=List.map_set.symm
  have hm:1<=b8 1 ns[k]/\b8 1 ns[k]<=1000:=by unfold b8; split <;> omega
  simp_arith only [bi,hat,uH hi,es]
  refine dE ⟨ns.set k (b8 1 ns[k]),rfl,by rw [wY,hl],λn hn'=>?_,b8 1 ns[k],by rw [wC hkl],hm.1⟩
  rcases List.mem_or_eq_of_mem_set hn' with q | q
  ·exact hn n q
  ·subst q; omega
structure Cs (s:Shp) (one:Aj):Prop where
 dr:s.Dr
 td:s.top+s.depth<=7
 len:one.length<=8
 le:∀ n∈one,0<=n/\n<=1000
 big:∃ (k:Nat) (v:Int),s.top+s.depth<=k/\one[k]?=some v/\1<=v
theorem ZaR:∀ {ns:Aj} {k i:Nat} {v:Int},ns[i]?=some v->0 < v->((k+i:Nat):Int)∈fh k ns
 | [],k,i,v,h,_=>by simp at h
 | n::ns,k,0,v,h,hv=>by
  simp at h
  subst h
  rw [fh,if_pos hv]
  exact w8 ..
 | n::ns,k,i+1,v,h,hv=>by
  have ih:=ZaR (ns:=ns) (k:=k+1) (i:=i) (by simpa using h) hv
  have e:k+1+i=k+(i+1):=by omega
  rw [e] at ih
  rw [fh]
  split
  ·exact v8 _ ih
  ·exact ih
theorem ZnG {one:Aj} {k:Nat} {v:Int} (h:one[k]?=some v) (hv:1<=v):(k:Int)<=great one:=by
 have hm:=ZaR (k:=0) h (by omega)
 rw [Nat.zero_add] at hm
 exact (my (List.ne_nil_of_mem hm)).2 _ hm
theorem ZaM {c:Int}:∀ {l:Aj},(∀ n∈l,0<=n/\n<=c)->0<=l.sum/\l.sum<=c * l.length
 | [],_=>by simp
 | n::l,h=>by
  have ih:=ZaM (l:=l) λv hv=>h v (v8 _ hv)
  have h1:=h n (by simp)
  rw [xu,wl,Int.natCast_add,xc]
  simp only [Int.natCast_one,yK]
  omega
theorem Cs.gr {s:Shp} {one:Aj} (h:Cs s one):s.top+s.depth<=great one:=by
 obtain ⟨k,v,h1,h2,h3⟩:=h.big
 exact zo h1 (ZnG h2 h3)
theorem Cs.ps {s:Shp} {one:Aj} (h:Cs s one):∃ w∈one,w > 0:=by
 obtain ⟨k,v,h1,h2,h3⟩:=h.big
 exact ⟨v,xI h2,by omega⟩
theorem Cs.ok {s:Shp} {one:Aj} (h:Cs s one):DayOk 8 one:=⟨h.len,h.ps,λn hn=>by have:=h.le n hn; omega⟩
theorem Cs.B {s:Shp} {one:Aj} (h:Cs s one):DayB one:=h.ok.B (by decide)
theorem Cs.n8 {s:Shp} {one:Aj} (h:Cs s one):s.n<=8:=by have:=h.td; have:=h.dr.ok.n_eq; omega
theorem Cs.s13 {s:Shp} {one:Aj} (h:Cs s one):nb 13 one.sum:=by
 obtain ⟨a,b⟩:=ZaM h.le
 have:=h.len
 exact bP (by show -8192 < _; omega) (by show _ < 8192; omega)
theorem WtAt.cs {s:Shp} {many k:Nat} {ls:Aj} (h:WtAt many k ls) (hs:s.Dr) (t7:s.top+s.depth<=7) (hk:s.top+s.depth<=k) (m8:many<=8):Cs s ls:=by
 obtain ⟨v,h1,h2⟩:=h.at'
 exact ⟨hs,t7,by rw [h.len]; exact m8,h.le,k,v,hk,h1,h2⟩
theorem ZkL {few:Int} (f0:0<=few) (f1:few<=7):Al (mG [.pen,.d (.int few)]) 60 λr=>∃ (s:Shp) (one:Aj),r=.d (.tuple [s.d,tI one])/\Cs s one:=by
 have r1:fE [.int 7]=.ret (aN 0 7):=ia rfl
 have hs:small (aN 0 7).length=true:=b7 (by rw [cS]; decide)
 simp_arith [mG,bi]
 refine cM (n:=59) (by decide) (by decide) (by decide) λt t0 t1=>?_
 obtain ⟨y,hy,y0,y1⟩:=tH (xs:=[PyData.int 8,.int (few+1)]) (lo:=1) (hi:=8) (r:=if decide (t > 0)=true then 1 else 0) (by simp [kZ]; omega) (by split <;> omega) (by simp; split <;> omega)
 simp_arith [bi,hy]
 refine cM (n:=58) (by omega) (by omega) (by decide) λpc p0 p1=>?_
 try simp_arith [bi]
 refine cM (n:=57) (by omega) (by omega) (by decide) λd d0 d1=>?_
 simp_arith [bi,r1,hs]
 refine eZ (n:=21) (n':=36) (Zqr (n:=3) (P:=kZ 0 1000000) (Q:=λys=>∃ ps:Aj,ys=ps.map PyData.int/\ps.length=7/\∀ p∈ps,0<=p/\p<=1000000) (by rw [cS]; decide) (λx hx=>?_) λys hl hys=>?_) (by decide) ?_
 ·simp_arith [Zcw,bi]
  refine eZ (n:=3) (n':=0) sk (by decide) ?_
  rintro _ ⟨p,rfl,p0,p1⟩
  simp_arith [bi]
  exact dE ⟨p,rfl,p0,p1⟩
 ·obtain ⟨ps,rfl,hp⟩:=Zed hys
  rw [v7,cS] at hl
  exact ⟨ps,rfl,hl,hp⟩
 ·rintro _ ⟨ps,rfl,hpl,hp⟩
  obtain ⟨a1,a2,a3,a4,a5,a6,a7,rfl⟩:=Zm3 hpl
  simp_arith [bi]
  refine cM (n:=35) (by omega) (by omega) (by decide) λq q0 q1=>?_
  try simp_arith [bi]
  refine cM (n:=34) (by omega) (by omega) (by decide) λu u0 u1=>?_
  obtain ⟨many,em⟩:∃ many:Nat,pc+1+q=(many:Int):=⟨(pc+1+q).toNat,by omega⟩
  obtain ⟨k,ek⟩:∃ k:Nat,pc+u=(k:Int):=⟨(pc+u).toNat,by omega⟩
  rw [em] at u1
  simp_arith [bi,em,ek]
  refine eZ (n:=3 * many) (n':=0) (Zbl (by omega) (by omega)) (by omega) ?_
  rintro _ ⟨ls,rfl,hls⟩
  simp_arith [bi]
  have hd:(Shp.mk (pc - d) d a1 a2 a3 a4 a5 a6 a7).Dr:=⟨by show 0<=pc - d; omega,d0,by show pc - d+d<=39; omega,hp⟩
  exact dE ⟨⟨pc - d,d,a1,a2,a3,a4,a5,a6,a7⟩,ls,by rw [<- rP],hls.cs hd (by show pc - d+d<=7; omega) (by show pc - d+d<=_; omega) (by omega)⟩
end My
set_option Elab.async false
set_option linter.all false
set_option maxRecDepth 100000
set_option exponentiation.threshold 9000
namespace My
open L2 Tw Bar
theorem Zmw (a b:Int):aR cD (c5 a b) (c5 a b)=.ret (.bool false):=by
 unfold c5
 rw [Zc6 rfl rfl (λa b z=>by cases z.1)]
 simp [PyData.eqv,PyData.eqvAll]
theorem qb (s:Shp):gQ s.d none (some 2)=.ret (.tuple [.int s.top,.int s.depth]):=by unfold Shp.d; rfl
structure Lst (s:Shp) (one:Aj) (lv:Nat->Int):Prop where
 r:RuOk s one lv
 st:bn s one lv=lv
 e:iQ [.d s.d,.d (tI one)]=.ret (.d (kO s one lv))
theorem Cs.lst {s:Shp} {one:Aj} (h:Cs s one):∃ lv,Lst s one lv:=by
 obtain ⟨lv,r,hf,e⟩:=Zol h.dr.ok h.n8 h.B h.gr h.ps
 exact ⟨lv,r,hf,e⟩
end My
set_option Elab.async false
set_option linter.all false
set_option maxRecDepth 100000
set_option exponentiation.threshold 9000
namespace My
open L2 Tw
noncomputable def fo:PyData->Bool
 | .int _=>true
 | _=>false
noncomputable def fQ (x:PyData) (a b:Int):Bool:=match x with
 | .int n=>decide (a<=n) && decide (n<=b)
 | _=>false
noncomputable def jx (top:Int):Int->List PyData->Bool
 | _,[]=>true
 | lo,y::ys=>fQ y lo top && jx top (lo+1) ys
noncomputable def lB (s:Shp):PyData->Bool
 | .tuple ys=>((ys.length:Int) == s.top+s.depth+1) && jx s.top (-s.depth) ys
 | _=>false
theorem Zd3 (s:Shp) (ys:Ai):lB s (.tuple ys)=(((ys.length:Int) == s.top+s.depth+1) && jx s.top (-s.depth) ys):=rfl
theorem pK {x:PyData} (h:∀ xs,x≠.tuple xs):kY "tuple" (iu x)=false:=by
 cases x with
 | tuple xs=>exact absurd rfl (h xs)
 | none=>rfl
 | bool _=>rfl
 | int _=>rfl
 | str _=>rfl
 | list _=>rfl
 | dict _=>rfl
theorem fk (xs:Ai):kY "tuple" (iu (.tuple xs))=true:=rfl
theorem h9 (x:PyData):kJ [.d x]=.ret (.d (.bool (fo x))):=by
 cases x <;> (simp_arith [kJ]; rfl)
theorem ZnK (x:PyData) (a b:Int):gE [.d x,.d (.int a),.d (.int b)]=.ret (.d (.bool (fQ x a b))):=by
 cases x with
 | int n =>
  have e:=h9 (.int n)
  simp_arith [gE,e,fo,fQ]
  cases h1:decide (a<=n) <;> cases h2:decide (n<=b) <;> simp_arith [h1,h2,yf,xR,zi,zO]
 | none=>have e:=h9 .none; simp_arith [gE,e,fo,fQ]
 | bool c=>have e:=h9 (.bool c); simp_arith [gE,e,fo,fQ]
 | str c=>have e:=h9 (.str c); simp_arith [gE,e,fo,fQ]
 | list c=>have e:=h9 (.list c); simp_arith [gE,e,fo,fQ]
 | tuple c=>have e:=h9 (.tuple c); simp_arith [gE,e,fo,fQ]
 | dict c=>have e:=h9 (.dict c); simp_arith [gE,e,fo,fQ]
theorem Zdv {h:PyData->Tr PyData} {f:PyData->Bool}:∀ {xs:Ai},(∀ x∈xs,h x=.ret (.bool (f x)))->bG h xs=.ret ((xs.map f).map PyData.bool)
 | [],_=>rfl
 | x::xs,hx=>by
  rw [bG,hx x w8,Tr.ret_bind,Zdv λy hy=>hx y (v8 _ hy)]
  rfl
theorem Zi2 {f:PyData->Bool}:∀ xs:Ai,(xs.map f).all id=xs.all f
 | []=>rfl
 | x::xs=>by rw [wf,zf,zf,Zi2 xs]; rfl
theorem ZnN (s:Shp) (x:Int) (y:PyData):pb [.d s.d,.d (.int x),.d y]=.ret (.d (.bool (fQ y x s.top))):=by
 have e:=ZnK y x s.top
 simp_arith [pb,e]
theorem Zlc (lo:Int) (n:Nat):ak lo (n+1)=lo::ak (lo+1) n:=by
 unfold ak
 rw [List.range_succ_eq_map,wf,wu]
 refine congr (congrArg List.cons (by show lo+((0:Nat):Int)=lo; omega)) (wR λk _=>?_)
 show lo+((k+1:Nat):Int)=lo+1+(k:Int)
 omega
noncomputable def lvs (top:Int):Int->List PyData->List Bool
 | _,[]=>[]
 | lo,y::ys=>fQ y lo top::lvs top (lo+1) ys
theorem Zdw (top:Int):∀ (ys:Ai) (lo:Int),(lvs top lo ys).all id=jx top lo ys
 | [],_=>rfl
 | y::ys,lo=>by rw [lvs,zf,Zdw top ys,jx]; rfl
theorem Zdy (s:Shp):∀ (ys:Ai) (lo:Int),bG (cu (bh (aw (ah 0) (aw (ah 1) bf))) tt [.un,.un,.d s.d]) (bS ((ak lo ys.length).map PyData.int) ys)=.ret ((lvs s.top lo ys).map PyData.bool)
 | [],lo=>rfl
 | y::ys,lo=>by
  have e:=ZnN s lo y
  have ih:=Zdy s ys (lo+1)
  have ez:bS ((ak lo (y::ys).length).map PyData.int) (y::ys)=.tuple [.int lo,y]::bS ((ak (lo+1) ys.length).map PyData.int) ys:=by
   rw [wl,Zlc]; rfl
  rw [ez,bG,ih]
  simp_arith [tt,e]
  rfl
theorem Zdb {s:Shp} (h:s.Ok):(((aN (-s.depth) (s.top+1)).length:Nat):Int)=s.top+s.depth+1:=by
 have:=h.t0
 have:=h.d0
 rw [cS]
 omega
theorem ZnM {s:Shp} (h:s.Ok) {x:PyData} (hl:∀ ys,x=.tuple ys->ys.length<=200):kK [.d s.d,.d x]=.ret (.d (.bool (lB s x))):=by
 have es:=ic h
 have en:bR c7 [.tuple (aN (-s.depth) (s.top+1))]=.ret (.int (s.top+s.depth+1)):=by
  show Tr.ret (PyData.int ((aN (-s.depth) (s.top+1)).length:Nat))=_
  rw [Zdb h]
 by_cases ht:∃ ys,x=.tuple ys
 ·obtain ⟨ys,rfl⟩:=ht
  have h200:=hl ys rfl
  rw [Zd3]
  cases h1:((ys.length:Int) == s.top+s.depth+1)
  ·simp_arith [kK,es,en,fk,h1,wK,xh,xR]
  ·have hlen:ys.length=(s.top+1 - -s.depth).toNat:=by have:=eq_of_beq h1; omega
   have em:=Zdy s ys (-s.depth)
   have ez:aN (-s.depth) (s.top+1)=(ak (-s.depth) ys.length).map PyData.int:=by unfold aN; rw [hlen]
   rw [<- ez] at em
   have hs:small (bS (aN (-s.depth) (s.top+1)) ys).length=true:=b7 (by unfold bS; rw [v7,ye]; omega)
   simp_arith [kK,es,en,fk,h1,em,hs,Zdw,wK,yf]
 ·have hn:=pK (x:=x) λxs e=>ht ⟨xs,e⟩
  have hd:lB s x=false:=by
   cases x with
   | tuple xs=>exact absurd ⟨xs,rfl⟩ ht
   | _=>rfl
  rw [hd]
  simp_arith [kK,es,hn,xh]
end My
set_option Elab.async false
set_option linter.all false
set_option maxRecDepth 100000
set_option exponentiation.threshold 9000
namespace My
open L2 Tw Bar
noncomputable def fi:PyData->Bool
 | .tuple [.int a,.int b]=>lT (a,b)
 | _=>false
theorem Zbd (p:Int×Int):fi (shr p)=lT p:=rfl
theorem Zkt {xs:Ai} (h:xs.length≠2):fi (.tuple xs)=false:=by
 rcases xs with _ | ⟨a,_ | ⟨b,_ | ⟨c,r⟩⟩⟩
 ·rfl
 ·cases a <;> rfl
 ·exact absurd rfl h
 ·cases a <;> cases b <;> rfl
theorem Zbc {u v:PyData} (h:(fo u && fo v)=false):fi (.tuple [u,v])=false:=by
 cases u <;> cases v <;> first | rfl | (simp [fo] at h)
theorem Zeo {x:PyData} (hx:∀ a b,x=.tuple [.int a,.int b]->nb 7000 b):gF [.d x]=.ret (.d (.bool (fi x))):=by
 by_cases ht:∃ ys,x=.tuple ys
 ·obtain ⟨xs,rfl⟩:=ht
  by_cases hl:xs.length=2
  ·obtain ⟨u,v,rfl⟩:∃ u v,xs=[u,v]:=by
    rcases xs with _ | ⟨a,_ | ⟨b,_ | ⟨c,r⟩⟩⟩
    ·simp at hl
    ·simp at hl
    ·exact ⟨a,b,rfl⟩
    ·simp at hl
   have e1:=h9 u
   have e2:=h9 v
   cases hu:fo u
   ·rw [Zbc (by rw [hu]; rfl)]
    rw [hu] at e1
    simp_arith [gF,fk,nR,wK,e1,xh]
   ·cases hv:fo v
    ·rw [Zbc (by rw [hv,zO])]
     rw [hu] at e1
     rw [hv] at e2
     simp_arith [gF,fk,nR,wK,e1,e2,xh]
    ·obtain ⟨a,rfl⟩:∃ a:Int,u=.int a:=by cases u <;> first | exact ⟨_,rfl⟩ | cases hu
     obtain ⟨b,rfl⟩:∃ b:Int,v=.int b:=by cases v <;> first | exact ⟨_,rfl⟩ | cases hv
     have hb:=hx a b rfl
     have e3:=uN (a:=a) (b:=b) (aT hb (by decide))
     rw [hu] at e1
     rw [hv] at e2
     show _=Tr.ret (Re.d (.bool (decide (0 < b) && (Nat.gcd a.natAbs b.natAbs == 1))))
     by_cases hp:b < 1
     ·rw [decide_eq_false (show ¬ 0 < b by omega)]
      simp_arith [gF,fk,nR,wK,e1,e2,decide_eq_true hp,xR]
     ·have eg:(((Nat.gcd a.natAbs b.natAbs:Nat):Int) == 1)=(Nat.gcd a.natAbs b.natAbs == 1):=by
       by_cases h1:Nat.gcd a.natAbs b.natAbs=1
       ·rw [h1]; rfl
       ·rw [beq_eq_false_iff_ne.mpr h1]
        exact beq_eq_false_iff_ne.mpr (by omega)
      rw [decide_eq_true (show 0 < b by omega)]
      simp_arith [gF,fk,nR,wK,e1,e2,decide_eq_false hp,e3,eg,yf]
  ·rw [Zkt hl]
   have e:(!((xs.length:Nat):Int) == 2)=true:=by rw [beq_eq_false_iff_ne.mpr (by omega)]; rfl
   simp_arith [gF,fk,wK,e]
 ·have hn:=pK (x:=x) λxs e=>ht ⟨xs,e⟩
  have hd:fi x=false:=by
   cases x with
   | tuple xs=>exact absurd ⟨xs,rfl⟩ ht
   | _=>rfl
  rw [hd]
  simp_arith [gF,hn,xh]
def Bt (x:PyData):Prop:=∀ a b,x=.tuple [.int a,.int b]->nb 7000 b
noncomputable def ji (s:Shp):PyData->Bool
 | .tuple ys=>((ys.length:Int) == s.top+s.depth+1) && ys.all fi
 | _=>false
theorem Zak (s:Shp) (ys:Ai):ji s (.tuple ys)=(((ys.length:Int) == s.top+s.depth+1) && ys.all fi):=rfl
theorem ZnJ {s:Shp} (h:s.Ok) {x:PyData} (hl:∀ ys,x=.tuple ys->ys.length<=200/\∀ y∈ys,Bt y):kI [.d s.d,.d x]=.ret (.d (.bool (ji s x))):=by
 have es:=ic h
 have en:bR c7 [.tuple (aN (-s.depth) (s.top+1))]=.ret (.int (s.top+s.depth+1)):=by
  show Tr.ret (PyData.int ((aN (-s.depth) (s.top+1)).length:Nat))=_
  rw [Zdb h]
 by_cases ht:∃ ys,x=.tuple ys
 ·obtain ⟨ys,rfl⟩:=ht
  obtain ⟨h200,hy⟩:=hl ys rfl
  rw [Zak]
  cases h1:((ys.length:Int) == s.top+s.depth+1)
  ·simp_arith [kI,es,en,fk,h1,wK,xh,xR]
  ·have em:=Zdv (h:=cu (ah 0) tq [.un]) (f:=fi) (xs:=ys) λy hm=>by
    have e:=Zeo (hy y hm)
    simp_arith [tq,e]
   have hs:small ys.length=true:=b7 (by omega)
   simp_arith [kI,es,en,fk,h1,em,hs,Zi2,wK,yf]
 ·have hn:=pK (x:=x) λxs e=>ht ⟨xs,e⟩
  have hd:ji s x=false:=by
   cases x with
   | tuple xs=>exact absurd ⟨xs,rfl⟩ ht
   | _=>rfl
  rw [hd]
  simp_arith [kI,es,hn,xh]
noncomputable def pQ (s:Shp):PyData->Bool
 | .tuple [m,w,l]=>fi m && (ji s w && lB s l)
 | _=>false
theorem ZnX {s:Shp} {xs:Ai} (h:xs.length≠3):pQ s (.tuple xs)=false:=by
 rcases xs with _ | ⟨a,_ | ⟨b,_ | ⟨c,_ | ⟨d,r⟩⟩⟩⟩
 ·rfl
 ·rfl
 ·rfl
 ·exact absurd rfl h
 ·rfl
structure Tm (x:PyData):Prop where
 m:∀ m w l,x=.tuple [m,w,l]->Bt m
 w:∀ m w l,x=.tuple [m,w,l]->∀ ys,w=.tuple ys->ys.length<=200/\∀ y∈ys,Bt y
 l:∀ m w l,x=.tuple [m,w,l]->∀ ys,l=.tuple ys->ys.length<=200
theorem ZnL {s:Shp} (h:s.Ok) {x:PyData} (hx:Tm x):hW [.d s.d,.d x]=.ret (.d (.bool (pQ s x))):=by
 by_cases ht:∃ ys,x=.tuple ys
 ·obtain ⟨xs,rfl⟩:=ht
  by_cases hl:xs.length=3
  ·obtain ⟨m,w,l,rfl⟩:=Zm4 hl
   have e1:=Zeo (hx.m m w l rfl)
   have e2:=ZnJ h (hx.w m w l rfl)
   have e3:=ZnM h (hx.l m w l rfl)
   show _=Tr.ret (Re.d (.bool (fi m && (ji s w && lB s l))))
   cases c1:fi m
   ·rw [c1] at e1
    simp_arith [hW,fk,rD,wK,e1,xR]
   ·rw [c1] at e1
    cases c2:ji s w
    ·rw [c2] at e2
     simp_arith [hW,fk,rD,wK,e1,e2,xR,yf]
    ·rw [c2] at e2
     simp_arith [hW,fk,rD,wK,e1,e2,e3,yf]
  ·rw [ZnX hl]
   have e:(!((xs.length:Nat):Int) == 3)=true:=by rw [beq_eq_false_iff_ne.mpr (by omega)]; rfl
   simp_arith [hW,fk,wK,e]
 ·have hn:=pK (x:=x) λxs e=>ht ⟨xs,e⟩
  have hd:pQ s x=false:=by
   cases x with
   | tuple xs=>exact absurd ⟨xs,rfl⟩ ht
   | _=>rfl
  rw [hd]
  simp_arith [hW,hn,xh]
noncomputable def bE:Int->List (Int×Int)->Int
 | D,[]=>D
 | D,p::ws=>bE (D * p.2.fdiv ((Nat.gcd D.natAbs p.2.natAbs:Nat):Int)) ws
theorem uB {D b:Int} (hD:0 < D) (hb:0 < b):∃ g q r:Int,((Nat.gcd D.natAbs b.natAbs:Nat):Int)=g/\0 < g/\g<=b/\D=g * q/\b=g * r/\0 < r/\b.fdiv g=r:=by
 have g0:0 < Nat.gcd D.natAbs b.natAbs:=zP _ (by omega)
 have d1:((Nat.gcd D.natAbs b.natAbs:Nat):Int) ∣ D:=Int.ofNat_dvd_left.mpr (Nat.gcd_dvd_left _ _)
 have d2:((Nat.gcd D.natAbs b.natAbs:Nat):Int) ∣ b:=Int.ofNat_dvd_left.mpr (Nat.gcd_dvd_right _ _)
 generalize Nat.gcd D.natAbs b.natAbs=g at *
 obtain ⟨q,hq⟩:=d1
 obtain ⟨r,hr⟩:=d2
 have g0':(0:Int) < g:=by omega
 have r0:0 < r:=by
  rw [hr] at hb
  exact Int.pos_of_mul_pos_right hb g0'
 refine ⟨g,q,r,rfl,g0',?_,hq,hr,r0,?_⟩
 ·rw [hr]
  have:=wP (show (1:Int)<=r by omega) (wy g0')
  omega
 ·rw [hr,xB _ (wy g0'),yF _ (xi g0')]
theorem rS {c:Nat}:∀ {ws:List (Int×Int)} {b:Nat} {D:Int},0 < D->nb b D->(∀ p∈ws,0 < p.2/\nb c p.2)->0 < bE D ws/\nb (b+c * ws.length) (bE D ws)
 | [],b,D,h0,h,_=>⟨h0,aT h (by omega)⟩
 | p::ws,b,D,h0,h,hw=>by
  obtain ⟨p0,pn⟩:=hw p (by simp)
  obtain ⟨g,q,r,e1,e2,e3,e4,e5,e6,e7⟩:=uB h0 p0
  have hr:nb c r:=by
   have:r<=p.2:=by
    rw [e5]
    have:=yn (show (1:Int)<=g by omega) (wy e6)
    omega
   unfold nb at *
   omega
  have ih:=rS (ws:=ws) (wV h0 e6) (bJ h hr) λq hq=>hw q (v8 _ hq)
  rw [bE,e1,e7,wl,zn]
  exact ⟨ih.1,aT ih.2 (by omega)⟩
theorem Zbg:∀ {ws:List (Int×Int)} {D:Int},D ∣ bE D ws
 | [],D=>Int.dvd_refl _
 | p::ws,D=>by rw [bE]; exact zg (Int.dvd_mul_right D _) Zbg
theorem rT:∀ {ws:List (Int×Int)} {D:Int} {p:Int×Int},0 < D->(∀ p∈ws,0 < p.2)->p∈ws->p.2 ∣ bE D ws
 | q::ws,D,p,h0,hw,h=>by
  obtain ⟨g,u,r,e1,e2,e3,e4,e5,e6,e7⟩:=uB h0 (hw q (by simp))
  rw [bE,e1,e7]
  rcases wt.mp h with rfl | h
  ·refine zg ?_ Zbg
   rw [e5,e4]
   exact ⟨u,by grind⟩
  ·exact rT (wV h0 e6) (λz hz=>hw z (v8 _ hz)) h
theorem os1 {c:Nat} (W:Sl):∀ (ws:List (Int×Int)) (b:Nat) (D:Int) (J2 J3:Sl),0 < D->nb b D->(∀ p∈ws,0 < p.2/\nb c p.2)->b+c * ws.length<=8000->c<=8000->∃ K2 K3:Sl,bT (bh (aw (ah 2) (aw (ah 3) bf))) pB (ws.map shr) [W,.d (.int D),J2,J3]=.ret (.next [W,.d (.int (bE D ws)),K2,K3])
 | [],b,D,J2,J3,_,_,_,_,_=>⟨J2,J3,rfl⟩
 | p::ws,b,D,J2,J3,h0,h,hw,hl,hc=>by
  obtain ⟨p0,pn⟩:=hw p (by simp)
  obtain ⟨g,q,r,e1,e2,e3,e4,e5,e6,e7⟩:=uB h0 p0
  rw [wl,zn] at hl
  have hr:nb c r:=by
   have:r<=p.2:=by
    rw [e5]
    have:=yn (show (1:Int)<=g by omega) (wy e6)
    omega
   unfold nb at *
   omega
  have hg:nb c g:=by unfold nb at *; omega
  obtain ⟨K2,K3,e⟩:=os1 W ws (b+c) (D * r) (.d (.int p.1)) (.d (.int p.2)) (wV h0 e6) (bJ h hr) (λq hq=>hw q (v8 _ hq)) (by omega) hc
  refine ⟨K2,K3,?_⟩
  have ec:=uN (a:=D) (b:=p.2) (aT pn hc)
  rw [e1] at ec
  have ed:=jF (m:=p.2) (n:=g) (by omega) (aH hg hc)
  rw [e7] at ed
  have f1:=aH h (by omega)
  have f2:=aH hr hc
  have et:pB [W,.d (.int D),.d (.int p.1),.d (.int p.2)]=.ret (.next [W,.d (.int (D * r)),.d (.int p.1),.d (.int p.2)]):=by
   simp_arith [pB,ec,ed,f1,f2]
  have eg:(bh (aw (ah 2) (aw (ah 3) bf))) (shr p) [W,.d (.int D),J2,J3]=some [W,.d (.int D),.d (.int p.1),.d (.int p.2)]:=rfl
  rw [wf,eW,eg,Tr.of_some,Tr.ret_bind,fZ,et,Tr.ret_bind,eD,e,bE,e1,e7]
theorem os2 {D:Int} (hD:0 < D) {b:Nat} (nD:nb b D) (hb:b<=4000) (X Y:Sl):∀ ws:List (Int×Int),(∀ p∈ws,0 < p.2/\nb 400 p.2/\nb 2000 p.1)->bG (cu (bh (aw (ah 0) (aw (ah 1) bf))) oj [X,Y,.d (.int D)]) (ws.map shr)=.ret ((ws.map (ovr D)).map PyData.int)
 | [],_=>rfl
 | p::ws,hw=>by
  obtain ⟨p0,p1,p2⟩:=hw p (by simp)
  have f1:=aH p2 (by decide)
  have f2:=aH (pS hD p0 nD) (by omega)
  have ed:=jF (m:=D) (n:=p.2) (by omega) (aH p1 (by decide))
  have e0:cu (bh (aw (ah 0) (aw (ah 1) bf))) oj [X,Y,.d (.int D)] (shr p)=.ret (.int (ovr D p)):=by
   simp_arith [oj,shr,ed,f1,f2,ovr]
  rw [wf,bG,e0,Tr.ret_bind,os2 hD nD hb X Y ws λq hq=>hw q (v8 _ hq)]
  rfl
theorem Zoa {ws:List (Int×Int)} (hl:ws.length<=9) (hw:∀ p∈ws,0 < p.2/\nb 230 p.2/\nb 1800 p.1):o4 [.d (.tuple (ws.map shr))]=.ret (.d (.tuple [lI (ws.map (ovr (bE 1 ws))),.int (bE 1 ws)])):=by
 obtain ⟨D0,nD⟩:=rS (c:=230) (ws:=ws) (b:=1) (D:=1) (by decide) (by show (1:Int).natAbs < 2 ^ 1; decide) λp hp=>⟨(hw p hp).1,(hw p hp).2.1⟩
 obtain ⟨K2,K3,e1⟩:=os1 (c:=230) (.d (.tuple (ws.map shr))) ws 1 1 .un .un (by decide) (by show (1:Int).natAbs < 2 ^ 1; decide) (λp hp=>⟨(hw p hp).1,(hw p hp).2.1⟩) (by omega) (by decide)
 have e2:=os2 D0 (aT nD (show _<=2200 by omega)) (by decide) .un .un ws λp hp=>⟨(hw p hp).1,aT (hw p hp).2.1 (by decide),aT (hw p hp).2.2 (by decide)⟩
 have hsm:small (ws.map shr).length=true:=b7 (by rw [v7]; omega)
 simp_arith [o4,e1,hsm,e2]
 rfl
end My
set_option Elab.async false
set_option linter.all false
set_option maxRecDepth 100000
set_option exponentiation.threshold 9000
namespace My
open L2 Tw Bar
noncomputable def pw (s:Shp) (ws:List (Int×Int)) (x:Int):Int×Int:=(ws[(x+s.depth).toNat]?).getD (0,1)
theorem Zlm {s:Shp} (h:s.Ok) {ws:List (Int×Int)} (hl:ws.length=s.n):(ak (-s.depth) s.n).map (pw s ws)=ws:=by
 apply xw
 intro i
 by_cases hi:i < s.n
 ·unfold ak
  rw [wu,v9,wm hi]
  show some (pw s ws (-s.depth+(i:Int)))=_
  unfold pw
  have ei:(-s.depth+(i:Int)+s.depth).toNat=i:=by omega
  rw [ei,wp (by omega)]
  rfl
 ·rw [wA (by rw [v7,dU]; omega),wA (by omega)]
theorem iB {s:Shp} (h:s.Ok) {ws:List (Int×Int)} (hl:ws.length=s.n) {x:Int} (x1:-s.depth<=x) (x2:x<=s.top):pw s ws x∈ws:=by
 have hn:=h.n_eq
 unfold pw
 rw [wp (show (x+s.depth).toNat < ws.length by omega)]
 exact xQ _
theorem qt {s:Shp} (h:s.Ok) {ws:List (Int×Int)} (hl:ws.length=s.n) (D:Int) {x:Int} (x1:-s.depth<=x) (x2:x<=s.top):bH s (ws.map (ovr D)) x=ovr D (pw s ws x):=by
 have hn:=h.n_eq
 unfold bH pw
 rw [v9,wp (show (x+s.depth).toNat < ws.length by omega)]
 rfl
theorem ZmZ {t b u c:Int} (hb:0 < b) (hc:0 < c):(Gc.cm t b == Gc.cm u c && Gc.b9 t b == Gc.b9 u c)=true ↔ t * c=u * b:=by
 constructor
 ·intro e
  rw [wD,beq_iff_eq,beq_iff_eq] at e
  have e1:=kP (t:=t) hb
  have e2:=kP (t:=u) hc
  have e1:Gc.cm t b * b=t * Gc.b9 t b:=e1
  have e2:Gc.cm u c * c=u * Gc.b9 u c:=e2
  have p:0 < Gc.b9 t b:=(gH hb).pos
  rw [<- e.1,<- e.2] at e2
  generalize Gc.cm t b=p1 at *
  generalize Gc.b9 t b=q1 at *
  refine xf (xi p) ?_
  have a1:t * c * q1=t * q1 * c:=by grind
  have a2:u * b * q1=u * q1 * b:=by grind
  rw [a1,a2,<- e1,<- e2]
  grind
 ·intro e
  have q:=Zbb hb hc e
  unfold c5 at q
  simp only [xl,xV,zU,and_true] at q
  rw [q.1,q.2]
  simp
structure Num (s:Shp) (m:Int×Int) (ws:List (Int×Int)) (D M:Int) (A:Int->Int):Prop where
 D0:0 < D
 m:m.1 * D=M * m.2
 w:∀ x,-s.depth<=x->x<=s.top->(pw s ws x).1 * D=A x * (pw s ws x).2
theorem ZcY {s:Shp} (h:s.Ok) {one:Aj} {m:Int×Int} {ws:List (Int×Int)} (hl:ws.length=s.n) (m0:0 < m.2) (w0:∀ p∈ws,0 < p.2) {D M D' M':Int} {A A':Int->Int} (u:Num s m ws D M A) (u':Num s m ws D' M' A') {x y:Int} (x1:-s.depth<=x) (x2:x<=s.top) (y2:y<=s.top) (k:ff s one A D M x y):ff s one A' D' M' x y:=by
 refine t5 h u.D0 u'.D0 (xO D D') ?_ (λz z1 z2=>?_) x1 x2 y2 k
 ·refine xf (xi m0) ?_
  have a1:D * M' * m.2=D * (M' * m.2):=by grind
  have a2:D' * M * m.2=D' * (M * m.2):=by grind
  rw [a1,a2,<- u'.m,<- u.m]
  grind
 ·have p0:=w0 _ (iB h hl z1 z2)
  refine xf (xi p0) ?_
  have a1:D * A' z * (pw s ws z).2=D * (A' z * (pw s ws z).2):=by grind
  have a2:D' * A z * (pw s ws z).2=D' * (A z * (pw s ws z).2):=by grind
  rw [a1,a2,<- u'.w z z1 z2,<- u.w z z1 z2]
  grind
theorem Zc0 {s:Shp} (h:s.Ok) {m:Int×Int} {ws:List (Int×Int)} (hl:ws.length=s.n) (m0:0 < m.2) (w0:∀ p∈ws,0 < p.2):Num s m ws (bK m.2 ws) (ovr (bK m.2 ws) m) (pz s m ws):=by
 refine ⟨m7 m0 w0,(km m0 ql).symm,λx x1 x2=>?_⟩
 unfold pz
 rw [qt h hl _ x1 x2]
 have hm:=iB h hl x1 x2
 exact (km (w0 _ hm) (qm hm)).symm
theorem Zmo {s:Shp} (h:s.Ok) {m:Int×Int} {ws:List (Int×Int)} (hl:ws.length=s.n) (m0:0 < m.2) (w0:∀ p∈ws,0 < p.2) (D0:0 < bE 1 ws):Num s m ws (m.2 * bE 1 ws) (m.1 * bE 1 ws) (λx=>m.2 * bH s (ws.map (ovr (bE 1 ws))) x):=by
 refine ⟨wV m0 D0,by grind,λx x1 x2=>?_⟩
 rw [qt h hl _ x1 x2]
 have hm:=iB h hl x1 x2
 have e:=km (w0 _ hm) (rT (D:=1) (by decide) w0 hm)
 have a:m.2 * ovr (bE 1 ws) (pw s ws x) * (pw s ws x).2=m.2 * (ovr (bE 1 ws) (pw s ws x) * (pw s ws x).2):=by grind
 rw [a,e]
 grind
theorem ZdK {s:Shp} (h:s.Ok) {one:Aj} {m:Int×Int} {ws:List (Int×Int)} {ls:Aj} (l1:ws.length=s.n) (l2:ls.length=s.n) (sm:IsSh m) (sw:∀ p∈ws,IsSh p) (hv:lG s ls) {D M:Int} {A:Int->Int} (u:Num s m ws D M A) (k:∀ i (hi:i < ls.length),ff s one A D M ((i:Int) - s.depth) ls[i]):LkP s one m ws ls:=by
 have hn:=h.n_eq
 have w0:∀ p∈ws,0 < p.2:=λp hp=>(sw p hp).pos
 refine ⟨sm,λi hi=>⟨⟨ws[i],wp (by omega),(nV _).mpr (sw _ (xQ _))⟩,ls[i],wp (by omega),hv i (by omega)⟩,λi hi=>?_⟩
 exact ZcY h l1 sm.pos w0 u (Zc0 h l1 sm.pos w0) (by omega) (by omega) (hv i hi).2 (k i hi)
theorem LkP.num {s:Shp} (h:s.Ok) {one:Aj} {m:Int×Int} {ws:List (Int×Int)} {ls:Aj} (l1:ws.length=s.n) (l2:ls.length=s.n) (sw:∀ p∈ws,IsSh p) (hv:lG s ls) (k:LkP s one m ws ls) {D M:Int} {A:Int->Int} (u:Num s m ws D M A) {i:Nat} (hi:i < ls.length):ff s one A D M ((i:Int) - s.depth) ls[i]:=by
 have hn:=h.n_eq
 have w0:∀ p∈ws,0 < p.2:=λp hp=>(sw p hp).pos
 exact ZcY h l1 k.sm.pos w0 (Zc0 h l1 k.sm.pos w0) u (by omega) (by omega) (hv i hi).2 (k.lk i hi)
theorem Zba {α:Type} (a b:α->Int) (l:List α):SeqAt.shaped (.list (l.map λx=>.tuple [.int (a x),.int (b x)]))=true:=by
 have h1:PyData.canLayAll0 (l.map λx=>.tuple [.int (a x),.int (b x)])=true:=by
  induction l with
  | nil=>rfl
  | cons x l ih=>rw [wf,PyData.canLayAll0,ih]; rfl
 have h2:PyData.depthAll (l.map λx=>.tuple [.int (a x),.int (b x)])<=1:=by
  clear h1
  induction l with
  | nil=>exact xz 1
  | cons x l ih =>
   rw [wf,PyData.depthAll]
   have:PyData.depth (.tuple [.int (a x),.int (b x)])=1:=rfl
   rw [this]
   omega
 unfold SeqAt.shaped
 rw [PyData.canLay0,PyData.depth,h1]
 simp
 omega
theorem ZhL {α:Type} (a b c d:α->Int):∀ l:List α,PyData.eqvAll (l.map λx=>.tuple [.int (a x),.int (b x)]) (l.map λx=>.tuple [.int (c x),.int (d x)])=l.all λx=>a x == c x && b x == d x
 | []=>rfl
 | x::l=>by
  have ih:=ZhL a b c d l
  rw [wf,wf,PyData.eqvAll,ih,zf]
  congr 1
  show (a x == c x && (b x == d x && true))=_
  rw [zi]
theorem oY {α:Type} {h:PyData->Tr PyData} {D F:α->PyData}:∀ {l:List α},(∀ x∈l,h (D x)=.ret (F x))->bG h (l.map D)=.ret (l.map F)
 | [],_=>rfl
 | x::l,hx=>by
  rw [wf,bG,hx x (by simp),Tr.ret_bind,oY λy hy=>hx y (v8 _ hy)]
  rfl
theorem Zn9 {p q:Int×Int} (p0:0 < p.2) (q0:0 < q.2) (hp:nb 230 p.2/\nb 1800 p.1) (hq:nb 230 q.2/\nb 1800 q.1):o0 [.d (shr p),.d (shr q)]=.ret (.d (c5 (p.1 * q.2+q.1 * p.2) (p.2 * q.2))):=by
 have f1:=aH hp.1 (by decide)
 have f2:=aH hp.2 (by decide)
 have f3:=aH hq.1 (by decide)
 have f4:=aH hq.2 (by decide)
 have b0:=wV p0 q0
 have es:=mW (t:=p.1 * q.2+q.1 * p.2) (b:=p.2 * q.2) (by omega) (aT (bJ hp.1 hq.1) (by decide))
 simp_arith [o0,shr,f1,f2,f3,f4,es]
theorem uO {s:Shp} {one:Aj} (hd:DayB one) (gr:s.top+s.depth<=great one) (ps:∃ w∈one,w > 0):hX [.d s.d,.d (tI one)]=.ret (.d .none):=by
 have eg:=ZhY ps (by have:=hd.len; omega)
 have ca:decide (great one < s.top+s.depth)=false:=decide_eq_false (by omega)
 simp_arith [hX,eg,ca]
theorem Zoj {s:Shp} (h:s.Ok) (n8:s.n<=9) {one:Aj} (hd:DayB one) (gr:s.top+s.depth<=great one) (ps:∃ w∈one,w > 0) {m:Int×Int} {ws:List (Int×Int)} {ls:Aj} (hm:nb 230 m.2/\nb 1800 m.1) (hw:∀ p∈ws,nb 230 p.2/\nb 1800 p.1) (l1:ws.length=s.n) (l2:ls.length=s.n) (sm:IsSh m) (sw:∀ p∈ws,IsSh p) (hv:lG s ls)
  (ef:hW [.d s.d,.d (dW m ws ls)]=.ret (.d (.bool true))) :
  (LkP s one m ws ls/\gD [.d s.d,.d (tI one),.d (dW m ws ls)]=.ret (.d (.bool true)))\/(¬ LkP s one m ws ls/\gD [.d s.d,.d (tI one),.d (dW m ws ls)]=.ret (.d (.bool false))):=by
 have hn:=h.n_eq
 have t0:=h.t0
 have d0:=h.d0
 have td:=h.td
 have w0:∀ p∈ws,0 < p.2:=λp hp=>(sw p hp).pos
 have e0:=uO hd gr ps
 have e1:=Zoa (ws:=ws) (by omega) λp hp=>⟨w0 p hp,hw p hp⟩
 obtain ⟨D0,nD⟩:=rS (c:=230) (ws:=ws) (b:=1) (D:=1) (by decide) (by show (1:Int).natAbs < 2 ^ 1; decide) λp hp=>⟨w0 p hp,(hw p hp).1⟩
 have nD:nb 2200 (bE 1 ws):=aT nD (by omega)
 have us:=Zmo h l1 sm.pos w0 D0
 have er:ws.map (ovr (bE 1 ws))=s.row (bH s (ws.map (ovr (bE 1 ws)))):=(sL h (by rw [v7,l1])).symm
 have hA:Bd s 4100 (bH s (ws.map (ovr (bE 1 ws)))):=ZiT λv hv=>by
  obtain ⟨p,hp,rfl⟩:=wL.mp hv
  exact aT (bJ (hw p hp).2 (pS D0 (w0 p hp) nD)) (by decide)
 have eA:∀ x,-s.depth<=x->x<=s.top->bH s (ws.map (ovr (bE 1 ws))) x * (pw s ws x).2=(pw s ws x).1 * bE 1 ws:=λx x1 x2=>by
  rw [qt h l1 _ x1 x2]
  have hm:=iB h l1 x1 x2
  exact km (w0 _ hm) (rT (by decide) w0 hm)
 rw [er] at e1
 have hg:s.RlOk (bH s ls):=λx x1 x2=>by
  have hk:(x+s.depth).toNat < ls.length:=by omega
  have:=hv _ hk
  unfold bH
  rw [wp hk]
  show x<=ls[(x+s.depth).toNat]/\ls[(x+s.depth).toNat]<=s.top
  omega
 have e2:=Zop h hd hA (aT nD (by decide)) (by decide) hg (LV:=tI ls) (by rw [sL h l2]; rfl)
 have e3:=Zob h hd (C:=cby s one (bH s (ws.map (ovr (bE 1 ws)))) (bE 1 ws) (bH s ls)) hA (aT nD (by decide)) (by decide)
 have hC:∀ x,cby s one (bH s (ws.map (ovr (bE 1 ws)))) (bE 1 ws) (bH s ls) x=vB s one (bH s (ws.map (ovr (bE 1 ws)))) (bE 1 ws) x (bH s ls x):=λx=>rfl
 have hNL:qT s one (cby s one (bH s (ws.map (ovr (bE 1 ws)))) (bE 1 ws) (bH s ls)) (bH s (ws.map (ovr (bE 1 ws)))) (bE 1 ws) ↔ ∀ x y,-s.depth<=x->x<=y->y<=s.top->vB s one (bH s (ws.map (ovr (bE 1 ws)))) (bE 1 ws) x (bH s ls x)<=vB s one (bH s (ws.map (ovr (bE 1 ws)))) (bE 1 ws) x y:=Iff.rfl
 generalize cby s one (bH s (ws.map (ovr (bE 1 ws)))) (bE 1 ws) (bH s ls)=C at *
 generalize bH s (ws.map (ovr (bE 1 ws)))=A at *
 generalize bE 1 ws=sc at *
 have S0:=hd.pos
 have sn:=dG hd
 have B0:0 < sc * one.sum:=wV D0 S0
 have nB:nb 7000 (sc * one.sum):=aT (bJ nD sn) (by decide)
 have g1:=aH nD (by decide)
 have g2:=aH sn (by decide)
 have m1:=oY (h:=cu (ah 0) tp [.un,.d (.int sc),.d (tI one)]) (D:=λx=>PyData.int (C x)) (F:=λx=>PyData.tuple [.int (Gc.cm (C x) (sc * one.sum)),.int (Gc.b9 (C x) (sc * one.sum))]) (l:=ak (-s.depth) s.n) λx hx=>by
  have es:=mW (t:=C x) (b:=sc * one.sum) (by omega) nB
  have e3:∀ (q:z9) (a:PyData),cu (ah 0) q [.un,.d (.int sc),.d (tI one)] a=q [.d a,.d (.int sc),.d (tI one)]:=λq a=>rfl
  rw [e3]
  simp_arith [tp,gj,g1,g2,es]
  rfl
 have em1:(ak (-s.depth) s.n).map (λx=>PyData.int (C x))=(s.row C).map PyData.int:=by unfold Shp.row; rw [wu]; rfl
 rw [em1] at m1
 have m2:=oY (h:=cu (ah 0) tm [.un,.d (shr m)]) (D:=λx=>shr (pw s ws x)) (F:=λx=>PyData.tuple [.int (Gc.cm (m.1 * (pw s ws x).2+(pw s ws x).1 * m.2) (m.2 * (pw s ws x).2)),.int (Gc.b9 (m.1 * (pw s ws x).2+(pw s ws x).1 * m.2) (m.2 * (pw s ws x).2))]) (l:=ak (-s.depth) s.n) λx hx=>by
  have hx':=fj hx
  have hmem:=iB h l1 (x:=x) (by omega) (by omega)
  have ep:=Zn9 sm.pos (w0 _ hmem) hm (hw _ hmem)
  have e3:∀ (q:z9) (a:PyData),cu (ah 0) q [.un,.d (shr m)] a=q [.d a,.d (shr m)]:=λq a=>rfl
  rw [e3]
  simp_arith [tm,ep]
  rfl
 have em2:(ak (-s.depth) s.n).map (λx=>shr (pw s ws x))=ws.map shr:=by
  have:(ak (-s.depth) s.n).map (λx=>shr (pw s ws x))=((ak (-s.depth) s.n).map (pw s ws)).map shr:=by rw [wu]; rfl
  rw [this,Zlm h l1]
 rw [em2] at m2
 have hne:aR cD (.list ((ak (-s.depth) s.n).map λx=>PyData.tuple [.int (Gc.cm (C x) (sc * one.sum)),.int (Gc.b9 (C x) (sc * one.sum))])) (.list ((ak (-s.depth) s.n).map λx=>PyData.tuple [.int (Gc.cm (m.1 * (pw s ws x).2+(pw s ws x).1 * m.2) (m.2 * (pw s ws x).2)),.int (Gc.b9 (m.1 * (pw s ws x).2+(pw s ws x).1 * m.2) (m.2 * (pw s ws x).2))]))=.ret (.bool (!((ak (-s.depth) s.n).all λx=>Gc.cm (C x) (sc * one.sum) == Gc.cm (m.1 * (pw s ws x).2+(pw s ws x).1 * m.2) (m.2 * (pw s ws x).2) && Gc.b9 (C x) (sc * one.sum) == Gc.b9 (m.1 * (pw s ws x).2+(pw s ws x).1 * m.2) (m.2 * (pw s ws x).2)))):=by
  rw [ZfW (Zba _ _ _) (Zba _ _ _),ZhL]
 have keyx:∀ x,-s.depth<=x->x<=s.top->((Gc.cm (C x) (sc * one.sum) == Gc.cm (m.1 * (pw s ws x).2+(pw s ws x).1 * m.2) (m.2 * (pw s ws x).2) && Gc.b9 (C x) (sc * one.sum) == Gc.b9 (m.1 * (pw s ws x).2+(pw s ws x).1 * m.2) (m.2 * (pw s ws x).2))=true ↔ one.sum * (m.1 * sc+m.2 * A x)=m.2 * C x):=λx x1 x2=>by
  have p0:=w0 _ (iB h l1 x1 x2)
  rw [ZmZ B0 (wV sm.pos p0)]
  have ea:=eA x x1 x2
  generalize (pw s ws x).1=p1 at *
  generalize (pw s ws x).2=p2 at *
  have k1:(m.1 * p2+p1 * m.2) * (sc * one.sum)=p2 * (one.sum * (m.1 * sc+m.2 * A x)):=by
   have:(m.1 * p2+p1 * m.2) * (sc * one.sum)=m.1 * p2 * sc * one.sum+m.2 * (p1 * sc) * one.sum:=by grind
   rw [this,<- ea]
   grind
  have k2:C x * (m.2 * p2)=p2 * (m.2 * C x):=by grind
  rw [k1,k2]
  exact ⟨λz=>(xH (xi p0) z).symm,λz=>by rw [z]⟩
 have vm:∀ x y,y<=s.top->vB s one (λz=>m.2 * A z) (m.2 * sc) x y=m.2 * vB s one A sc x y:=λx y y2=>by
  have:=rq h (one:=one) (A:=λz=>m.2 * A z) (B:=A) (D:=m.2 * sc) (D':=sc) (c:=1) (e:=m.2) (by omega) (λz _ _=>by omega) (x:=x) y2
  rw [<- this,zx]
 have lsx:∀ i (hi:i < ls.length),bH s ls ((i:Int) - s.depth)=ls[i]:=λi hi=>Zqg hi
 have key:LkP s one m ws ls ↔ ((ak (-s.depth) s.n).all λx=>Gc.cm (C x) (sc * one.sum) == Gc.cm (m.1 * (pw s ws x).2+(pw s ws x).1 * m.2) (m.2 * (pw s ws x).2) && Gc.b9 (C x) (sc * one.sum) == Gc.b9 (m.1 * (pw s ws x).2+(pw s ws x).1 * m.2) (m.2 * (pw s ws x).2))=true/\qT s one C A sc:=by
  constructor
  ·intro k
   have kk:∀ x,-s.depth<=x->x<=s.top->ff s one (λz=>m.2 * A z) (m.2 * sc) (m.1 * sc) x (bH s ls x):=λx x1 x2=>by
    have hk:(x+s.depth).toNat < ls.length:=by omega
    have ex:(((x+s.depth).toNat:Nat):Int) - s.depth=x:=by omega
    have:=k.num h l1 l2 sw hv us hk
    rw [<- lsx _ hk,ex] at this
    exact this
   refine ⟨yr.mpr λx hx=>?_,hNL.mpr λx y x1 xy y2=>?_⟩
   ·have hx':=fj hx
    have q:=(kk x (by omega) (by omega)).1
    rw [vm _ _ (hg x (by omega) (by omega)).2,<- hC] at q
    exact (keyx x (by omega) (by omega)).mpr q
   ·have q:=kk x x1 (by omega)
    have q1:=q.1
    have q2:=q.2 y xy y2
    rw [q1,vm _ _ (hg x (by omega) (by omega)).2,vm _ _ y2] at q2
    exact yz q2 sm.pos
  ·rintro ⟨k1,k2⟩
   refine ZdK h l1 l2 sm sw hv us λi hi=>?_
   have hx:-s.depth<=(i:Int) - s.depth:=by omega
   have hx2:(i:Int) - s.depth<=s.top:=by omega
   have q:=(keyx _ hx hx2).mp (yr.mp k1 _ (by unfold ak; exact wL.mpr ⟨i,wQ.mpr (by omega),by omega⟩))
   have hy:=(hv i hi)
   rw [hC,lsx i hi] at q
   refine ⟨by rw [vm _ _ hy.2]; exact q,λz z1 z2=>?_⟩
   show one.sum * (m.1 * sc+m.2 * A ((i:Int) - s.depth))<=_
   rw [q,vm _ _ z2]
   have:=hNL.mp k2 ((i:Int) - s.depth) z hx z1 z2
   rw [lsx i hi] at this
   exact wP this (wy sm.pos)
 have itw:dg (.tuple (ws.map shr))=.ret (ws.map shr):=rfl
 have itc:dg (.list ((s.row C).map PyData.int))=.ret ((s.row C).map PyData.int):=rfl
 have hs1:small ((s.row C).map PyData.int).length=true:=b7 (by rw [v7,gS]; omega)
 have hs2:small (ws.map shr).length=true:=b7 (by rw [v7]; omega)
 have eLC:PyData.list ((s.row C).map PyData.int)=lI (s.row C):=rfl
 by_cases hc:((ak (-s.depth) s.n).all λx=>Gc.cm (C x) (sc * one.sum) == Gc.cm (m.1 * (pw s ws x).2+(pw s ws x).1 * m.2) (m.2 * (pw s ws x).2) && Gc.b9 (C x) (sc * one.sum) == Gc.b9 (m.1 * (pw s ws x).2+(pw s ws x).1 * m.2) (m.2 * (pw s ws x).2))=true
 ·rw [hc] at hne
  rcases e3 with ⟨q,e3⟩ | ⟨q,e3⟩
  ·refine .inl ⟨key.mpr ⟨hc,q⟩,?_⟩
   rw [dW] at ef ⊢
   simp_arith [gD,lb,lc,e0,ef,wK,e1,e2,itw,itc,hs1,hs2,m1,m2,hne]
   simp_arith [eLC,e3]
  ·refine .inr ⟨λz=>q (key.mp z).2,?_⟩
   rw [dW] at ef ⊢
   simp_arith [gD,lb,lc,e0,ef,wK,e1,e2,itw,itc,hs1,hs2,m1,m2,hne]
   simp_arith [eLC,e3]
 ·have hc':=hc
  rw [Bool.not_eq_true] at hc'
  rw [hc'] at hne
  refine .inr ⟨λz=>hc (key.mp z).1,?_⟩
  rw [dW] at ef ⊢
  simp_arith [gD,lb,lc,e0,ef,wK,e1,e2,itw,itc,hs1,hs2,m1,m2,hne,xh]
end My
set_option Elab.async false
set_option linter.all false
set_option maxRecDepth 100000
set_option exponentiation.threshold 9000
namespace My
open L2 Tw Bar
theorem Zdz {top:Int}:∀ (ls:Aj) (lo:Int),(∀ i (h:i < ls.length),lo+i<=ls[i]/\ls[i]<=top)->jx top lo (ls.map PyData.int)=true
 | [],_,_=>rfl
 | y::ls,lo,h=>by
  have h0:=h 0 (by simp)
  rw [wf,jx,Zdz ls (lo+1) λi hi=>?_]
  ·show ((decide (lo<=y) && decide (y<=top)) && true)=true
   have a:lo+((0:Nat):Int)<=y:=h0.1
   rw [decide_eq_true (show lo<=y by omega),decide_eq_true (show y<=top from h0.2)]
   rfl
  ·have:=h (i+1) (by simp; omega)
   have e:(y::ls)[i+1]'(by simp; omega)=ls[i]:=rfl
   rw [e] at this
   omega
theorem ZnW {s:Shp} (h:s.Ok) {m:Int×Int} {ws:List (Int×Int)} {ls:Aj} (l1:ws.length=s.n) (l2:ls.length=s.n) (sm:IsSh m) (sw:∀ p∈ws,IsSh p) (hv:lG s ls):pQ s (dW m ws ls)=true:=by
 have hn:=h.n_eq
 show (fi (shr m) && (ji s (.tuple (ws.map shr)) && lB s (.tuple (ls.map PyData.int))))=true
 rw [Zbd,(nV m).mpr sm,Zak,Zd3,v7,v7,l1,l2,Zdz ls (-s.depth) λi hi=>by have:=hv i hi; omega]
 have e:((s.n:Int) == s.top+s.depth+1)=true:=by rw [hn]; simp
 have e2:(ws.map shr).all fi=true:=yr.mpr λx hx=>by
  obtain ⟨p,hp,rfl⟩:=wL.mp hx
  rw [Zbd]
  exact (nV p).mpr (sw p hp)
 rw [e,e2]
 rfl
theorem ZiC {p:Int×Int} (h:nb 7000 p.2):Bt (shr p):=λa b e=>by
 unfold shr at e
 simp only [xl,xV,zU,and_true] at e
 rw [<- e.2]
 exact h
theorem ZjI {m:Int×Int} {ws:List (Int×Int)} {ls:Aj} (hm:nb 7000 m.2) (hw:∀ p∈ws,nb 7000 p.2) (l1:ws.length<=200) (l2:ls.length<=200):Tm (dW m ws ls):=by
 unfold dW
 refine ⟨λa b c e=>?_,λa b c e ys hy=>?_,λa b c e ys hy=>?_⟩
 ·simp only [xl,xV,and_true] at e
  rw [<- e.1]
  exact ZiC hm
 ·simp only [xl,xV,and_true] at e
  rw [<- e.2.1] at hy
  simp only [xl] at hy
  subst hy
  refine ⟨by rw [v7]; exact l1,λy hy=>?_⟩
  obtain ⟨p,hp,rfl⟩:=wL.mp hy
  exact ZiC (hw p hp)
 ·simp only [xl,xV,and_true] at e
  rw [<- e.2.2] at hy
  unfold tI at hy
  simp only [xl] at hy
  subst hy
  rw [v7]
  exact l2
theorem Zm7 {s:Shp} {one:Aj} (c:Cs s one) {m:Int×Int} {ws:List (Int×Int)} {ls:Aj} (hm:nb 230 m.2/\nb 1800 m.1) (hw:∀ p∈ws,nb 230 p.2/\nb 1800 p.1) (l1:ws.length=s.n) (l2:ls.length=s.n) (sw:∀ p∈ws,IsSh p) (hv:lG s ls) (k:LkP s one m ws ls):gD [.d s.d,.d (tI one),.d (dW m ws ls)]=.ret (.d (.bool true)):=by
 have h:=c.dr.ok
 have n8:=c.n8
 have ef:=ZnL h (ZjI (m:=m) (ws:=ws) (ls:=ls) (aT hm.1 (by decide)) (λp hp=>aT (hw p hp).1 (by decide)) (by omega) (by omega))
 rw [ZnW h l1 l2 k.sm sw hv] at ef
 rcases Zoj h (by omega) c.B c.gr c.ps hm hw l1 l2 k.sm sw hv ef with ⟨_,e⟩ | ⟨q,_⟩
 ·exact e
 ·exact absurd k q
noncomputable def cY (p t:Int×Int):Int×Int:=cT (p.1 * t.2+t.1 * p.2) (p.2 * t.2)
theorem Zmy {p t:Int×Int} (p0:0 < p.2) (t0:0 < t.2):IsSh (cY p t):=gH (wV p0 t0)
theorem Zmz {p t:Int×Int} (p0:0 < p.2) (t0:0 < t.2) (hp:nb 208 p.2/\nb 1702 p.1) (ht:nb 5 t.2/\nb 5 t.1):nb 230 (cY p t).2/\nb 1800 (cY p t).1:=by
 obtain ⟨a,b⟩:=t3 (dO (bJ hp.2 ht.1) (bJ ht.2 hp.1)) (bJ hp.1 ht.1) (by have:=wV p0 t0; omega)
 exact ⟨aT b (by decide),aT a (by decide)⟩
theorem Zmp {s:Shp} (h:s.Ok) {m t:Int×Int} {ws:List (Int×Int)} (hl:ws.length=s.n) (w0:∀ p∈ws,0 < p.2) (t0:0 < t.2) {D M:Int} {A:Int->Int} (u:Num s m ws D M A):Num s m (ws.map (cY · t)) (t.2 * D) (t.2 * M) (λx=>t.2 * A x+t.1 * D):=by
 refine ⟨wV t0 u.D0,?_,λx x1 x2=>?_⟩
 ·have:=u.m
  grind
 ·have hn:=h.n_eq
  have e1:pw s (ws.map (cY · t)) x=cY (pw s ws x) t:=by
   unfold pw
   rw [v9,wp (show (x+s.depth).toNat < ws.length by omega)]
   rfl
  have p0:=w0 _ (iB h hl x1 x2)
  have e2:=u.w x x1 x2
  rw [e1]
  have e3:=kP (t:=(pw s ws x).1 * t.2+t.1 * (pw s ws x).2) (b:=(pw s ws x).2 * t.2) (wV p0 t0)
  show (cY (pw s ws x) t).1 * _=_ * (cY (pw s ws x) t).2
  unfold cY
  generalize cT ((pw s ws x).1 * t.2+t.1 * (pw s ws x).2) ((pw s ws x).2 * t.2)=q at *
  generalize (pw s ws x).1=p1 at *
  generalize (pw s ws x).2=p2 at *
  refine xf (xi p0) ?_
  have a1:q.1 * (t.2 * D) * p2=q.1 * (p2 * t.2) * D:=by grind
  rw [a1,e3]
  have a2:(p1 * t.2+t.1 * p2) * q.2 * D=(p1 * D) * t.2 * q.2+t.1 * p2 * q.2 * D:=by grind
  rw [a2,e2]
  grind
end My
set_option Elab.async false
set_option linter.all false
set_option maxRecDepth 100000
set_option exponentiation.threshold 9000
namespace My
open L2 Tw Bar
noncomputable abbrev cU (s:Shp) (one:Aj) (W:Sl) (D:Int) (J4:Sl) (A:Int->Int) (c6 k c8 c9 c10 c11 c12 c13:Sl):Ap:=[.d s.d,.d (tI one),W,.d (.int D),J4,.d (lI (s.row A)),c6,k,c8,c9,c10,c11,c12,c13]
theorem lo2 {s:Shp} (h:s.Ok) {one:Aj} {y:Int} (y1:-s.depth<=y) (y2:y<=s.top) {A:Int->Int} {b:Nat} (hA:Bd s b A) {D:Int} (hD:nb b D) (hb:b<=5000) (W J4 c6 k c8:Sl) :
  ∀ (l:Aj) (q:Nat) (tot:Int) (J11 J12 J13:Sl),q+l.length<=16->(∀ w∈l,nb 30 w)->∃ K11 K12 K13:Sl,bT (bh (aw (ah 11) (aw (ah 12) bf))) pE (enu q l) (cU s one W D J4 A c6 k c8 (.d (.int y)) (.d (.int tot)) J11 J12 J13)=.ret (.next (cU s one W D J4 A c6 k c8 (.d (.int y)) (.d (.int (tot+ws (λf=>D * s.day y f+A (s.nx y f)) q l))) K11 K12 K13))
 | [],q,tot,J11,J12,J13,_,_=>⟨J11,J12,J13,by rw [enu,pP,ws,yo]⟩
 | w::l,q,tot,J11,J12,J13,hq,hw=>by
  have t0:=h.t0
  have d0:=h.d0
  have td:=h.td
  rw [wl] at hq
  have n1:=gA s y q
  have n2:=gz h y2 (show (0:Int)<=q by omega)
  have hy:nb 20 y:=bP (by show -1048576 < _; omega) (by show _ < 1048576; omega)
  have hf:nb 40 (q:Int):=bP (by show -1099511627776 < _; omega) (by show _ < 1099511627776; omega)
  have e1:=Zoi s y q
  have e2:=Zok h y1 y2 (show (0:Int)<=q by omega) (by omega)
  have e3:=l8 (f:=A) n1 n2
  have f1:=aH hD (by omega)
  have f2:=aH (lg h hy hf) (by decide)
  have f3:=aH (hw w (by simp)) (by decide)
  have f4:=aH (dO (bJ hD (lg h hy hf)) (hA _ n1 n2)) (by omega)
  obtain ⟨K11,K12,K13,e⟩:=lo2 h y1 y2 hA hD hb W J4 c6 k c8 l (q+1) (tot+w * (D * s.day y q+A (s.nx y q))) (.d (.int q)) (.d (.int w)) (.d (.int (A (s.nx y q)))) (by omega) λv hv=>hw v (v8 _ hv)
  refine ⟨K11,K12,K13,?_⟩
  have et:pE (cU s one W D J4 A c6 k c8 (.d (.int y)) (.d (.int tot)) (.d (.int q)) (.d (.int w)) J13)=.ret (.next (cU s one W D J4 A c6 k c8 (.d (.int y)) (.d (.int (tot+w * (D * s.day y q+A (s.nx y q))))) (.d (.int q)) (.d (.int w)) (.d (.int (A (s.nx y q)))))):=by
   simp_arith [pE,cU,lI,e1,e2,e3,f1,f2,f3,f4]
  have eg:(bh (aw (ah 11) (aw (ah 12) bf))) (.tuple [.int (q:Int),.int w]) (cU s one W D J4 A c6 k c8 (.d (.int y)) (.d (.int tot)) J11 J12 J13)=some (cU s one W D J4 A c6 k c8 (.d (.int y)) (.d (.int tot)) (.d (.int q)) (.d (.int w)) J13):=rfl
  rw [enu,eW,eg,Tr.of_some,Tr.ret_bind,fZ,et,Tr.ret_bind,eD,e,ws,Int.add_assoc]
theorem sU (y:Int) (m:Nat):ak y (m+1)=y::ak (y+1) m:=by
 have:=mf y 1 m
 rw [yx 1 m] at this
 rw [this]
 show [y+((0:Nat):Int)]++_=_
 have e0:y+((0:Nat):Int)=y:=by omega
 rw [e0]
 rfl
theorem lo3 {s:Shp} (h:s.Ok) {one:Aj} (hd:DayB one) {A:Int->Int} {b:Nat} (hA:Bd s b A) {D:Int} (hD:nb b D) (hb:b<=5000) (W J4 c6:Sl) {i:Nat} (hi:i < s.n) :
  ∀ (m:Nat) (y:Int) (cs:Aj) (J9 J10 J11 J12 J13:Sl),(i:Int) - s.depth<=y->y+m=s.top+1->cs.length+m<=200->∃ K9 K10 K11 K12 K13:Sl,bT (ah 9) pD ((ak y m).map PyData.int) (cU s one W D J4 A c6 (.d (.int i)) (.own (cs.map PyData.int)) J9 J10 J11 J12 J13)=.ret (.next (cU s one W D J4 A c6 (.d (.int i)) (.own ((cs++(ak y m).map λz=>vB s one A D ((i:Int) - s.depth) z).map PyData.int)) K9 K10 K11 K12 K13))
 | 0,y,cs,J9,J10,J11,J12,J13,_,_,_=>⟨J9,J10,J11,J12,J13,by
  show bT _ _ [] _=_
  rw [pP]
  show _=Tr.ret (Ou.next (cU s one W D J4 A c6 (.d (.int i)) (.own ((cs++[]).map PyData.int)) J9 J10 J11 J12 J13))
  rw [wZ]⟩
 | m+1,y,cs,J9,J10,J11,J12,J13,y1,ym,hc=>by
  have t0:=h.t0
  have d0:=h.d0
  have td:=h.td
  have hn:=h.n_eq
  have hy:nb 20 y:=bP (by show -1048576 < _; omega) (by show _ < 1048576; omega)
  have hx:nb 20 ((i:Int) - s.depth):=bP (by show -1048576 < _; omega) (by show _ < 1048576; omega)
  have eo:=Zoh h (x:=(i:Int) - s.depth) (y:=y) (by omega) y1 (by omega)
  have on:nb 70 (s.ord ((i:Int) - s.depth) y):=by
   unfold Shp.ord
   refine mt (show (0:Int).natAbs < 2 ^ 70 by decide) (aT (dO h.start (bJ h.piece (fJ hy hx))) (by decide))
  have sn:=dG hd
  have f1:=aH hD (by omega)
  have f2:=aH sn (by decide)
  have f3:=aH (bJ sn hD) (by omega)
  have f4:=aH on (by decide)
  have hlen:=hd.len
  obtain ⟨K11,K12,K13,e2⟩:=lo2 h (one:=one) (y:=y) (by omega) (by omega) hA hD hb W J4 c6 (.d (.int i)) (.own (cs.map PyData.int)) one 0 (one.sum * D * s.ord ((i:Int) - s.depth) y) J11 J12 J13 (by omega) hd.nb
  have hsm:small ((cs.map PyData.int).length+1)=true:=b7 (by rw [v7]; omega)
  have ev:one.sum * D * s.ord ((i:Int) - s.depth) y+ws (λf=>D * s.day y f+A (s.nx y f)) 0 one=vB s one A D ((i:Int) - s.depth) y:=by
   unfold vB Shp.wg
   rw [xO one.sum D]
  rw [ev] at e2
  have et:pD (cU s one W D J4 A c6 (.d (.int i)) (.own (cs.map PyData.int)) (.d (.int y)) J10 J11 J12 J13)=.ret (.next (cU s one W D J4 A c6 (.d (.int i)) (.own ((cs++[vB s one A D ((i:Int) - s.depth) y]).map PyData.int)) (.d (.int y)) (.d (.int (vB s one A D ((i:Int) - s.depth) y))) K11 K12 K13)):=by
   simp only [cU] at e2 ⊢
   simp_arith [pD,eo,f1,f2,f3,f4,gj,pJ,uJ,e2,hsm]
   rw [wT]
   rfl
  obtain ⟨k9,k10,k11,k12,k13,e⟩:=lo3 h hd hA hD hb W J4 c6 hi m (y+1) (cs++[vB s one A D ((i:Int) - s.depth) y]) (.d (.int y)) (.d (.int (vB s one A D ((i:Int) - s.depth) y))) K11 K12 K13 (by omega) (by omega) (by
   rw [wx,yY]
   omega)
  refine ⟨k9,k10,k11,k12,k13,?_⟩
  have eg:ah 9 (.int y) (cU s one W D J4 A c6 (.d (.int i)) (.own (cs.map PyData.int)) J9 J10 J11 J12 J13)=some (cU s one W D J4 A c6 (.d (.int i)) (.own (cs.map PyData.int)) (.d (.int y)) J10 J11 J12 J13):=rfl
  rw [sU,wf,eW,eg,Tr.of_some,Tr.ret_bind,fZ,et,Tr.ret_bind,eD,e,xx]
  rfl
noncomputable def cE (s:Shp) (one:Aj) (A:Int->Int) (D:Int) (i:Nat):PyData:=lI ((ak ((i:Int) - s.depth) (s.n - i)).map λz=>vB s one A D ((i:Int) - s.depth) z)
theorem lo4 {s:Shp} (h:s.Ok) {one:Aj} (hd:DayB one) {A:Int->Int} {b:Nat} (hA:Bd s b A) {D:Int} (hD:nb b D) (hb:b<=5000) (W J4:Sl):∀ (m i:Nat) (J7 J8 J9 J10 J11 J12 J13:Sl),i+m=s.n->∃ K7 K8 K9 K10 K11 K12 K13:Sl,bT (ah 7) pC ((ak (i:Int) m).map PyData.int) (cU s one W D J4 A (.own ((List.range i).map (cE s one A D))) J7 J8 J9 J10 J11 J12 J13)=.ret (.next (cU s one W D J4 A (.own ((List.range s.n).map (cE s one A D))) K7 K8 K9 K10 K11 K12 K13))
 | 0,i,J7,J8,J9,J10,J11,J12,J13,hi=>⟨J7,J8,J9,J10,J11,J12,J13,by
  have:i=s.n:=by omega
  subst this
  rfl⟩
 | m+1,i,J7,J8,J9,J10,J11,J12,J13,hi=>by
  have t0:=h.t0
  have d0:=h.d0
  have td:=h.td
  have hn:=h.n_eq
  obtain ⟨a9,a10,a11,a12,a13,e3⟩:=lo3 h hd hA hD hb W J4 (.own ((List.range i).map (cE s one A D))) (i:=i) (by omega) (s.n - i) ((i:Int) - s.depth) [] J9 J10 J11 J12 J13 (wG _) (by omega) (by rw [xo]; omega)
  rw [xK] at e3
  have r1:gT [.int ((i:Int) - s.depth),.int (s.top+1)]=.ret ((ak ((i:Int) - s.depth) (s.n - i)).map PyData.int):=by
   rw [mT (dB (by omega) (by omega)) (dB (by omega) (by omega))]
   unfold aN
   rw [show (s.top+1 - ((i:Int) - s.depth)).toNat=s.n - i by omega]
  have hsm:small (((List.range i).map (cE s one A D)).length+1)=true:=b7 (by rw [v7,wI]; omega)
  have el:PyData.list (((ak ((i:Int) - s.depth) (s.n - i)).map λz=>vB s one A D ((i:Int) - s.depth) z).map PyData.int)=cE s one A D i:=rfl
  have et:pC (cU s one W D J4 A (.own ((List.range i).map (cE s one A D))) (.d (.int i)) J8 J9 J10 J11 J12 J13)=.ret (.next (cU s one W D J4 A (.own ((List.range (i+1)).map (cE s one A D))) (.d (.int i)) (.d (cE s one A D i)) a9 a10 a11 a12 a13)):=by
   simp only [cU,xv] at e3 ⊢
   simp_arith [pC,r1,e3,hsm,el]
   rw [xS,wT]
   rfl
  obtain ⟨K7,K8,K9,K10,K11,K12,K13,e⟩:=lo4 h hd hA hD hb W J4 m (i+1) (.d (.int i)) (.d (cE s one A D i)) a9 a10 a11 a12 a13 (by omega)
  refine ⟨K7,K8,K9,K10,K11,K12,K13,?_⟩
  have eg:ah 7 (.int (i:Int)) (cU s one W D J4 A (.own ((List.range i).map (cE s one A D))) J7 J8 J9 J10 J11 J12 J13)=some (cU s one W D J4 A (.own ((List.range i).map (cE s one A D))) (.d (.int i)) J8 J9 J10 J11 J12 J13):=rfl
  have ei:(i:Int)+1=((i+1:Nat):Int):=rfl
  rw [sU,wf,eW,eg,Tr.of_some,Tr.ret_bind,fZ,et,Tr.ret_bind,eD,ei,e]
theorem kQ {c:Nat} (hc:c<=400) (X0 X1 X2:Sl) (R:Ap):∀ (ws:List (Int×Int)) (b:Nat) (D:Int) (J4:Sl),nb b D->(∀ p∈ws,nb c p.2)->b+c * ws.length<=8000->∃ K4:Sl,bT (ah 4) pF (ws.map shr) (X0::X1::X2::.d (.int D)::J4::R)=.ret (.next (X0::X1::X2::.d (.int (bK D ws))::K4::R))
 | [],b,D,J4,_,_,_=>⟨J4,rfl⟩
 | p::ws,b,D,J4,h,hw,hl=>by
  rw [wl,zn] at hl
  obtain ⟨K4,e⟩:=kQ hc X0 X1 X2 R ws (b+c) (D * p.2) (.d (shr p)) (bJ h (hw p (by simp))) (λq hq=>hw q (v8 _ hq)) (by omega)
  refine ⟨K4,?_⟩
  have f1:=aH h (by omega)
  have f2:=aH (hw p (by simp)) (by omega)
  have et:pF (X0::X1::X2::.d (.int D)::.d (shr p)::R)=.ret (.next (X0::X1::X2::.d (.int (D * p.2))::.d (shr p)::R)):=by
   simp_arith [pF,shr,f1,f2]
  have eg:ah 4 (shr p) (X0::X1::X2::.d (.int D)::J4::R)=some (X0::X1::X2::.d (.int D)::.d (shr p)::R):=rfl
  rw [wf,eW,eg,Tr.of_some,Tr.ret_bind,fZ,et,Tr.ret_bind,eD,e,bK]
theorem loq {D:Int} (hD:0 < D) {b:Nat} (nD:nb b D) (hb:b<=4000) (X:Sl):∀ ws:List (Int×Int),(∀ p∈ws,0 < p.2/\nb 400 p.2/\nb 2000 p.1)->bG (cu (ah 0) ou [X,.d (.int D)]) (ws.map shr)=.ret ((ws.map (ovr D)).map PyData.int)
 | [],_=>rfl
 | p::ws,hw=>by
  obtain ⟨p0,p1,p2⟩:=hw p (by simp)
  have f1:=aH p2 (by decide)
  have f2:=aH (pS hD p0 nD) (by omega)
  have ed:=jF (m:=D) (n:=p.2) (by omega) (aH p1 (by decide))
  have e0:cu (ah 0) ou [X,.d (.int D)] (shr p)=.ret (.int (ovr D p)):=by
   simp_arith [ou,shr,ed,f1,f2,ovr]
  rw [wf,bG,e0,Tr.ret_bind,loq hD nD hb X ws λq hq=>hw q (v8 _ hq)]
  rfl
theorem ZhX {s:Shp} (h:s.Ok) (n8:s.n<=9) {one:Aj} (hd:DayB one) {ws:List (Int×Int)} (hw:∀ p∈ws,0 < p.2/\nb 230 p.2/\nb 1800 p.1) (l1:ws.length=s.n):jw [.d s.d,.d (tI one),.d (.tuple (ws.map shr))]=.ret (.own ((List.range s.n).map (cE s one (bH s (ws.map (ovr (bK 1 ws)))) (bK 1 ws)))):=by
 have hn:=h.n_eq
 have t0:=h.t0
 have d0:=h.d0
 have n1:nb 1 (1:Int):=by show (1:Int).natAbs < 2 ^ 1; decide
 have D0:=m7 (D:=1) (ws:=ws) (by decide) λp hp=>(hw p hp).1
 have nD:nb 2200 (bK 1 ws):=aT (ZiG (c:=230) n1 λp hp=>(hw p hp).2.1) (by rw [l1]; omega)
 obtain ⟨K4,e1⟩:=kQ (c:=230) (by decide) (.d s.d) (.d (tI one)) (.d (.tuple (ws.map shr))) [.un,.un,.un,.un,.un,.un,.un,.un,.un] ws 1 1 .un n1 (λp hp=>(hw p hp).2.1) (by rw [l1]; omega)
 have e2:=loq D0 nD (by decide) .un ws λp hp=>⟨(hw p hp).1,aT (hw p hp).2.1 (by decide),aT (hw p hp).2.2 (by decide)⟩
 have hsm:small (ws.map shr).length=true:=b7 (by rw [v7]; omega)
 have er:ws.map (ovr (bK 1 ws))=s.row (bH s (ws.map (ovr (bK 1 ws)))):=(sL h (by rw [v7,l1])).symm
 have hA:Bd s 4100 (bH s (ws.map (ovr (bK 1 ws)))):=ZiT λv hv=>by
  obtain ⟨p,hp,rfl⟩:=wL.mp hv
  exact aT (bJ (hw p hp).2.2 (pS D0 (hw p hp).1 nD)) (by decide)
 have eln:(((ws.map shr).length:Nat):Int)=(s.n:Int):=by rw [v7,l1]
 have r1:fE [.int (s.n:Int)]=.ret (aN 0 s.n):=ia (dB (by omega) (by omega))
 rw [er] at e2
 generalize bH s (ws.map (ovr (bK 1 ws)))=A at *
 obtain ⟨K7,K8,K9,K10,K11,K12,K13,e3⟩:=lo4 h hd hA (aT nD (by decide)) (by decide) (.d (.tuple (ws.map shr))) K4 s.n 0 .un .un .un .un .un .un .un (by omega)
 have e4:aN 0 (s.n:Int)=(ak ((0:Nat):Int) s.n).map PyData.int:=by
  unfold aN
  rw [show ((s.n:Int) - 0).toNat=s.n by omega]
  rfl
 have e5:(List.range 0).map (cE s one A (bK 1 ws))=[]:=rfl
 rw [<- e4,e5] at e3
 simp only [cU,lI] at e3
 simp_arith only [jw,e1,hsm,e2,eln,r1,e3]
end My
set_option Elab.async false
set_option linter.all false
set_option maxRecDepth 100000
set_option exponentiation.threshold 9000
namespace My
open L2 Tw Bar
theorem kD {g:Int->Int} {top K least:Int} (l1:least<=top) :
  ((∀ x,least<=x->x<=top->lvl g top K x=x)/\bX g top K least=mks least least) \/
  ∃ l:Int,0<=l/\l < top - least/\¬ lvl g top K (least+l)=least+l/\(∀ x,least+l < x->x<=top->lvl g top K x=x) /\
   ((∃ k:Int,0<=k/\k < l/\cw g top K (lvl g top K (least+l)) (least+k)=false/\(∀ j:Int,k < j->j < l->cw g top K (lvl g top K (least+l)) (least+j)=true)/\bX g top K least=mkn (least+k) (least+l)) \/
    ((∀ k:Int,0<=k->k < l->cw g top K (lvl g top K (least+l)) (least+k)=true)/\bX g top K least=mks (least+l+1) (lvl g top K (least+l)))):=by
 have own:∀ k,dw g top K least k=true ↔ lvl g top K (least+k)=least+k:=λk=>by unfold dw; exact decide_eq_true_iff
 rcases revf (p:=λk=>!dw g top K least k) (top - least).toNat with ⟨h1,h2⟩ | ⟨l,n0,n1,h1,h2,h3⟩
 ·refine .inl ⟨λx x1 x2=>?_,?_⟩
  ·by_cases e:x=top
   ·rw [e]; exact Zdx g top K
   ·have:=h1 (x - least) (by omega) (by omega)
    have hx:=(own (x - least)).mp (by simpa using this)
    have e2:least+(x - least)=x:=by omega
    rw [e2] at hx
    exact hx
  ·unfold bX
   rw [h2]
 ·have hno:¬ lvl g top K (least+l)=least+l:=λe=>by
   have:=(own l).mpr e
   rw [this] at h1
   cases h1
  have hown:∀ x,least+l < x->x<=top->lvl g top K x=x:=λx x1 x2=>by
   by_cases e:x=top
   ·rw [e]; exact Zdx g top K
   ·have:=h2 (x - least) (by omega) (by omega)
    have hx:=(own (x - least)).mp (by simpa using this)
    have e2:least+(x - least)=x:=by omega
    rw [e2] at hx
    exact hx
  refine .inr ⟨l,n0,by omega,hno,hown,?_⟩
  rcases revf (p:=λk=>!cw g top K (lvl g top K (least+l)) (least+k)) l.toNat with ⟨k1,k2⟩ | ⟨k,m0,m1,k1,k2,k3⟩
  ·refine .inr ⟨λk a b=>by simpa using k1 k a (by omega),?_⟩
   unfold bX
   rw [h3]
   dsimp only
   rw [k2]
  ·refine .inl ⟨k,m0,by omega,by simpa using k1,λj a b=>by simpa using k2 j a (by omega),?_⟩
   unfold bX
   rw [h3]
   dsimp only
   rw [k3]
theorem tX {g:Int->Int} {top K least L G:Int} (l1:least<=top) (e:bX g top K least=mks L G) {x:Int} (x1:least<=x) (x2:x<=top):x<=dA (L,G) x/\dA (L,G) x<=top/\cp g K x (dA (L,G) x)=(pck g top K x).1:=by
 have inj:∀ {a b c d:Int},mks a b=mks c d->a=c/\b=d:=λh=>by
  unfold mks at h
  simp only [xl,xV,zU,and_true,true_and] at h
  exact h
 have own:∀ x,x<=top->lvl g top K x=x->cp g K x x=(pck g top K x).1:=λx hx hl=>by
  unfold cp
  rw [if_neg (by omega)]
  exact (tL hx).mp hl
 rcases kD (g:=g) (K:=K) l1 with ⟨h1,h2⟩ | ⟨l,n0,n1,hno,hown,⟨k,_,_,_,_,h2⟩ | ⟨h1,h2⟩⟩
 ·rw [e] at h2
  obtain ⟨hL,hG⟩:=inj h2
  rw [hL,hG]
  have hl:dA (least,least) x=x:=by
   unfold dA
   rw [if_neg (by show ¬ x < least; omega)]
  rw [hl]
  exact ⟨wG _,x2,own x x2 (h1 x x1 x2)⟩
 ·rw [e] at h2
  unfold mks mkn at h2
  simp only [xl,xV,PyData.str.injEq,and_true] at h2
  exact absurd h2.1 (by decide)
 ·rw [e] at h2
  obtain ⟨rfl,rfl⟩:=inj h2
  obtain ⟨p1,p2,p3⟩:=eS (g:=g) (top:=top) (K:=K) (x:=least+l) (by omega)
  have hG:least+l < lvl g top K (least+l):=by
   unfold lvl at hno ⊢
   omega
  have hG2:lvl g top K (least+l)<=top:=p2
  by_cases c:x < least+l+1
  ·have hl:dA (least+l+1,lvl g top K (least+l)) x=lvl g top K (least+l):=by
    unfold dA
    rw [if_pos c,if_pos (by show lvl g top K (least+l) > x; omega)]
   rw [hl]
   refine ⟨by omega,hG2,?_⟩
   unfold cp
   rw [if_pos (by omega)]
   by_cases c2:x=least+l
   ·subst c2
    rcases p3 with ⟨q,_⟩ | ⟨_,q,_⟩
    ·exact absurd q hno
    ·exact q.symm
   ·have:=h1 (x - least) (by omega) (by omega)
    have ex:least+(x - least)=x:=by omega
    rw [ex] at this
    unfold cw at this
    exact of_decide_eq_true this
  ·have hl:dA (least+l+1,lvl g top K (least+l)) x=x:=by
    unfold dA
    rw [if_neg c]
   rw [hl]
   exact ⟨wG _,x2,own x x2 (hown x (by omega) x2)⟩
theorem ZiD {g:Int->Int} {top d:Int}:∀ n:Nat,bst (λy=>g y+d) top n=((bst g top n).1+d,(bst g top n).2)
 | 0=>rfl
 | n+1=>by
  unfold bst
  rw [ZiD n]
  dsimp only
  by_cases h:(bst g top n).1 < g (top - ((n+1:Nat):Int))
  ·rw [if_pos h,if_pos (by omega)]
  ·rw [if_neg h,if_neg (by omega)]
theorem ZlW {g:Int->Int} {top K d x:Int} (hx:x<=top):pck (λy=>g y+d) top K x=((pck g top K x).1+d,(pck g top K x).2):=by
 by_cases ht:x=top
 ·subst ht
  rw [fW,fW]
 ·obtain ⟨n,hn⟩:∃ n:Nat,x=top - ((n+1:Nat):Int):=⟨(top - x - 1).toNat,by omega⟩
  subst hn
  rw [gv,gv,ZiD]
  dsimp only
  by_cases h:K+(bst g top n).1 < g (top - ((n+1:Nat):Int))
  ·rw [if_pos h,if_pos (by omega)]
   congr 1
   omega
  ·rw [if_neg h,if_neg (by omega)]
theorem ZlX {g g':Int->Int} {top K K' c e d x:Int} (c0:0 < c) (e0:0 < e) (hx:x<=top) (hg:∀ y,x<=y->y<=top->c * g y=e * g' y+d) (hK:c * K=e * K'):c * (pck g top K x).1=e * (pck g' top K' x).1+d/\(pck g top K x).2=(pck g' top K' x).2:=by
 have a1:=oF (g:=g) (K:=K) c0 hx
 have a2:=ZcL (g:=λy=>c * g y) (g':=λy=>e * g' y+d) (top:=top) (K:=c * K) (x:=x) hg hx
 have a3:=ZlW (g:=λy=>e * g' y) (top:=top) (K:=e * K') (d:=d) hx
 have a4:=oF (g:=g') (K:=K') e0 hx
 rw [hK] at a1 a2
 rw [a1,a3,a4] at a2
 exact Prod.mk.inj a2
theorem ZmF {g g':Int->Int} {top K K' c e d least:Int} (c0:0 < c) (e0:0 < e) (l1:least<=top) (hg:∀ y,least<=y->y<=top->c * g y=e * g' y+d) (hK:c * K=e * K'):bX g top K least=bX g' top K' least:=by
 have hp:∀ x,least<=x->x<=top->c * (pck g top K x).1=e * (pck g' top K' x).1+d/\(pck g top K x).2=(pck g' top K' x).2:=λx x1 x2=>ZlX c0 e0 x2 (λy y1 y2=>hg y (by omega) y2) hK
 have hl:∀ x,least<=x->x<=top->lvl g top K x=lvl g' top K' x:=λx x1 x2=>(hp x x1 x2).2
 have hc:∀ G x,least<=x->x<=top->least<=G->G<=top->cw g top K G x=cw g' top K' G x:=λG x x1 x2 g1 g2=>by
  have a:=(hp x x1 x2).1
  have b:=hg G g1 g2
  unfold cw
  have key:K+g G=(pck g top K x).1 ↔ K'+g' G=(pck g' top K' x).1:=by
   constructor
   ·intro z
    refine xH (xi e0) ?_
    have:c * (K+g G)=c * (pck g top K x).1:=by rw [z]
    rw [xc,hK,b,a] at this
    rw [xc]
    omega
   ·intro z
    refine xH (xi c0) ?_
    have:e * (K'+g' G)=e * (pck g' top K' x).1:=by rw [z]
    rw [xc] at this
    rw [xc,hK,b,a]
    omega
  by_cases z:K+g G=(pck g top K x).1
  ·rw [decide_eq_true z,decide_eq_true (key.mp z)]
  ·rw [decide_eq_false z,decide_eq_false (λq=>z (key.mpr q))]
 rcases kD (g:=g) (K:=K) l1 with ⟨h1,h2⟩ | ⟨l,n0,n1,hno,hown,hh⟩
 ·rcases kD (g:=g') (K:=K') l1 with ⟨h1',h2'⟩ | ⟨l',n0',n1',hno',hown',_⟩
  ·rw [h2,h2']
  ·exact absurd (by rw [<- hl _ (by omega) (by omega)]; exact h1 _ (by omega) (by omega)) hno'
 ·rcases kD (g:=g') (K:=K') l1 with ⟨h1',h2'⟩ | ⟨l',n0',n1',hno',hown',hh'⟩
  ·exact absurd (by rw [hl _ (by omega) (by omega)]; exact h1' _ (by omega) (by omega)) hno
  ·have el:l=l':=by
    by_cases q1:l < l'
    ·exact absurd (by rw [<- hl _ (by omega) (by omega)]; exact hown (least+l') (by omega) (by omega)) hno'
    ·by_cases q2:l' < l
     ·exact absurd (by rw [hl _ (by omega) (by omega)]; exact hown' (least+l) (by omega) (by omega)) hno
     ·omega
   subst el
   have hG:=hl (least+l) (by omega) (by omega)
   have hGt:lvl g top K (least+l)<=top:=(eS (g:=g) (top:=top) (K:=K) (x:=least+l) (by omega)).2.1
   have hGl:least+l<=lvl g top K (least+l):=(eS (g:=g) (top:=top) (K:=K) (x:=least+l) (by omega)).1
   have hc':∀ k,0<=k->k < l->cw g top K (lvl g top K (least+l)) (least+k)=cw g' top K' (lvl g' top K' (least+l)) (least+k):=λk a b=>by
    rw [<- hG]
    exact hc _ _ (by omega) (by omega) (by omega) hGt
   rcases hh with ⟨k,m0,m1,k1,k2,h2⟩ | ⟨k1,h2⟩
   ·rcases hh' with ⟨k',m0',m1',k1',k2',h2'⟩ | ⟨k1',h2'⟩
    ·have ek:k=k':=by
      by_cases q1:k < k'
      ·have:=k2 k' q1 m1'
       rw [hc' k' m0' m1',k1'] at this
       cases this
      ·by_cases q2:k' < k
       ·have:=k2' k q2 m1
        rw [<- hc' k m0 m1,k1] at this
        cases this
       ·omega
     rw [h2,h2',ek]
    ·have:=k1' k m0 m1
     rw [<- hc' k m0 m1,k1] at this
     cases this
   ·rcases hh' with ⟨k',m0',m1',k1',k2',h2'⟩ | ⟨k1',h2'⟩
    ·have:=k1 k' m0' m1'
     rw [hc' k' m0' m1',k1'] at this
     cases this
    ·rw [h2,h2',hG]
end My
set_option Elab.async false
set_option linter.all false
set_option maxRecDepth 100000
set_option exponentiation.threshold 9000
namespace My
open L2 Tw Bar
theorem Zds {p:Int->Bool} {n:Nat} {l:Int} (l0:0<=l) (l1:l < n) (hp:p l=true) (hq:∀ k:Int,l < k->k < n->p k=false):(ak 0 n).filter p≠[]/\eu ((ak 0 n).filter p)=l:=by
 have hm:l∈(ak 0 n).filter p:=yX.mpr ⟨by
  unfold ak
  exact wL.mpr ⟨l.toNat,wQ.mpr (by omega),by omega⟩,hp⟩
 have hne:=List.ne_nil_of_mem hm
 refine ⟨hne,?_⟩
 obtain ⟨m1,m2⟩:=my hne
 have a:=m2 l hm
 obtain ⟨b1,b2⟩:=yX.mp m1
 have b3:=fj b1
 by_cases c:l < eu ((ak 0 n).filter p)
 ·rw [hq _ c (by omega)] at b2
  cases b2
 ·omega
theorem tS {p:Int->Bool} {n:Nat} (hq:∀ k:Int,0<=k->k < n->p k=false):(ak 0 n).filter p=[]:=by
 rw [List.filter_eq_nil_iff]
 intro k hk
 have:=fj hk
 rw [hq k this.1 (by omega)]
 decide
theorem ZnF {p:Int->Bool} {n:Nat} {a:Int} (a0:0<=a) (a1:a < n) (hp:p a=true) (hq:∀ k:Int,0<=k->k < a->p k=false):∃ r,(ak 0 n).filter p=a::r:=by
 have e:ak 0 n=ak 0 a.toNat++ak a (n - a.toNat):=by
  have:=mf 0 a.toNat (n - a.toNat)
  rw [show a.toNat+(n - a.toNat)=n by omega,show (0:Int)+(a.toNat:Int)=a by omega] at this
  exact this
 rw [e,List.filter_append,tS (p:=p) (n:=a.toNat) λk k0 k1=>hq k k0 (by omega),xK]
 obtain ⟨m,hm⟩:∃ m,n - a.toNat=m+1:=⟨n - a.toNat - 1,by omega⟩
 rw [hm,sU,zV hp]
 exact ⟨_,rfl⟩
section
variable {s:Shp} {one:Aj} {A:Int->Int} {D:Int}
noncomputable abbrev gV (s:Shp) (one:Aj) (A:Int->Int) (D:Int):Int->Int:=s.sm one A D
noncomputable abbrev kV (s:Shp) (one:Aj) (D:Int):Int:=D * one.sum * s.start
theorem ZmJ (h:s.Ok) {x:Int} {m:Nat} (m0:0 < m) (hm:x+m=s.top+1):eh ((ak x m).map λz=>vB s one A D x z)=(pck (gV s one A D) s.top (kV s one D) x).1 - D * one.sum * s.piece * x:=by
 have hne:((ak x m).map λz=>vB s one A D x z)≠[]:=by
  intro z
  have:=congrArg List.length z
  rw [v7,dU,xo] at this
  omega
 obtain ⟨m1,m2⟩:=oW hne
 obtain ⟨z,hz,ez⟩:=wL.mp m1
 have hz':=fj hz
 obtain ⟨p1,p2⟩:=oG (g:=gV s one A D) (top:=s.top) (K:=kV s one D) (x:=x) (by omega)
 obtain ⟨q1,q2,q3⟩:=eS (g:=gV s one A D) (top:=s.top) (K:=kV s one D) (x:=x) (by omega)
 refine zE ?_ ?_
 ·have:=m2 (vB s one A D x (pck (gV s one A D) s.top (kV s one D) x).2) (wL.mpr ⟨_,by
   unfold ak
   exact wL.mpr ⟨((pck (gV s one A D) s.top (kV s one D) x).2 - x).toNat,wQ.mpr (by omega),by omega⟩,rfl⟩)
  rw [fR q1] at this
  refine zo this (xW ?_)
  congr 1
  unfold cp
  rcases q3 with ⟨a,b⟩ | ⟨a,b,_⟩
  ·rw [if_neg (by omega),b,a]
  ·rw [if_pos a,b]
 ·rw [<- ez,fR (by omega)]
  have:(pck (gV s one A D) s.top (kV s one D) x).1<=cp (gV s one A D) (kV s one D) x z:=by
   unfold cp
   by_cases c:x < z
   ·rw [if_pos c]
    exact p2 z c (by omega)
   ·rw [if_neg c]
    have:z=x:=by omega
    rw [this]
    exact p1
  show _<=cp (s.sm one A D) (D * one.sum * s.start) x z - D * one.sum * s.piece * x
  have t:cp (s.sm one A D) (D * one.sum * s.start) x z=cp (gV s one A D) (kV s one D) x z:=rfl
  rw [t]
  omega
theorem ub (h:s.Ok) {i:Nat} (hi:i < s.n):bR iM [cE s one A D i]=.ret (.int ((pck (gV s one A D) s.top (kV s one D) ((i:Int) - s.depth)).1 - D * one.sum * s.piece * ((i:Int) - s.depth))):=by
 have hn:=h.n_eq
 unfold cE lI
 rw [Zdr _ (by
  intro z
  have:=congrArg List.length z
  rw [v7,dU,xo] at this
  omega),ZmJ h (by omega) (by omega)]
theorem uc (h:s.Ok) {i:Nat} {j:Int} (j0:0<=j) (hj:(i:Int)+j < s.n):aR ao (cE s one A D i) (.int j)=.ret (.int (vB s one A D ((i:Int) - s.depth) ((i:Int) - s.depth+j))):=by
 unfold cE lI
 rw [ib,ft (v:=.int (vB s one A D ((i:Int) - s.depth) ((i:Int) - s.depth+j))) j0 (by
  rw [v9,v9]
  unfold ak
  rw [v9,wm (by omega)]
  show some (PyData.int (vB s one A D ((i:Int) - s.depth) ((i:Int) - s.depth+(j.toNat:Int))))=_
  rw [show (j.toNat:Int)=j by omega])]
 rfl
theorem t9 {i:Nat} (hi:i < s.n):aR ao (.list ((List.range s.n).map (cE s one A D))) (.int (i:Int))=.ret (cE s one A D i):=by
 rw [ib,ft (v:=cE s one A D i) (by omega) (by
  rw [show ((i:Int)).toNat=i by omega,v9,wm hi]
  rfl)]
 rfl
theorem Znd (h:s.Ok) {i:Nat} (hi:i < s.n):bR c7 [cE s one A D i]=.ret (.int ((s.n:Int) - i)):=by
 unfold cE
 rw [Zna,v7,dU]
 congr 2
 omega
theorem vd {a b c:Int}:((a - c) == (b - c))=decide (a=b):=by
 by_cases e:a=b
 ·rw [e,decide_eq_true rfl]; simp
 ·rw [decide_eq_false e]
  exact beq_eq_false_iff_ne.mpr (by omega)
theorem ZhV (h:s.Ok) (n8:s.n<=9):hU [.d (.list ((List.range s.n).map (cE s one A D))),.d (.int (-s.depth))]=.ret (.d (bX (gV s one A D) s.top (kV s one D) (-s.depth))):=by
 have hn:=h.n_eq
 have t0:=h.t0
 have d0:=h.d0
 have el:bR c7 [.list ((List.range s.n).map (cE s one A D))]=.ret (.int (s.n:Int)):=by
  rw [uI,v7,wI]
 have r1:fE [.int (s.n:Int)]=.ret (aN 0 s.n):=ia (dB (by omega) (by omega))
 have hs1:small (aN 0 (s.n:Int)).length=true:=b7 (by rw [cS]; omega)
 have owk:∀ z:Int,0<=z->z < s.n->(vB s one A D (z - s.depth) (z - s.depth) == ((pck (gV s one A D) s.top (kV s one D) (z - s.depth)).1 - D * one.sum * s.piece * (z - s.depth)))=dw (gV s one A D) s.top (kV s one D) (-s.depth) z:=λz z0 z1=>by
  rw [fR (wG _),vd]
  unfold dw
  have ez:-s.depth+z=z - s.depth:=by omega
  rw [ez]
  have cs:cp (s.sm one A D) (D * one.sum * s.start) (z - s.depth) (z - s.depth)=gV s one A D (z - s.depth):=by
   unfold cp
   rw [if_neg (by omega)]
  rw [cs]
  have k:=tL (g:=gV s one A D) (K:=kV s one D) (show z - s.depth<=s.top by omega)
  by_cases c:lvl (gV s one A D) s.top (kV s one D) (z - s.depth)=z - s.depth
  ·rw [decide_eq_true c,decide_eq_true (k.mp c)]
  ·rw [decide_eq_false c,decide_eq_false (λq=>c (k.mpr q))]
 have e1:=tZ (h:=iT (ah 0) oJ oq [.un,.d (.list ((List.range s.n).map (cE s one A D)))]) (p:=λk=>!dw (gV s one A D) s.top (kV s one D) (-s.depth) k) (f:=λz=>z) (lo:=0) (hi:=s.n) λz z0 z1=>by
  obtain ⟨i,rfl⟩:∃ i:Nat,z=(i:Int):=⟨z.toNat,by omega⟩
  have hi:i < s.n:=by omega
  have a1:=t9 (s:=s) (one:=one) (A:=A) (D:=D) hi
  have a2:=uc (one:=one) (A:=A) (D:=D) h (i:=i) (j:=0) (by decide) (by omega)
  have a3:=ub (one:=one) (A:=A) (D:=D) h hi
  rw [yo] at a2
  have a4:=owk i (by omega) (by omega)
  cases c:dw (gV s one A D) s.top (kV s one D) (-s.depth) (i:Int)
  ·rw [c] at a4
   simp_arith only [oJ,oq,a1,a2,a3,a4,xh,if_true]
  ·rw [c] at a4
   simp_arith only [oJ,oq,a1,a2,a3,a4,wK,xt,if_false]
 have en:((s.n:Int) - 0).toNat=s.n:=by omega
 rw [en,List.map_id'] at e1
 have lt:-s.depth<=s.top:=by omega
 rcases kD (g:=gV s one A D) (K:=kV s one D) lt with ⟨h1,h2⟩ | ⟨l,n0,n1,hno,hown,hh⟩
 ·have ef:=tS (p:=λk=>!dw (gV s one A D) s.top (kV s one D) (-s.depth) k) (n:=s.n) λk k0 k1=>by
   have:=h1 (-s.depth+k) (by omega) (by omega)
   unfold dw
   rw [decide_eq_true this]
   rfl
  rw [ef] at e1
  rw [h2]
  have eN:aR cR (.list []) (.list [])=.ret (.bool true):=ZhN []
  simp_arith only [hU,el,r1,hs1,e1,eN]
  rfl
 ·obtain ⟨i,rfl⟩:∃ i:Nat,l=(i:Int):=⟨l.toNat,by omega⟩
  have hi:i < s.n:=by omega
  obtain ⟨f1,f2⟩:=Zds (p:=λk=>!dw (gV s one A D) s.top (kV s one D) (-s.depth) k) (n:=s.n) n0 (by omega) (by
   unfold dw
   rw [decide_eq_false hno]
   rfl) λk k0 k1=>by
   have:=hown (-s.depth+k) (by omega) (by omega)
   unfold dw
   rw [decide_eq_true this]
   rfl
  generalize hF:(ak 0 s.n).filter (λk=>!dw (gV s one A D) s.top (kV s one D) (-s.depth) k)=F at *
  have eN:aR cR (.list (F.map PyData.int)) (.list [])=.ret (.bool false):=by
   rw [ZhN]
   cases F with
   | nil=>exact absurd rfl f1
   | cons a b=>rfl
  have eM:=tY F f1
  rw [f2] at eM
  have ex:-s.depth+(i:Int)=(i:Int) - s.depth:=by omega
  rw [ex] at hno hown hh
  obtain ⟨q1,q2,q3⟩:=eS (g:=gV s one A D) (top:=s.top) (K:=kV s one D) (x:=(i:Int) - s.depth) (by omega)
  have hG1:(i:Int) - s.depth < lvl (gV s one A D) s.top (kV s one D) ((i:Int) - s.depth):=by
   unfold lvl at hno ⊢
   omega
  have hG2:lvl (gV s one A D) s.top (kV s one D) ((i:Int) - s.depth)<=s.top:=q2
  have hpk:(pck (gV s one A D) s.top (kV s one D) ((i:Int) - s.depth)).1=kV s one D+gV s one A D (lvl (gV s one A D) s.top (kV s one D) ((i:Int) - s.depth)):=by
   rcases q3 with ⟨a,_⟩ | ⟨_,b,_⟩
   ·exact absurd a hno
   ·exact b
  generalize hG:lvl (gV s one A D) s.top (kV s one D) ((i:Int) - s.depth)=G at *
  have a1:=t9 (s:=s) (one:=one) (A:=A) (D:=D) hi
  have a3:=ub (one:=one) (A:=A) (D:=D) h hi
  have a5:=Znd (one:=one) (A:=A) (D:=D) h hi
  have r2:fE [.int ((s.n:Int) - i)]=.ret (aN 0 ((s.n:Int) - i)):=ia (dB (by omega) (by omega))
  have hs2:small (aN 0 ((s.n:Int) - i)).length=true:=b7 (by rw [cS]; omega)
  have e2:=tZ (h:=iT (ah 0) oI oo [.un,.d (.int i),.d (.list ((List.range s.n).map (cE s one A D)))]) (p:=λk=>decide (cp (gV s one A D) (kV s one D) ((i:Int) - s.depth) ((i:Int) - s.depth+k)=(pck (gV s one A D) s.top (kV s one D) ((i:Int) - s.depth)).1)) (f:=λz=>(i:Int)+z) (lo:=0) (hi:=(s.n:Int) - i) λz z0 z1=>by
   have a2:=uc (one:=one) (A:=A) (D:=D) h (i:=i) (j:=z) z0 (by omega)
   rw [fR (by omega)] at a2
   have a4:(cp (s.sm one A D) (D * one.sum * s.start) ((i:Int) - s.depth) ((i:Int) - s.depth+z) - D * one.sum * s.piece * ((i:Int) - s.depth) == (pck (gV s one A D) s.top (kV s one D) ((i:Int) - s.depth)).1 - D * one.sum * s.piece * ((i:Int) - s.depth))=decide (cp (gV s one A D) (kV s one D) ((i:Int) - s.depth) ((i:Int) - s.depth+z)=(pck (gV s one A D) s.top (kV s one D) ((i:Int) - s.depth)).1):=vd
   cases c:decide (cp (gV s one A D) (kV s one D) ((i:Int) - s.depth) ((i:Int) - s.depth+z)=(pck (gV s one A D) s.top (kV s one D) ((i:Int) - s.depth)).1)
   ·rw [c] at a4
    simp_arith only [oI,oo,a1,a2,a3,a4,xt,if_false]
   ·rw [c] at a4
    simp_arith only [oI,oo,a1,a2,a3,a4,if_true]
  obtain ⟨rest,er⟩:=ZnF (p:=λk=>decide (cp (gV s one A D) (kV s one D) ((i:Int) - s.depth) ((i:Int) - s.depth+k)=(pck (gV s one A D) s.top (kV s one D) ((i:Int) - s.depth)).1)) (n:=((s.n:Int) - i - 0).toNat) (a:=G - ((i:Int) - s.depth)) (by omega) (by omega) (by
    refine decide_eq_true ?_
    have e:(i:Int) - s.depth+(G - ((i:Int) - s.depth))=G:=by omega
    rw [e,hpk]
    unfold cp
    rw [if_pos hG1]) λk k0 k1=>by
    refine decide_eq_false λz=>?_
    unfold cp at z
    by_cases c:k=0
    ·subst c
     rw [yo,if_neg (by omega)] at z
     have:=(tL (g:=gV s one A D) (K:=kV s one D) (show (i:Int) - s.depth<=s.top by omega)).mpr z
     rw [hG] at this
     exact hno this
    ·rw [if_pos (by omega)] at z
     have:=ZlY (g:=gV s one A D) (top:=s.top) (K:=kV s one D) (x:=(i:Int) - s.depth) (y:=(i:Int) - s.depth+k) (by omega) (by omega) (by
      have e:(pck (gV s one A D) s.top (kV s one D) ((i:Int) - s.depth)).2=G:=hG
      omega)
     omega
  rw [er,wf,wf] at e2
  have eb:(i:Int)+(G - ((i:Int) - s.depth))=G+s.depth:=by omega
  rw [eb] at e2
  have r3:fE [.int (i:Int)]=.ret (aN 0 i):=ia (dB (by omega) (by omega))
  have hs3:small (aN 0 (i:Int)).length=true:=b7 (by rw [cS]; omega)
  generalize hB:PyData.list (PyData.int (G+s.depth)::(rest.map λz=>(i:Int)+z).map PyData.int)=B at *
  have eB0:aR ao B (.int 0)=.ret (.int (G+s.depth)):=by
   rw [<- hB,ib,jH]
   rfl
  have e3:=tZ (h:=iT (ah 0) oH om [.un,.d (.list ((List.range s.n).map (cE s one A D))),.d B]) (p:=λk=>!cw (gV s one A D) s.top (kV s one D) G (-s.depth+k)) (f:=λz=>z) (lo:=0) (hi:=i) λz z0 z1=>by
   obtain ⟨j,rfl⟩:∃ j:Nat,z=(j:Int):=⟨z.toNat,by omega⟩
   have hj:j < s.n:=by omega
   have b1:=t9 (s:=s) (one:=one) (A:=A) (D:=D) hj
   have b2:=uc (one:=one) (A:=A) (D:=D) h (i:=j) (j:=G+s.depth - j) (by omega) (by omega)
   have b3:=ub (one:=one) (A:=A) (D:=D) h hj
   have ey:(j:Int) - s.depth+(G+s.depth - j)=G:=by omega
   rw [ey,fR (by omega)] at b2
   have ej:-s.depth+(j:Int)=(j:Int) - s.depth:=by omega
   rw [ej]
   have a4:(cp (s.sm one A D) (D * one.sum * s.start) ((j:Int) - s.depth) G - D * one.sum * s.piece * ((j:Int) - s.depth) == (pck (gV s one A D) s.top (kV s one D) ((j:Int) - s.depth)).1 - D * one.sum * s.piece * ((j:Int) - s.depth))=cw (gV s one A D) s.top (kV s one D) G ((j:Int) - s.depth):=by
    rw [vd]
    unfold cw cp
    rw [if_pos (by omega)]
   cases c:cw (gV s one A D) s.top (kV s one D) G ((j:Int) - s.depth)
   ·rw [c] at a4
    simp_arith only [oH,om,b1,b2,b3,eB0,a4,xh,if_true]
   ·rw [c] at a4
    simp_arith only [oH,om,b1,b2,b3,eB0,a4,wK,xt,if_false]
  have en3:((i:Int) - 0).toNat=i:=by omega
  rw [en3,List.map_id'] at e3
  rcases hh with ⟨k,m0,m1,k1,k2,h2⟩ | ⟨k1,h2⟩
  ·obtain ⟨f3,f4⟩:=Zds (p:=λk=>!cw (gV s one A D) s.top (kV s one D) G (-s.depth+k)) (n:=i) m0 m1 (by rw [k1]; rfl) λj j0 j1=>by rw [k2 j j0 j1]; rfl
   generalize (ak 0 i).filter (λk=>!cw (gV s one A D) s.top (kV s one D) G (-s.depth+k))=F3 at *
   have eN3:aR cD (.list (F3.map PyData.int)) (.list [])=.ret (.bool true):=by
    rw [Zc5]
    cases F3 with
    | nil=>exact absurd rfl f3
    | cons a b=>rfl
   have eM3:=tY F3 f3
   rw [f4] at eM3
   rw [h2]
   simp_arith only [hU,el,r1,hs1,e1,eN,eM,a1,a5,r2,hs2,e2,hB,r3,hs3,e3,eN3,eM3,ex]
   rfl
  ·have f3:=tS (p:=λk=>!cw (gV s one A D) s.top (kV s one D) G (-s.depth+k)) (n:=i) λj j0 j1=>by rw [k1 j j0 j1]; rfl
   rw [f3] at e3
   have eN3:aR cD (.list []) (.list [])=.ret (.bool false):=Zc5 []
   rw [h2]
   have eg:-s.depth+(G+s.depth)=G:=by omega
   simp_arith only [hU,el,r1,hs1,e1,eN,eM,a1,a5,r2,hs2,e2,hB,r3,hs3,e3,eN3,eB0,ex,eg]
   rfl
end
end My
set_option Elab.async false
set_option linter.all false
set_option maxRecDepth 100000
namespace My
open L2 Tw
theorem ZkY {s:Shp} {g:Int->Int} {x:Int} (h1:-s.depth<=x) (h2:x<=s.top):L2.fO ((s.row g).map PyData.int) (some (x+s.depth+1)) none=((ak (x+1) (s.top - x).toNat).map g).map PyData.int:=by
 unfold L2.fO
 have e1:HT.aU ((s.row g).map PyData.int).length 0 (some (x+s.depth+1))=(x+s.depth+1).toNat:=by
  unfold HT.aU
  rw [v7,gS]
  unfold Shp.n
  simp only
  split <;> omega
 have e2:HT.aU ((s.row g).map PyData.int).length ((s.row g).map PyData.int).length none=s.n:=by
  unfold HT.aU
  rw [v7,gS]
 rw [e1,e2]
 unfold Shp.row ak
 rw [wu,wu,wu,wu]
 apply xw
 intro i
 by_cases hi:i < (s.top - x).toNat
 ·rw [zQ (by unfold Shp.n; omega),List.getElem?_drop,v9,v9,wm (by unfold Shp.n; omega),wm hi]
  show some (PyData.int (g (-s.depth+(((x+s.depth+1).toNat+i:Nat):Int))))=some (PyData.int (g (x+1+(i:Int))))
  congr 3
  omega
 ·rw [wA (by rw [xP,x9,v7,wI]; unfold Shp.n; omega),wA (by rw [v7,wI]; omega)]
theorem Zom {s:Shp} (h:s.Ok) {g:Int->Int} (hg:Bd s 3000 g) {B:Int} (hB:nb 3000 B) {x G:Int} (x1:-s.depth<=x) (x2:x < G) (G2:G<=s.top) :
  mH [.d s.d,.d (lI (s.row g)),.d (.int B),.d (.int x),.d (.int G)]=.ret (.d (.bool (cw g s.top (B * s.start) G x))):=by
 have a1:=l8 (s:=s) (f:=g) (x:=x) x1 (by omega)
 have a2:=l8 (s:=s) (f:=g) (x:=G) (by omega) G2
 have a3:=ZkY (s:=s) (g:=g) (x:=x) x1 (by omega)
 have f1:=aH hB (by decide)
 have f2:=aH h.start (by decide)
 have hne:(ak (x+1) (s.top - x).toNat).map g≠[]:=by
  intro z
  have:=congrArg List.length z
  rw [v7,dU] at this
  simp at this
  omega
 have m1:=Zdr _ hne
 have ck:=Zpu (g:=g) (K:=B * s.start) x2 G2
 unfold cw
 by_cases c1:B * s.start+g G<=g x
 ·simp_arith [mH,lI,a1,a2,a3,f1,f2,m1,decide_eq_true c1]
  congr 3
  by_cases c2:g G=eh ((ak (x+1) (s.top - x).toNat).map g)
  ·rw [decide_eq_true (ck.mp ⟨c1,c2⟩),c2]
   simp
  ·rw [decide_eq_false (λz=>c2 (ck.mpr z).2)]
   simp [c2]
 ·simp_arith [mH,lI,a1,a2,a3,f1,f2,m1,decide_eq_false c1]
  rw [decide_eq_false (λz=>c1 (ck.mpr z).1)]
noncomputable abbrev fL (s:Shp) (R:PyData) (B least:Int) (P:PyData) (x:Int) (a b:Sl):Ap:=[.d s.d,.d R,.d (.int B),.d (.int least),.d P,.d (.int x),a,b]
theorem Zof {s:Shp} (h:s.Ok) {g:Int->Int} (hg:Bd s 3000 g) {B:Int} (hB:nb 3000 B) (hB0:0<=B) {least:Int} (l1:-s.depth<=least) (l2:least<=s.top) :
  o5 [.d s.d,.d (lI (s.row g)),.d (.int B),.d (.int least)]=.ret (.d (bX g s.top (B * s.start) least)):=by
 have:=h.t0
 have:=h.d0
 have:=h.td
 have e1:=ZhZ h hg hB hB0 (by decide)
 have hpk:∀ x,-s.depth<=x->x<=s.top->bz ((ak (-s.depth) s.n).map (dc g s.top (B * s.start) (B * s.piece))) (x+s.depth)=some (dc g s.top (B * s.start) (B * s.piece) x):=λx x1 x2=>by
  refine ft (by omega) ?_
  unfold ak
  rw [wu,v9,wm (by unfold Shp.n; omega)]
  show some (dc g s.top (B * s.start) (B * s.piece) (-s.depth+((x+s.depth).toNat:Int)))=_
  congr 2
  omega
 obtain ⟨N,hN⟩:∃ N:Nat,s.top=least+N:=⟨(s.top - least).toNat,by omega⟩
 have hlv:∀ x,x<=s.top->x<=lvl g s.top (B * s.start) x/\lvl g s.top (B * s.start) x<=s.top:=λx hx=>⟨(eS (g:=g) (K:=B * s.start) hx).1,(eS (g:=g) (K:=B * s.start) hx).2.1⟩
 generalize hP:PyData.list ((ak (-s.depth) s.n).map (dc g s.top (B * s.start) (B * s.piece)))=P at *
 have key:=Zal (p:=nL) (s:=ui) (E:=λj=>fL s (lI (s.row g)) B least P (least+j) .un .un) (o:=dw g s.top (B * s.start) least) (N:=N) (by
   simp_arith [nL,fL]
   have:decide (least+0 > least)=false:=decide_eq_false (by omega)
   simp_arith [this]) (λj hj=>by
   have c1:decide (least+((j:Int)+1) > least)=true:=decide_eq_true (by omega)
   have c2:=hpk (least+j) (by omega) (by omega)
   have c3:least+((j:Int)+1) - 1+s.depth=least+j+s.depth:=by omega
   have c4:least+((j:Int)+1) - 1=least+j:=by omega
   subst hP
   simp_arith [nL,fL,dc,c1,c3,c2,c4]
   unfold dw
   congr 1) (λj hj=>by
   have c4:least+((j:Int)+1) - 1=least+j:=by omega
   simp_arith [ui,fL,c4]) N (100000 - (N+1)) (wa _)
 have eN:N+1+(100000 - (N+1))=100000:=by omega
 rw [eN] at key
 simp only [fL,<- hN] at key
 have hsm:((least+(N:Int)) - least).toNat=N:=by omega
 simp_arith [o5,e1,hP,key]
 unfold bX
 rw [show (s.top - least).toNat=N by omega]
 rcases ZdB (o:=dw g s.top (B * s.start) least) N with ⟨z1,z2⟩ | ⟨l,z1,z2,z3,z4,z5⟩
 ·rw [z1,z2]
  have e0:least+0=least:=by omega
  simp_arith [e0,beq_self_eq_true]
  rfl
 ·rw [z1,z2]
  have e0:((least+(l+1)) == least)=false:=by
   rw [beq_eq_false_iff_ne]; omega
  have e2:least+(l+1) - 1=least+l:=by omega
  have c2:=hpk (least+l) (by omega) (by omega)
  have r1:gT [.int least,.int (least+l)]=.ret (aN least (least+l)):=mT (dB (by omega) (by omega)) (dB (by omega) (by omega))
  generalize hG:lvl g s.top (B * s.start) (least+l)=G at *
  have hG1:least+l < G:=by
   have a:=(hlv (least+l) (by omega)).1
   have b:¬ lvl g s.top (B * s.start) (least+l)=least+l:=by
    unfold dw at z5
    exact of_decide_eq_false z5
   omega
  have hG2:G<=s.top:=by
   have a:=(hlv (least+l) (by omega)).2
   omega
  have kf:=Zey (g:=ah 7) (s:=kT) (f:=λy=>match y with | .int w=>if cw g s.top (B * s.start) G w=true then none else some (Re.d (mkn w (least+l))) | _=>none)
   (λρ=>∃ a,ρ=fL s (lI (s.row g)) B least P (least+(l+1)) (.d (.int G)) a) (xs:=(aN least (least+l)).reverse) (ρ:=fL s (lI (s.row g)) B least P (least+(l+1)) (.d (.int G)) .un) (λy hy ρ hρ=>by
    obtain ⟨w,rfl,w1,w2⟩:=Zk1 (zr.mp hy)
    obtain ⟨a,rfl⟩:=hρ
    refine ⟨_,rfl,?_⟩
    have ec:=Zom h hg hB (x:=w) (G:=G) (by omega) (by omega) hG2
    show (∃ r,(if cw g s.top (B * s.start) G w=true then none else some (Re.d (mkn w (least+l))))=some r/\kT (fL s (lI (s.row g)) B least P (least+(l+1)) (.d (.int G)) (.d (.int w)))=_)\/_/\∃ ρ2,kT (fL s (lI (s.row g)) B least P (least+(l+1)) (.d (.int G)) (.d (.int w)))=_/\_
    cases hc:cw g s.top (B * s.start) G w with
    | true =>
     rw [hc] at ec
     refine .inr ⟨by show (if cw g s.top (B * s.start) G w=true then none else _)=none; rw [hc]; rfl,_,?_,.d (.int w),rfl⟩
     simp_arith [kT,fL,ec,wK]
    | false =>
     rw [hc] at ec
     refine .inl ⟨_,rfl,?_⟩
     simp_arith [kT,fL,ec,xh,e2]
     rfl) ⟨_,rfl⟩
  have hfind:(aN least (least+l)).reverse.findSome? (λy=>match y with | .int w=>if cw g s.top (B * s.start) G w=true then none else some (Re.d (mkn w (least+l))) | _=>none)=((ak 0 l.toNat).reverse.find? (λk=>!cw g s.top (B * s.start) G (least+k))).map λk=>Re.d (mkn (least+k) (least+l)):=by
   have er:aN least (least+l)=(ak 0 l.toNat).map λk=>PyData.int (least+k):=by
    unfold aN ak
    rw [show (least+l - least).toNat=l.toNat by omega,wu,wu]
    refine wR λi _=>?_
    show PyData.int (least+(i:Int))=PyData.int (least+(0+(i:Int)))
    congr 1
    omega
   rw [er,<- List.map_reverse]
   generalize (ak 0 l.toNat).reverse=L
   induction L with
   | nil=>rfl
   | cons k L ih =>
    rw [wf,List.findSome?_cons]
    cases hc:cw g s.top (B * s.start) G (least+k) with
    | true =>
     rw [List.find?_cons_of_neg (by simp [hc])]
     simp only [hc,if_true]
     exact ih
    | false =>
     rw [List.find?_cons_of_pos (by simp [hc])]
     simp [hc]
  rw [hfind] at kf
  simp only [fL] at kf
  subst hP
  cases hfd:(ak 0 l.toNat).reverse.find? (λk=>!cw g s.top (B * s.start) G (least+k)) with
  | some k =>
   rw [hfd] at kf
   rcases kf with ⟨r,q1,q2⟩ | ⟨q1,_⟩
   ·cases q1
    simp only [dc,hG] at c2
    try simp only [dc] at q2
    simp_arith [dc,e0,e2,c2,r1,q2]
    rw [hG,hfd]
   ·cases q1
  | none =>
   rw [hfd] at kf
   rcases kf with ⟨r,q1,q2⟩ | ⟨q1,ρ2,q2,a,rfl⟩
   ·cases q1
   ·simp only [dc,hG] at c2
    try simp only [dc] at q2
    have e3:least+(l+1)=least+l+1:=by omega
    simp_arith [dc,e0,e2,c2,r1,q2]
    rw [e3,hG,hfd]
    rfl
end My
set_option Elab.async false
set_option linter.all false
set_option maxRecDepth 100000
set_option exponentiation.threshold 9000
namespace My
open L2 Tw Bar
theorem Zod {s:Shp} {one:Aj} {lv:Nat->Int} (r:RuOk s one lv):iP [.d s.d,.d (tI one),.d (tI ((List.range s.n).map lv))]=.ret (.d (.tuple [.int (zB s one lv 0),lI (s.row (wB s one lv)),.int (aJ s one lv)])):=by
 have h:=r.h
 have hn:=h.n_eq
 have t0:=h.t0
 have d0:=h.d0
 have n9:=r.n9
 have e1:=ic h
 have em:=Zde r
 have es:=ZhT (ZaF r)
 have it:∀ xs,dg (.tuple xs)=.ret xs:=λ_=>rfl
 have hs:small (bS (aN (-s.depth) (s.top+1)) (((List.range s.n).map lv).map PyData.int)).length=true:=b7 (by
  unfold bS
  rw [v7,ye,cS]
  omega)
 have ew:=Zam h one lv
 have ez:((List.range s.n).map λi=>M (cb s one lv s.n) s.n i (col (cb s one lv s.n) s.n)).map PyData.int=((List.range s.n).map (zB s one lv)).map PyData.int:=rfl
 rw [ez] at es
 have a0:aR ao (.list (((List.range s.n).map (zB s one lv)).map PyData.int)) (.int 0)=.ret (.int (zB s one lv 0)):=by
  rw [ib,ft (v:=.int (zB s one lv 0)) (by decide) (by rw [v9,v9]; show Option.map _ (Option.map _ ((List.range s.n)[0]?))=_; rw [wm (by omega)]; rfl)]
  rfl
 have a1:gQ (.list (((List.range s.n).map (zB s one lv)).map PyData.int)) (some 1) none=.ret (.list ((((List.range s.n).map (zB s one lv)).map PyData.int).drop 1)):=by
  rw [pV,Zih]
 have a2:aR aM (.list [.int 0]) (.list ((((List.range s.n).map (zB s one lv)).map PyData.int).drop 1))=.ret (lI (s.row (wB s one lv))):=by
  rw [mV (b7 (by rw [x9,v7,v7,wI]; show 1+_<=_; omega))]
  show Tr.ret (PyData.list (PyData.int 0::(((List.range s.n).map (zB s one lv)).map PyData.int).drop 1))=_
  rw [ew]
  rfl
 have ed:d (cb s one lv s.n) s.n=aJ s one lv:=rfl
 rw [ed] at es
 generalize ((List.range s.n).map (zB s one lv)).map PyData.int=zs at *
 simp_arith only [iP,Zhc,Zhe,e1,it,pJ,hs,em,es,a0,a1,a2]
theorem Zoc {s:Shp} {one:Aj} {lv:Nat->Int} (r:RuOk s one lv):kF [.d s.d,.d (tI one),.d (tI (bB s lv))]=.ret (.d (c5 (zB s one lv 0) (aJ s one lv))):=by
 have e0:=uO r.hd r.gr r.ps
 have e1:=Zod r
 have sp:=dq r
 have e2:=mW (t:=zB s one lv 0) (b:=aJ s one lv) (by omega) (aT (gm r) (by decide))
 unfold bB
 simp_arith [kF,lb,lc,e0,e1,e2]
theorem ZhU {s:Shp} {one:Aj} (c:Cs s one):∃ lv,RuOk s one lv/\bn s one lv=lv/\o9 [.d s.d,.d (tI one)]=.ret (.d (bX (gB s one lv) s.top (kB s one lv) (-s.depth))):=by
 obtain ⟨lv,r,hf,e⟩:=Zh0 c.dr.ok c.n8 c.B c.gr c.ps
 refine ⟨lv,r,hf,?_⟩
 have h:=c.dr.ok
 have t0:=h.t0
 have d0:=h.d0
 have sp:=dq r
 have sn:=dG c.B
 have e0:=uO c.B c.gr c.ps
 have e1:=ZhW h c.B (jU r) (aT (gm r) (show 1531<=1702 by decide)) (by decide)
 have hg:Bd s 3000 (s.sm one (wB s one lv) (aJ s one lv)):=λx x1 x2=>aT (ZaS h c.B (jU r) (aT (gm r) (show 1531<=1702 by decide)) x x1 x2) (by decide)
 have hB:nb 3000 (aJ s one lv * one.sum):=aT (bJ (gm r) sn) (by decide)
 have e2:=Zof h hg hB (wW (wy sp) (wy c.B.pos)) (least:=-s.depth) (wG _) (by omega)
 have f1:=aH (gm r) (by decide)
 have f2:=aH sn (by decide)
 have eL:PyData.list ((s.row (s.sm one (wB s one lv) (aJ s one lv))).map PyData.int)=lI (s.row (s.sm one (wB s one lv) (aJ s one lv))):=rfl
 unfold lM at e
 simp_arith [o9,lb,lc,e0,e,e1]
 simp_arith [eL,gj,f1,f2,e2]
 rfl
theorem Zdn {s:Shp} {one:Aj} (h:s.Ok) {A A':Int->Int} {D D' c e t:Int} (c0:0 < c) (e0:0 < e) (hD:c * D=e * D') (hA:∀ x,-s.depth<=x->x<=s.top->c * A x=e * A' x+t):bX (gV s one A D) s.top (kV s one D) (-s.depth)=bX (gV s one A' D') s.top (kV s one D') (-s.depth):=by
 have t0:=h.t0
 have d0:=h.d0
 refine ZmF c0 e0 (d:=one.sum * t) (by omega) (λy y1 y2=>?_) ?_
 ·show c * (D * one.sum * s.piece * y+s.wg one y A D)=e * (D' * one.sum * s.piece * y+s.wg one y A' D')+one.sum * t
  have k:c * s.wg one y A D=e * s.wg one y A' D'+one.sum * t:=by
   have e1:c * s.wg one y A D=ws (λf=>e * (D' * s.day y f+A' (s.nx y f))+t) 0 one:=by
    unfold Shp.wg
    rw [<- jh]
    refine lJ λf hf=>?_
    have:=hA _ (gA s y f) (gz h y2 hf)
    rw [xc,this,<- zX,hD]
    grind
   rw [e1,Zai,jh,Zah,xO t]
   rfl
  rw [xc,xc,k]
  have e2:c * (D * one.sum * s.piece * y)=c * D * (one.sum * s.piece * y):=by grind
  have e3:e * (D' * one.sum * s.piece * y)=e * D' * (one.sum * s.piece * y):=by grind
  rw [e2,e3,hD]
  omega
 ·show c * (D * one.sum * s.start)=e * (D' * one.sum * s.start)
  have e2:c * (D * one.sum * s.start)=c * D * (one.sum * s.start):=by grind
  have e3:e * (D' * one.sum * s.start)=e * D' * (one.sum * s.start):=by grind
  rw [e2,e3,hD]
theorem Zdl {s:Shp} {one:Aj} {lv lv':Nat->Int} (r:RuOk s one lv) (r':RuOk s one lv') (hf:bn s one lv=lv) (hf':bn s one lv'=lv'):bX (gB s one lv) s.top (kB s one lv) (-s.depth)=bX (gB s one lv') s.top (kB s one lv') (-s.depth):=by
 have sp:=dq r
 have sp':=dq r'
 have hn:=r.h.n_eq
 obtain ⟨_,k⟩:=Zkl r r' (jV s one lv) (jV s one lv') sp sp' (λi hi=>pq r hf hi) (λi hi=>pq r' hf' hi)
 refine Zdn r.h sp' sp (xO _ _) (t:=0) λx x1 x2=>?_
 have:=k (x+s.depth).toNat (by omega)
 have ex:(((x+s.depth).toNat:Nat):Int) - s.depth=x:=by omega
 rw [ex] at this
 omega
theorem Zdm {s:Shp} {one:Aj} (h:s.Ok) {ws:List (Int×Int)} (l1:ws.length=s.n) (w0:∀ p∈ws,0 < p.2) {E:Int} {a:Int->Int} (E0:0 < E) (hw:∀ x,-s.depth<=x->x<=s.top->(pw s ws x).1 * E=a x * (pw s ws x).2) {A':Int->Int} {D' c t:Int} (c0:0 < c) (hE:E=c * D') (ha:∀ x,-s.depth<=x->x<=s.top->a x=c * A' x+t):bX (gV s one (bH s (ws.map (ovr (bK 1 ws)))) (bK 1 ws)) s.top (kV s one (bK 1 ws)) (-s.depth)=bX (gV s one A' D') s.top (kV s one D') (-s.depth):=by
 have D0:=m7 (D:=1) (ws:=ws) (by decide) w0
 refine Zdn h (c:=E) (e:=bK 1 ws * c) (t:=bK 1 ws * t) E0 (wV D0 c0) (by rw [hE]; grind) λx x1 x2=>?_
 rw [qt h l1 _ x1 x2]
 have hm:=iB h l1 x1 x2
 have e1:=km (w0 _ hm) (qm (D:=1) hm)
 have e2:=hw x x1 x2
 have p0:=w0 _ hm
 have e3:E * ovr (bK 1 ws) (pw s ws x)=bK 1 ws * a x:=by
  refine xf (xi p0) ?_
  have:E * ovr (bK 1 ws) (pw s ws x) * (pw s ws x).2=E * (ovr (bK 1 ws) (pw s ws x) * (pw s ws x).2):=by grind
  rw [this,e1]
  have:bK 1 ws * a x * (pw s ws x).2=bK 1 ws * (a x * (pw s ws x).2):=by grind
  rw [this,<- e2]
  grind
 rw [e3,ha x x1 x2]
 grind
end My
set_option Elab.async false
set_option linter.all false
set_option maxRecDepth 100000
set_option exponentiation.threshold 9000
namespace My
open L2 Tw Bar
theorem ZbY:Rp (.str "marks") 0 1901:=j9 (n:=20) ⟨rfl,rfl,xz _,by trivial⟩ (wa _) (by decide)
theorem ZkV:Rp (.str "none") 0 1901:=j9 (n:=20) ⟨rfl,rfl,xz _,by trivial⟩ (wa _) (by decide)
theorem sJ {a:PyData} {b c:Int} (ha:Rp a 0 1901) (hb:nb 1900 b) (hc:nb 1900 c):gt (.tuple [a,.int b,.int c])=true:=by
 refine ZbX (sI (xs:=[a,.int b,.int c]) (k:=0) (n:=1901) λx hx=>?_) (by decide) (by simp)
 simp only [wt,xC,or_false] at hx
 rcases hx with rfl | rfl | rfl
 ·exact ha
 ·exact sK hb
 ·exact sK hc
theorem Zdo {g:Int->Int} {top K least:Int} (h0:-100<=least) (h1:least<=top) (h2:top<=100):gt (bX g top K least)=true:=by
 have n:∀ v:Int,-1000<=v->v<=1000->nb 1900 v:=λv v0 v1=>aT (bP (k:=20) (by show -1048576 < _; omega) (by show _ < 1048576; omega)) (by decide)
 unfold bX
 cases hf:(ak 0 (top - least).toNat).reverse.find? (λk=>!dw g top K least k) with
 | none=>exact sJ ZbY (n _ (by omega) (by omega)) (n _ (by omega) (by omega))
 | some l =>
  have hl:=fj (zr.mp (zK hf))
  dsimp only
  cases hq:(ak 0 l.toNat).reverse.find? (λk=>!cw g top K (lvl g top K (least+l)) (least+k)) with
  | some k =>
   have hk:=fj (zr.mp (zK hq))
   exact sJ ZkV (n _ (by omega) (by omega)) (n _ (by omega) (by omega))
  | none =>
   have hv:=eS (g:=g) (K:=K) (x:=least+l) (top:=top) (by omega)
   have hv1:=hv.1
   have hv2:=hv.2.1
   exact sJ ZbY (n _ (by omega) (by omega)) (n _ (by unfold lvl; omega) (by unfold lvl; omega))
theorem ZkX {s:Shp} {one:Aj} (c:Cs s one):gt (.tuple [s.d,tI one])=true:=by
 refine ZbX (sI (xs:=[s.d,tI one]) (k:=1) (n:=40000) λx hx=>?_) (by decide) (by show 2 * 40000+2 * 2+10<=10000000; decide)
 simp only [wt,xC,or_false] at hx
 rcases hx with rfl | rfl
 ·exact j9 (ZkU c.dr.ok) (wa _) (by decide)
 ·exact ZkW c.B
theorem Zpp (s:Shp):gQ s.d (some 7) none=.ret (.tuple [.int s.back,.int s.late]):=by unfold Shp.d; rfl
theorem pr7 {a b c d e f g:Int} (ha:0<=a/\a<=1000000) (hb:0<=b/\b<=1000000) (hc:0<=c/\c<=1000000) (hd:0<=d/\d<=1000000) (he:0<=e/\e<=1000000) (hf:0<=f/\f<=1000000) (hg:0<=g/\g<=1000000):∀ n∈[a,b,c,d,e,f,g],0<=n/\n<=1000000:=λn hn=>by
 simp only [wt,xC,or_false] at hn
 rcases hn with rfl | rfl | rfl | rfl | rfl | rfl | rfl <;> assumption
theorem ZkK {s:Shp} {one:Aj} (c:Cs s one):Al (mE [.pen,.d s.d]) 5 λr=>∃ s':Shp,r=.d s'.d/\Cs s' one:=by
 have g2:fit (2:Int)=true:=aH (show nb 20 (2:Int) from bP (by decide) (by decide)) (by decide)
 simp_arith [mE,bi]
 refine cM (n:=4) (by decide) (by decide) (by decide) λl l0 l1=>?_
 have gl:fit (1+l)=true:=aH (show nb 20 (1+l) from bP (by show -1048576 < _; omega) (by show _ < 1048576; omega)) (by decide)
 simp_arith [bi,g2,gl]
 refine cM (n:=3) (by omega) (by omega) (by decide) λa a0 a1=>?_
 try simp_arith [bi]
 refine cM (n:=2) (by decide) (by decide) (by decide) λp p0 p1=>?_
 try simp_arith [bi]
 refine cM (n:=1) (by decide) (by decide) (by decide) λq q0 q1=>?_
 try simp_arith [bi]
 refine cM (n:=0) (by decide) (by decide) (by decide) λr r0 r1=>?_
 simp_arith [bi,qb,Zpp]
 refine dE ?_
 have hp:=c.dr.p
 simp only [wt,xC,or_false,forall_eq_or_imp,forall_eq] at hp
 obtain ⟨h1,h2,h3,h4,h5,h6,h7⟩:=hp
 have hq:∀ n∈[a,p,q,r,1+l,s.back,s.late],0<=n/\n<=1000000:=pr7 (by omega) (by omega) (by omega) (by omega) (by omega) h6 h7
 exact ⟨⟨s.top,s.depth,a,p,q,r,1+l,s.back,s.late⟩,by rw [<- rP],⟨c.dr.t0,c.dr.d0,c.dr.td,hq⟩,c.td,c.len,c.le,c.big⟩
theorem ZkJ:Al (mD [.pen]) 12 λr=>∃ (s:Shp) (one:Aj),r=.d (.tuple [s.d,tI one])/\Cs s one:=by
 have g2:fit (2:Int)=true:=aH (show nb 20 (2:Int) from bP (by decide) (by decide)) (by decide)
 have fv:∀ v:Int,-1000<=v->v<=1000->fit v=true:=λv v0 v1=>aH (show nb 20 v from bP (by show -1048576 < _; omega) (by show _ < 1048576; omega)) (by decide)
 simp_arith [mD,bi]
 refine cM (n:=11) (by decide) (by decide) (by decide) λm m0 m1=>?_
 try simp_arith [bi]
 refine cM (n:=10) (by decide) (by decide) (by decide) λl l0 l1=>?_
 try simp_arith [bi]
 refine cM (n:=9) (by decide) (by decide) (by decide) λw w0 w1=>?_
 try simp_arith [bi]
 refine cM (n:=8) (by decide) (by decide) (by decide) λf f0 f1=>?_
 try simp_arith [bi]
 refine cM (n:=7) (by decide) (by decide) (by decide) λr r0 r1=>?_
 try simp_arith [bi]
 refine cM (n:=6) (by decide) (by decide) (by decide) λb b0 b1=>?_
 have e1:=fv (l+m) (by omega) (by omega)
 have e2:=fv (1+w) (by omega) (by omega)
 have e3:=fv l (by omega) (by omega)
 have e4:=fv (1+f) (by omega) (by omega)
 have e5:=fv m (by omega) (by omega)
 have e6:=fv (1+b) (by omega) (by omega)
 simp_arith [bi,e1,e2,e3,e4,e5,g2]
 refine eZ (n:=3) (n':=3) sk (by decide) ?_
 rintro _ ⟨p,rfl,p0,p1⟩
 try simp_arith [bi]
 refine eZ (n:=3) (n':=0) sk (by decide) ?_
 rintro _ ⟨q,rfl,q0,q1⟩
 obtain ⟨k,ek⟩:∃ k:Nat,2+r - 2=(k:Int):=⟨r.toNat,by omega⟩
 have er:aR kd (.tuple [.int 0]) (.int (k:Int))=.ret (.tuple ((List.replicate k (0:Int)).map PyData.int)):=by
  rw [Zn0 (by
   rw [decide_eq_true (show (-1000:Int)<=(k:Int) by omega),decide_eq_true (show (k:Int)<=1000 by omega)]
   rfl)]
  have e1:((k:Int)).toNat=k:=by omega
  rw [e1]
  have e2:∀ n:Nat,(List.replicate n [PyData.int 0]).flatten=(List.replicate n (0:Int)).map PyData.int:=by
   intro n
   induction n with
   | zero=>rfl
   | succ n ih=>rw [wF,w6,ih,wF,wf]; rfl
  rw [e2]
 generalize hz:List.replicate k (0:Int)=zs at *
 have hzl:zs.length=k:=by rw [<- hz,xU]
 have a1:aR aM (.tuple [.int (1+b),.int 0,.int ((1+w) * (1+b))]) (.tuple (zs.map PyData.int))=.ret (.tuple ([PyData.int (1+b),.int 0,.int ((1+w) * (1+b))]++zs.map PyData.int)):=pX rfl (b7 (by rw [v7]; show 3+_<=_; omega))
 have a2:aR aM (.tuple ([PyData.int (1+b),.int 0,.int ((1+w) * (1+b))]++zs.map PyData.int)) (.tuple [.int ((1+f) * (1+b))])=.ret (tI ([1+b,0,(1+w) * (1+b)]++zs++[(1+f) * (1+b)])):=by
  rw [pX rfl (b7 (by rw [wx,v7]; show 3+_+1<=_; omega))]
  unfold tI
  rw [wT,wT]
  rfl
 simp only [yO,xK] at a1 a2
 simp_arith [bi,ek,er,e2,e4,e6,a1,a2]
 have wb:0<=(1+w) * (1+b)/\(1+w) * (1+b)<=1000:=⟨wW (by omega) (by omega),zo (yk (show 1+w<=9 by omega) (show 1+b<=100 by omega) (by omega) (by omega)) (by decide)⟩
 have fb:1<=(1+f) * (1+b)/\(1+f) * (1+b)<=1000:=⟨wV (by omega) (by omega),zo (yk (show 1+f<=9 by omega) (show 1+b<=100 by omega) (by omega) (by omega)) (by decide)⟩
 have kp:0<=(l+m) * (1+w)+l * (1+f)/\(l+m) * (1+w)+l * (1+f)<=1000000:=by
  have k1:=yk (show l+m<=18 by omega) (show 1+w<=9 by omega) (by omega) (by omega)
  have k2:=yk (show l<=9 by omega) (show 1+f<=9 by omega) (by omega) (by omega)
  have k3:=wW (show 0<=l+m by omega) (show 0<=1+w by omega)
  have k4:=wW l0 (show 0<=1+f by omega)
  omega
 have hq:∀ n∈[0,0,(l+m) * (1+w)+l * (1+f),l+2 * m,l,p,q],0<=n/\n<=1000000:=pr7 ⟨by decide,by decide⟩ ⟨by decide,by decide⟩ kp (by omega) (by omega) ⟨p0,p1⟩ ⟨q0,q1⟩
 refine dE ?_
 refine ⟨⟨2+r,1,0,0,(l+m) * (1+w)+l * (1+f),l+2 * m,l,p,q⟩,[1+b,0,(1+w) * (1+b)]++zs++[(1+f) * (1+b)],by rw [<- rP]; rfl,⟨by show 0<=2+r; omega,by show (0:Int)<=1; decide,by show 2+r+1<=39; omega,hq⟩,by show 2+r+1<=7; omega,?_,λn hn=>?_,3+k,(1+f) * (1+b),by show 2+r+1<=((3+k:Nat):Int); omega,?_,fb.1⟩
 ·rw [wx,wx,hzl]
  show 3+k+1<=8
  omega
 ·rcases xT.mp hn with z | z
  ·rcases xT.mp z with z | z
   ·simp only [wt,xC,or_false] at z
    rcases z with rfl | rfl | rfl
    ·omega
    ·omega
    ·exact wb
   ·rw [<- hz] at z
    rw [List.eq_of_mem_replicate z]
    omega
  ·simp at z
   subst z
   omega
 ·rw [wM (by rw [wx,hzl]; show 3+k<=3+k; omega),wx,hzl]
  show [(1+f) * (1+b)][3+k - (3+k)]?=_
  rw [Nat.sub_self]
  rfl
noncomputable def sR:Ac :=
 (aj (aQ 6 (bb gu (ae (bA (ae (aa 4) (ae (aa 5) am))) am)))
 (aj (di (bh (aw (ah 7) (aw (ah 8) (aw (ah 9) bf)))) (ay (av iQ (ad (aa 4) (ad (aa 5) aq)))))
 (aj (aQ 10 (bA (ae (ac bF (ay (av cr (bC 1 (ad (aC (.int 9)) aq)))) (aC (.int 4))) (ae (ac aM (aC (.int 1)) (ay (av cr (bC 1 (ad (aC (.int 3)) aq))))) am))))
 (aj (aQ 11 (bb eO (ae (cf (dh (dF (aa 8)) 1 [10] (ah 0) ow)) am)))
 (aj (aQ 12 (ay (av hU (ad (ay (av jw (ad (aa 4) (ad (aa 5) (ad (aa 11) aq))))) (ad (ac bF (aC (.int 0)) (ac ao (aa 4) (aC (.int 1)))) aq)))))
 (aj (aQ 13 (ac aM (ac ao (aa 4) (aC (.int 0))) (ac ao (aa 4) (aC (.int 1)))))
 (aj (aQ 14 (ay (av kG (bC 1 (ad (ac aM (aa 13) (aC (.int 1))) (ad (aa 13) aq))))))
 (aj (aQ 15 (ay (av hU (ad (ay (av jw (ad (aa 4) (ad (aa 14) (ad (ac ao (ay (av iQ (ad (aa 4) (ad (aa 14) aq)))) (aC (.int 1))) aq))))) (ad (ac bF (aC (.int 0)) (ac ao (aa 4) (aC (.int 1)))) aq)))))
 (aj (cZ (dF (bA (ae (bA (ae (aa 5) (ae (aa 12) am))) (ae (bA (ae (aa 14) (ae (aa 15) am))) (ae (bA (ae (aa 5) (ae (aa 12) am))) am))))) (bh (aw (ah 16) (aw (ah 17) bf))) um)
 (aj (bZ (bu (ac cR (ac ao (aa 12) (aC (.int 0))) (aC (.str "marks"))))
  (aj (di (bh (aw (ah 18) (aw (ah 19) bf))) (i5 (aa 12) (ik (aC (.int 1))) i7))
 (aj (gL 20 (dC am))
 (aj (cZ (lA (ae (ac bF (aC (.int 0)) (ac ao (aa 4) (aC (.int 1)))) (ae (ac aM (ac ao (aa 4) (aC (.int 0))) (aC (.int 1))) am))) (ah 21) kU)
 (aj (gN 20 (bZ (bu (ac cD (ay (av kF (ad (aa 4) (ad (aa 5) (ad (bb eO (ae (aa 20) am)) aq))))) (aa 7)))
  (bg (aC (.bool false)))
  bY))
 (gN 20 (bZ (bu (ac mO (ay (av gD (ad (aa 4) (ad (aa 5) (ad (bA (ae (aa 7) (ae (aa 11) (ae (bb eO (ae (aa 20) am)) am)))) aq))))) (aC (.bool true))))
  (bg (aC (.bool false)))
  bY))))))
  bY)
 (bZ (bu (ac cD (bb gu (ae (bA (ae (aa 4) (ae (aa 5) am))) am)) (aa 6)))
  (bg (aC (.bool false)))
  bY)))))))))))
theorem ZcZ {s:Shp} {one:Aj} {lv:Nat->Int} (r:RuOk s one lv):Num s (cT (zB s one lv 0) (aJ s one lv)) (bW s one lv) (aJ s one lv) (zB s one lv 0) (wB s one lv):=by
 have sp:=dq r
 have hn:=r.h.n_eq
 refine ⟨sp,kP sp,λx x1 x2=>?_⟩
 have hk:(x+s.depth).toNat < s.n:=by omega
 have ex:(((x+s.depth).toNat:Nat):Int) - s.depth=x:=by omega
 have e1:=rR (one:=one) (lv:=lv) hk
 rw [ex] at e1
 unfold pw
 rw [e1]
 exact kP sp
noncomputable def dP (s:Shp) (L G:Int) (i:Nat):Int:=dA (L,G) ((i:Int) - s.depth)
theorem Zdp {s:Shp} {one:Aj} {lv:Nat->Int} (r:RuOk s one lv) {L G:Int} (e:bX (gB s one lv) s.top (kB s one lv) (-s.depth)=mks L G):RuOk s one (dP s L G):=by
 have hn:=r.h.n_eq
 have t0:=r.h.t0
 have d0:=r.h.d0
 refine ⟨r.h,r.n9,r.hd,r.gr,r.ps,λi hi=>?_,λi hi=>?_⟩
 ·exact (tX (by omega) e (x:=(i:Int) - s.depth) (by omega) (by omega)).1
 ·exact (tX (by omega) e (x:=(i:Int) - s.depth) (by omega) (by omega)).2.1
theorem t4 {s:Shp} {one:Aj} {lv:Nat->Int} (r:RuOk s one lv) (hf:bn s one lv=lv) {L G:Int} (e:bX (gB s one lv) s.top (kB s one lv) (-s.depth)=mks L G) {i:Nat} (hi:i < s.n):ff s one (wB s one lv) (aJ s one lv) (zB s one lv 0) ((i:Int) - s.depth) (dP s L G i):=by
 have hn:=r.h.n_eq
 have t0:=r.h.t0
 have d0:=r.h.d0
 obtain ⟨k1,k2⟩:=pq r hf hi
 obtain ⟨m1,m2,m3⟩:=tX (by omega) e (x:=(i:Int) - s.depth) (by omega) (by omega)
 refine ⟨?_,k2⟩
 rw [k1,fR (r.lo i hi),fR (show (i:Int) - s.depth<=dP s L G i from m1)]
 have c1:=uU r hi
 rw [hf] at c1
 have c2:cp (gB s one lv) (kB s one lv) ((i:Int) - s.depth) (dP s L G i)=_:=m3
 show cp (gB s one lv) (kB s one lv) _ _ - _=cp (gB s one lv) (kB s one lv) _ _ - _
 rw [c1,c2]
theorem ZmQ {s:Shp} {one:Aj} {lv:Nat->Int} (r:RuOk s one lv) (hf:bn s one lv=lv) {L G:Int} (e:bX (gB s one lv) s.top (kB s one lv) (-s.depth)=mks L G):c5 (zB s one (dP s L G) 0) (aJ s one (dP s L G))=c5 (zB s one lv 0) (aJ s one lv):=by
 have rm:=Zdp r e
 have sp:=dq r
 have sm:=dq rm
 have a:=nU rm (jV s one lv) (jV s one (dP s L G)) sm (λi hi=>xW (t4 r hf e hi).1) (λi hi=>pZ rm hi)
 have b:=nU rm (jV s one (dP s L G)) (jV s one lv) sp (λi hi=>xW (pZ rm hi)) (λi hi=>(t4 r hf e hi).1)
 refine Zbb sm sp ?_
 rw [xO,xO (zB s one lv 0)]
 rcases a with a | ⟨a,_⟩ <;> rcases b with b | ⟨b,_⟩ <;> omega
end My
set_option Elab.async false
set_option linter.all false
set_option maxRecDepth 100000
set_option exponentiation.threshold 9000
namespace My
open L2 Tw Bar
theorem ZmW (s:Shp) (one:Aj) (lv:Nat->Int):aR ao (kO s one lv) (.int 1)=.ret (.tuple ((bW s one lv).map shr)):=by
 rw [ZdF]
 unfold dW
 rw [eX,ng]
 rfl
theorem ZmE {g:Int->Int} {top K least:Int} (l1:least<=top):(∃ a b,bX g top K least=mks a b)\/∃ a b,bX g top K least=mkn a b:=by
 rcases kD (g:=g) (K:=K) l1 with ⟨_,h⟩ | ⟨l,_,_,_,_,⟨k,_,_,_,_,h⟩ | ⟨_,h⟩⟩
 ·exact .inl ⟨_,_,h⟩
 ·exact .inr ⟨_,_,h⟩
 ·exact .inl ⟨_,_,h⟩
theorem lr2 (R:Ap) (L G:Int) (hR:R.length=18):∀ (l cs:Aj) (J:Sl),cs.length+l.length<=200->∃ K:Sl,bT (ah 21) kU (l.map PyData.int) (R++[.d (.int L),.d (.int G),.own (cs.map PyData.int),J])=.ret (.next (R++[.d (.int L),.d (.int G),.own ((cs++l.map (dA (L,G))).map PyData.int),K]))
 | [],cs,J,_=>⟨J,by rw [xv,xv,wZ]; rfl⟩
 | x::l,cs,J,hl=>by
  rw [wl] at hl
  obtain ⟨K,e⟩:=lr2 R L G hR l (cs++[dA (L,G) x]) (.d (.int x)) (by rw [wx,yY]; omega)
  refine ⟨K,?_⟩
  have hs:small ((cs.map PyData.int).length+1)=true:=b7 (by rw [v7]; omega)
  have em:cs.map PyData.int++[PyData.int (dA (L,G) x)]=(cs++[dA (L,G) x]).map PyData.int:=by rw [wT]; rfl
  have et:kU (R++[.d (.int L),.d (.int G),.own (cs.map PyData.int),.d (.int x)])=.ret (.next (R++[.d (.int L),.d (.int G),.own ((cs++[dA (L,G) x]).map PyData.int),.d (.int x)])):=by
   rw [<- em]
   match R,hR with
   | [r0,r1,r2,r3,r4,r5,r6,r7,r8,r9,r10,r11,r12,r13,r14,r15,r16,r17],_ =>
    unfold dA
    by_cases c:x < L
    ·rw [if_pos c]
     simp_arith [kU,decide_eq_true c,hs,b8,if_true]
    ·rw [if_neg c]
     simp_arith [kU,decide_eq_false c,hs,xt,if_false]
  have eg:ah 21 (.int x) (R++[.d (.int L),.d (.int G),.own (cs.map PyData.int),J])=some (R++[.d (.int L),.d (.int G),.own (cs.map PyData.int),.d (.int x)]):=by
   match R,hR with
   | [r0,r1,r2,r3,r4,r5,r6,r7,r8,r9,r10,r11,r12,r13,r14,r15,r16,r17],_=>rfl
  rw [wf,eW,eg,Tr.of_some,Tr.ret_bind,fZ,et,Tr.ret_bind,eD,e,xx]
  rfl
theorem ZmU (s:Shp) (L G:Int):(ak (-s.depth) s.n).map (dA (L,G))=bB s (dP s L G):=by
 unfold bB ak
 rw [wu]
 refine wR λk _=>?_
 show dA (L,G) (-s.depth+(k:Int))=dA (L,G) ((k:Int) - s.depth)
 rw [show -s.depth+(k:Int)=(k:Int) - s.depth by omega]
theorem sQ {s:Shp} {one:Aj} (c:Cs s one) (J2 J3 J6 J7 J8 J9 J10 J11 J12 J13 J14 J15 J16 J17 J18 J19 J20 J21:Sl):Al (sR [.un,.pen,J2,J3,.d s.d,.d (tI one),J6,J7,J8,J9,J10,J11,J12,J13,J14,J15,J16,J17,J18,J19,J20,J21]) 40 λo=>∃ K3 K4 K5 K6 K7 K8 K9 K10 K11 K12 K13 K14 K15 K16 K17 K18 K19 K20 K21:Sl,o=.next [.un,.pen,J2,K3,K4,K5,K6,K7,K8,K9,K10,K11,K12,K13,K14,K15,K16,K17,K18,K19,K20,K21]:=by
 have h:=c.dr.ok
 have hn:=h.n_eq
 have t0:=h.t0
 have d0:=h.d0
 have td:=c.td
 have n8:=c.n8
 obtain ⟨lv,L⟩:=c.lst
 have rp:=ZkX c
 have e1:=L.e
 rw [ZdF] at e1
 have sp:=dq L.r
 have ns:=Zbh L.r c.s13
 have k:=Zm2 L.r L.st
 have nz:∀ {t:Int},nb 1702 t->nb 208 (cT t (aJ s one lv)).2/\nb 1702 (cT t (aJ s one lv)).1:=λht=>by
  obtain ⟨a,b⟩:=t3 ht ns (by omega)
  exact ⟨b,a⟩
 have hm:=nz (Zac L.r (show 0 < s.n by omega))
 have hw:∀ p∈bW s one lv,nb 208 p.2/\nb 1702 p.1:=λp hp=>by
  unfold bW at hp
  obtain ⟨x,hx,rfl⟩:=wL.mp hp
  have:=fj hx
  exact nz (jU L.r x (by omega) (by omega))
 have sw:∀ p∈bW s one lv,IsSh p:=λp hp=>by
  unfold bW at hp
  obtain ⟨x,_,rfl⟩:=wL.mp hp
  exact gH sp
 have l1:=rQ s one lv
 have nu:=ZcZ L.r
 unfold dW at e1
 simp_arith [sR,bi,mU rp,e1]
 refine cM (n:=39) (by decide) (by decide) (by decide) λa a0 a1=>?_
 try simp_arith [bi]
 refine cM (n:=38) (by decide) (by decide) (by decide) λb b0 b1=>?_
 have hb:nb 5 ((a - 4,1+b):Int×Int).2/\nb 5 ((a - 4,1+b):Int×Int).1:=⟨bP (by show -32 < 1+b; omega) (by show 1+b < 32; omega),bP (by show -32 < a - 4; omega) (by show a - 4 < 32; omega)⟩
 have bp:0 < ((a - 4,1+b):Int×Int).2:=by show 0 < 1+b; omega
 have eb:PyData.tuple [.int (a - 4),.int (1+b)]=shr (a - 4,1+b):=rfl
 have hsm:small ((bW s one lv).map shr).length=true:=b7 (by rw [v7]; omega)
 have emv:=oY (h:=cu (ah 0) ow [.un,.d (shr (a - 4,1+b))]) (D:=shr) (F:=λp=>shr (cY p (a - 4,1+b))) (l:=bW s one lv) λp hp=>by
  have f1:=aH (hw p hp).1 (by decide)
  have f2:=aH (hw p hp).2 (by decide)
  have f3:=aH hb.1 (by decide)
  have f4:=aH hb.2 (by decide)
  have f5:nb 300 (p.2 * (1+b)):=aT (bJ (hw p hp).1 hb.1) (by decide)
  have es:=Zog (t:=p.1 * (1+b)+(a - 4) * p.2) (b:=p.2 * (1+b)) (wV (sw p hp).pos bp) (aT f5 (by decide))
  simp_arith [ow,shr,f1,f2,f3,f4,es]
  rfl
 have emv2:((bW s one lv).map λp=>shr (cY p (a - 4,1+b)))=((bW s one lv).map (cY · (a - 4,1+b))).map shr:=by rw [wu]; rfl
 rw [emv2] at emv
 have hw3:∀ p∈(bW s one lv).map (cY · (a - 4,1+b)),nb 230 p.2/\nb 1800 p.1:=λp hp=>by
  obtain ⟨q,hq,rfl⟩:=wL.mp hp
  exact Zmz (sw q hq).pos bp (hw q hq) hb
 have sw3:∀ p∈(bW s one lv).map (cY · (a - 4,1+b)),IsSh p:=λp hp=>by
  obtain ⟨q,hq,rfl⟩:=wL.mp hp
  exact Zmy (sw q hq).pos bp
 have l3:((bW s one lv).map (cY · (a - 4,1+b))).length=s.n:=by rw [v7,l1]
 have nm:=Zmp h l1 (λp hp=>(sw p hp).pos) bp nu
 have ec:=ZhX h (by omega) c.B (ws:=(bW s one lv).map (cY · (a - 4,1+b))) (λp hp=>⟨(sw3 p hp).pos,hw3 p hp⟩) l3
 have ek:=ZhV (one:=one) (A:=bH s (((bW s one lv).map (cY · (a - 4,1+b))).map (ovr (bK 1 ((bW s one lv).map (cY · (a - 4,1+b))))))) (D:=bK 1 ((bW s one lv).map (cY · (a - 4,1+b)))) h (by omega)
 have emk:=Zdm (one:=one) h l3 (λp hp=>(sw3 p hp).pos) nm.D0 nm.w (A':=wB s one lv) (D':=aJ s one lv) (c:=((a - 4,1+b):Int×Int).2) (t:=((a - 4,1+b):Int×Int).1 * aJ s one lv) bp rfl (λx _ _=>rfl)
 rw [emk] at ek
 have eDM:bX (gV s one (wB s one lv) (aJ s one lv)) s.top (kV s one (aJ s one lv)) (-s.depth)=bX (gB s one lv) s.top (kB s one lv) (-s.depth):=rfl
 rw [eDM] at ek
 have ez:0 - s.depth=-s.depth:=by omega
 obtain ⟨kn,ekn⟩:∃ k:Nat,s.top+s.depth=(k:Int):=⟨(s.top+s.depth).toNat,by omega⟩
 have ek1:(kn:Int)+1=((kn+1:Nat):Int):=rfl
 have dmr:gt (bX (gB s one lv) s.top (kB s one lv) (-s.depth))=true:=Zdo (by omega) (by omega) (by omega)
 have rule:∀ {X Y:Int},bX (gB s one lv) s.top (kB s one lv) (-s.depth)=mks X Y->kF [.d s.d,.d (tI one),.d (tI (bB s (dP s X Y)))]=.ret (.d (c5 (zB s one lv 0) (aJ s one lv)))/\gD [.d s.d,.d (tI one),.d (.tuple [shr (cT (zB s one lv 0) (aJ s one lv)),.tuple (((bW s one lv).map (cY · (a - 4,1+b))).map shr),tI (bB s (dP s X Y))])]=.ret (.d (.bool true)):=λ{X Y} he=>by
  have rm:=Zdp L.r he
  have em:=Zoc rm
  rw [ZmQ L.r L.st he] at em
  refine ⟨em,?_⟩
  have hv:lG s (bB s (dP s X Y)):=λi hi=>by
   rw [pj hi]
   rw [jz] at hi
   exact ⟨rm.lo i hi,rm.hi i hi⟩
  have kp:LkP s one (cT (zB s one lv 0) (aJ s one lv)) ((bW s one lv).map (cY · (a - 4,1+b))) (bB s (dP s X Y)):=ZdK h l3 (jz _ _) k.sm sw3 hv nm λi hi=>by
   rw [pj hi]
   rw [jz] at hi
   have k1:=t4 L.r L.st he hi
   have k2:=t5 h (one:=one) (A:=λz=>((a - 4,1+b):Int×Int).2 * wB s one lv z) (B:=wB s one lv) (D:=((a - 4,1+b):Int×Int).2 * aJ s one lv) (D':=aJ s one lv) (c:=1) (e:=((a - 4,1+b):Int×Int).2) (M:=((a - 4,1+b):Int×Int).2 * zB s one lv 0) (M':=zB s one lv 0) (by decide) bp (by omega) (by omega) (λz _ _=>by omega) (x:=(i:Int) - s.depth) (y:=dP s X Y i) (by omega) (by omega) (rm.hi i hi) k1
   exact Zm1 _ k2
  have:=Zm7 c ⟨aT hm.1 (by decide),aT hm.2 (by decide)⟩ hw3 l3 (jz _ _) sw3 hv kp
  unfold dW at this
  exact this
 obtain ⟨lm,rm,sm,em⟩:=ZhU c
 rw [Zdl rm L.r sm L.st] at em
 have hmk:=ZmE (g:=gB s one lv) (top:=s.top) (K:=kB s one lv) (least:=-s.depth) (by omega)
 generalize hDM:bX (gB s one lv) s.top (kB s one lv) (-s.depth)=DM at *
 generalize hW3:(bW s one lv).map (cY · (a - 4,1+b))=W3 at *
 simp_arith [bi,eb,hsm,emv,ec,ez,ek,ekn,ek1]
 refine eZ (n:=3 * (kn+1)) (n':=0) (Zbl (many:=kn+1) (k:=kn) (by omega) (by omega)) (by omega) ?_
 rintro _ ⟨ot,rfl,hot⟩
 have c2:=hot.cs c.dr c.td (by omega) (by omega)
 obtain ⟨lv2,L2'⟩:=c2.lst
 have e2:=L2'.e
 have sp2:=dq L2'.r
 have ns2:=Zbh L2'.r c2.s13
 have hw2:∀ p∈bW s ot lv2,0 < p.2/\nb 230 p.2/\nb 1800 p.1:=λp hp=>by
  unfold bW at hp
  obtain ⟨x,hx,rfl⟩:=wL.mp hp
  have:=fj hx
  obtain ⟨q1,q2⟩:=t3 (jU L2'.r x (by omega) (by omega)) ns2 (by omega)
  exact ⟨(gH sp2).pos,aT q2 (by decide),aT q1 (by decide)⟩
 have ec2:=ZhX h (by omega) c2.B hw2 (rQ s ot lv2)
 have ek2:=ZhV (one:=ot) (A:=bH s ((bW s ot lv2).map (ovr (bK 1 (bW s ot lv2))))) (D:=bK 1 (bW s ot lv2)) h (by omega)
 have nu2:=ZcZ L2'.r
 have emk2:=Zdm (one:=ot) h (rQ s ot lv2) (λp hp=>(hw2 p hp).1) nu2.D0 nu2.w (A':=wB s ot lv2) (D':=aJ s ot lv2) (c:=1) (t:=0) (by decide) (by omega) (λx _ _=>by omega)
 rw [emk2] at ek2
 have eDM2:bX (gV s ot (wB s ot lv2) (aJ s ot lv2)) s.top (kV s ot (aJ s ot lv2)) (-s.depth)=bX (gB s ot lv2) s.top (kB s ot lv2) (-s.depth):=rfl
 rw [eDM2] at ek2
 have dmr2:gt (bX (gB s ot lv2) s.top (kB s ot lv2) (-s.depth))=true:=Zdo (by omega) (by omega) (by omega)
 obtain ⟨lm2,rm2,sm2,em2⟩:=ZhU c2
 rw [Zdl rm2 L2'.r sm2 L2'.st] at em2
 generalize bX (gB s ot lv2) s.top (kB s ot lv2) (-s.depth)=DM2 at *
 simp_arith [bi,e2,ZmW,ec2,ek2]
 simp_arith [eW,um,bi,em,em2,mU dmr,mU dmr2,nT,wK]
 rcases hmk with ⟨X,Y,rfl⟩ | ⟨X,Y,rfl⟩
 ·obtain ⟨q1,q2⟩:=rule rfl
  have r1:gT [.int (-s.depth),.int (s.top+1)]=.ret ((ak (-s.depth) s.n).map PyData.int):=mT (dB (by omega) (by omega)) (dB (by omega) (by omega))
  have i0:aR ao (mks X Y) (.int 0)=.ret (.str "marks"):=by unfold mks; rw [eX,jH]; rfl
  have s1:gQ (mks X Y) (some 1) none=.ret (.tuple [.int X,.int Y]):=rfl
  have ne1:aR cD (c5 (zB s one lv 0) (aJ s one lv)) (shr (cT (zB s one lv 0) (aJ s one lv)))=.ret (.bool false):=Zmw _ _
  have eT:PyData.tuple ((bB s (dP s X Y)).map PyData.int)=tI (bB s (dP s X Y)):=rfl
  have b1:(!(true == true))=false:=rfl
  obtain ⟨KL,lr⟩:=lr2 [.un,.pen,J2,J3,.d s.d,.d (tI one),.d (.str (PyData.tuple [s.d,tI one]).shown),.d (shr (cT (zB s one lv 0) (aJ s one lv))),.d (.tuple ((bW s one lv).map shr)),.d (tI (bB s lv)),.d (shr (a - 4,1+b)),.d (.tuple (W3.map shr)),.d (mks X Y),.d (.int kn),.d (tI ot),.d DM2,.d (tI one),.d (mks X Y)] X Y rfl (ak (-s.depth) s.n) [] J21 (by rw [dU]; show 0+s.n<=200; omega)
  simp only [yO,xK,xv,ZmU] at lr
  simp_arith [bi,i0,nT,s1,ez,r1,lr]
  simp_arith [bi,eT,q1,q2,ne1,b1,mU rp,nT,wK]
  exact dE ⟨_,_,_,_,_,_,_,_,_,_,_,_,_,_,_,_,_,_,_,rfl⟩
 ·have i0:aR ao (mkn X Y) (.int 0)=.ret (.str "none"):=by unfold mkn; rw [eX,jH]; rfl
  have es:((Str.ofString "none" == Str.ofString "marks"):Bool)=false:=by trivial
  simp_arith [bi,i0,es,mU rp,nT,wK]
  exact dE ⟨_,_,_,_,_,_,_,_,_,_,_,_,_,_,_,_,_,_,_,rfl⟩
theorem turn (J2 J3 J4 J5 J6 J7 J8 J9 J10 J11 J12 J13 J14 J15 J16 J17 J18 J19 J20 J21:Sl):Al (ul [.un,.pen,J2,J3,J4,J5,J6,J7,J8,J9,J10,J11,J12,J13,J14,J15,J16,J17,J18,J19,J20,J21]) 120 λo=>∃ K3 K4 K5 K6 K7 K8 K9 K10 K11 K12 K13 K14 K15 K16 K17 K18 K19 K20 K21:Sl,o=.next [.un,.pen,J2,K3,K4,K5,K6,K7,K8,K9,K10,K11,K12,K13,K14,K15,K16,K17,K18,K19,K20,K21]:=by
 have e:ul=aj (aQ 3 (ay (av cr (bC 1 (ad (aC (.int 4)) aq)))))
   (aj (di (bh (aw (ah 4) (aw (ah 5) bf))) (ay (av mG (bC 1 (ad (aC (.int 6)) aq)))))
   (aj (bZ (bu (ac (cV λi j=>decide (i < j)) (aa 3) (aC (.int 2)))) (aQ 4 (ay (av mE (bC 1 (ad (aa 4) aq))))) bY)
   (aj (bZ (bu (ac cR (aa 3) (aC (.int 2)))) (di (bh (aw (ah 4) (aw (ah 5) bf))) (ay (av mD (bC 1 aq)))) bY) sR))):=rfl
 rw [e]
 simp_arith [bi]
 refine cM (n:=119) (by decide) (by decide) (by decide) λw w0 w1=>?_
 try simp_arith [bi]
 refine eZ (n:=60) (n':=59) (ZkL (few:=6) (by decide) (by decide)) (by decide) ?_
 rintro _ ⟨s,one,rfl,c⟩
 by_cases c1:w < 2
 ·have c2:(w == 2)=false:=beq_eq_false_iff_ne.mpr (by omega)
  simp_arith [bi,decide_eq_true c1]
  refine eZ (n:=5) (n':=54) (ZkK c) (by decide) ?_
  rintro _ ⟨s',rfl,c'⟩
  simp_arith [bi,c2]
  exact nn (sQ c' _ _ _ _ _ _ _ _ _ _ _ _ _ _ _ _ _ _) (by decide) λo h=>h
 ·by_cases c3:w=2
  ·have c2:(w == 2)=true:=by rw [c3]; rfl
   simp_arith [bi,decide_eq_false c1,c2]
   refine eZ (n:=12) (n':=47) ZkJ (by decide) ?_
   rintro _ ⟨s',one',rfl,c'⟩
   simp_arith [bi]
   exact nn (sQ c' _ _ _ _ _ _ _ _ _ _ _ _ _ _ _ _ _ _) (by decide) λo h=>h
  ·have c2:(w == 2)=false:=beq_eq_false_iff_ne.mpr c3
   simp_arith [bi,decide_eq_false c1,c2]
   exact nn (sQ c _ _ _ _ _ _ _ _ _ _ _ _ _ _ _ _ _ _) (by decide) λo h=>h
theorem law_true:Al (o8 ue) 2000 λo=>o=.ret (.d (.bool true)):=by
 have r3:fE [.int 4]=.ret (aN 0 4):=ia rfl
 simp_arith [o8,ue,bi,r3]
 refine eZ (n:=480) (n':=0) (P:=λo=>∃ ρ,o=.next ρ) ?_ (by decide) ?_
 ·refine Zqs (n:=120) (λρ=>∃ J2 J3 J4 J5 J6 J7 J8 J9 J10 J11 J12 J13 J14 J15 J16 J17 J18 J19 J20 J21:Sl,ρ=[.un,.pen,J2,J3,J4,J5,J6,J7,J8,J9,J10,J11,J12,J13,J14,J15,J16,J17,J18,J19,J20,J21]) ⟨_,_,_,_,_,_,_,_,_,_,_,_,_,_,_,_,_,_,_,_,rfl⟩ (by rw [cS]; decide) ?_ (λρ _=>⟨ρ,rfl⟩)
  rintro x ρ hx ⟨J2,J3,J4,J5,J6,J7,J8,J9,J10,J11,J12,J13,J14,J15,J16,J17,J18,J19,J20,J21,rfl⟩
  refine ⟨_,rfl,nn (turn (.d x) J3 J4 J5 J6 J7 J8 J9 J10 J11 J12 J13 J14 J15 J16 J17 J18 J19 J20 J21) (wa _) ?_⟩
  rintro _ ⟨K3,K4,K5,K6,K7,K8,K9,K10,K11,K12,K13,K14,K15,K16,K17,K18,K19,K20,K21,rfl⟩
  exact ⟨_,rfl,_,_,_,_,_,_,_,_,_,_,_,_,_,_,_,_,_,_,_,_,rfl⟩
 ·rintro _ ⟨ρ,rfl⟩
  simp_arith [bi]
  exact dE rfl
end My
set_option Elab.async false
set_option linter.all false
set_option maxRecDepth 100000
open PySem.W L2
theorem My.g_mk {K:zZ} {mg:Ao} {h:Heap} (X:K.In h) (G:h.Ns mainGlobals mg) {n:Str} {v:Int} {t:Tok} (z:PySem.W.nsIn K mainGlobals n=some (some (.int v t))):∃ t,mg n=some (.int v t):=⟨_,PySem.W.mg_of X G z⟩
set_option maxRecDepth 100000 in
set_option maxHeartbeats 0 in
theorem PySem.Challenge.cw_twomarks_k41_marks_for_ever_holds : PySem.Challenge.rw_twomarks_k41_marks_for_ever.Holds := by
 refine My.hd ?_
 k_fill
 refine L2.Zjm (l:=PySem.Challenge.rw_twomarks_k41_marks_for_ever) (n:=63) (k:=8) (x:="_law_script") (CX:=iq) (sp:=L2.ZaP) rfl (by decide) rfl ⟨rfl,by decide,by decide,rfl⟩ (λw h Y=>PySem.W.kIn_of Y) ?F ?S ?C
 case F =>
  intro w mg fa h KX G hmg
  have T:My.Txt (L2.KOf KX) mg:=by
   dsimp only [L2.KOf]
   constructor
   all_goals first
    | (refine PySem.W.mg_none_of KX G ?_; k_is)
    | (refine' My.g_mk KX G ?z; (case z=>k_is))
    | (refine' L2.Zoz KX G ?a ?l ?c ?k ?b; (case a=>k_is); (case l=>k_is); (case c=>k_is); (case k=>k_is); (case b=>intro _ _ _ _ _ _ us hl; first | (obtain ⟨_,rfl⟩:=L2.ZdS hl; rfl) | (obtain ⟨_,_,rfl⟩:=L2.ZdR hl; rfl) | (obtain ⟨_,_,_,rfl⟩:=L2.ZdQ hl; rfl) | (obtain ⟨_,_,_,_,rfl⟩:=L2.ZdP hl; rfl) | (obtain ⟨_,_,_,_,_,rfl⟩:=L2.Znc hl; rfl)))
  obtain ⟨f,fd,F,hm,_⟩:=T.ZoQ.ex
  have e0:=hmg.symm.trans hm
  cases e0
  refine ⟨fd,?_,λbase _ _=>My.Zmf T F (L2.Tr.ok_mono (L2.Tr.all_ok My.law_true.out (by decide)) λ_ _ h=>h.2)⟩
  obtain ⟨oc,od,kV,doc,pm,an,cdv,ct,osl,rfl,lk,hcd⟩:=F.ex
  exact λs u=>.of_eq rfl
 case S=>exact λK H a ns hl _ hS=>⟨a,ns,rfl,hS,hl,λ_=>rfl⟩
 case C=>exact λ_ _ _ _ z=>z
