import PyProof.Rows.All
import Wide.All
import OpenK.AllK
import Wide.FinOn
import Lean
import PyProof.EqAt
import PyProof.EqKinds
import PyProof.TupleCall
import PySem.Challenge.RW_twomarks_k40_whole_no_rule_beats_the_mea
set_option Elab.async false
set_option linter.all false
set_option maxRecDepth 100000
set_option maxHeartbeats 0
noncomputable abbrev My.vw : PySem.Program := PySem.W.view
 PySem.Challenge.rw_twomarks_k40_whole_no_rule_beats_the_mea.row.prog [1, 2, 3, 5, 6, 8, 9, 10, 11, 12, 13, 14, 15, 16, 17, 18, 19, 20, 21, 22, 23, 25, 26, 27, 28, 30, 31, 32, 33, 34, 36, 37, 38, 39, 41, 42, 43, 44, 45, 46, 48, 50, 51, 52, 53, 55, 56, 57, 58, 59, 60, 61, 62, 63, 64, 65, 66, 67, 68, 69, 70]
open PySem PySem.W in
theorem My.hd_l {p q:Program} {loose:List Str} {Xt:Shared->Bool} {α:Type} {Yf:Shared->α} {Ya:World->α} {N:Nat} (a:∀ w,(openEnds treeTable p w N).map (λs=>openSeen q loose (importedModules p.main.body) Xt true s)=some (openGood q loose)) (b:∀ w,(openEnds treeTable p w N).map Yf=some (Ya w)):LeftO p q loose Xt Yf Ya N:=λw=>by
 have h:=a w
 have g:=b w
 cases e:openEnds treeTable p w N with
 | none=>rw [e] at h;exact nomatch h
 | some s=>rw [e,Option.map_some] at h g;rw [Option.map_some,Option.some.inj h,Option.some.inj g]
theorem My.hd_b {A B C H:Prop} (f:A->B->C->H) (p:A∧B∧C):H:=f p.1 p.2.1 p.2.2
local macro_rules
 | `(tactic| o_head $H:term) => `(tactic| (
  refine My.hd_b (λa b c => PySem.W.holds_open (q := My.vw) (loose := [])
   (Xt := λs => PySem.W.xlAt My.vw [] s && PySem.W.recOk
    (PySem.W.RowW.records PySem.Challenge.rw_twomarks_k40_whole_no_rule_beats_the_mea.row.toRowW) s)
   (XP := PySem.W.XL My.vw []) (Yf := ($H).obs)
   (Ya := ($H).val) (YP := ($H).says) (N := 20000) (My.hd_l a b)
   ($H).of ($H).keeps (λs e => PySem.W.xl_of s
    (Bool.and_eq_true_iff.mp e).1) PySem.W.XL.keeps
   (by rfl) (by rfl) (by rfl)
   (λs e => PySem.W.recFacts_of
    (Bool.and_eq_true_iff.mp e).2)
   (by rfl) ?k1 (by decide +kernel)
   ⟨rfl, rfl, rfl, rfl, rfl, by decide +kernel⟩ ?hw c) ?hc
  (case k1 => assumption)))
open_top My.hd_0 for PySem.Challenge.rw_twomarks_k40_whole_no_rule_beats_the_mea
noncomputable def My.hd_1:=λb c=>My.hd_0 ⟨λw=>by kernel_rfl,b,c⟩
noncomputable def My.hd:=λc=>My.hd_1 (λw=>by kernel_rfl) c
set_option maxHeartbeats 4000000
open PySem PySem.Spec PyProof.Rows
def vc:=@PySem.Heap.get?_push_of_some
def vd:=@List.length_map
def ve:=@List.mem_cons_of_mem
def vf:=@List.getElem?_eq_some_iff
def vg:=@List.getElem?_map
def vn:=@PySem.Heap.get?_push_size
def vo:=@Nat.le_refl
def vp:=@List.length_cons
def vq:=@List.size_toArray
def vx:=@List.getElem?_eq_getElem
def vz:=@List.mem_append_right
def vA:=@Nat.lt_of_lt_of_le
def vC:=@List.map_cons
def vD:=@Bool.false_ne_true
def vE:=@PySem.Heap.lt_size
def vF:=@List.getElem?_range
def vG:=@Int.le_of_lt
def vH:=@List.map_map
def vI:=@List.getElem?_set_ne
def vJ:=@List.mem_cons
def vK:=@Int.mul_le_mul_of_nonneg_left
def vL:=@Int.mul_le_mul_of_nonneg_right
def vM:=@Nat.ne_of_lt
def vN:=@Int.le_refl
def vO:=@List.getElem?_set_self
def vP:=@List.replicate_succ
def vQ:=@Int.mul_pos
def vR:=@PySem.PassesOwn.never
def vS:=@Nat.le_trans
def vT:=@List.lookup_cons
def vU:=@Bool.and_eq_true
def vV:=@Nat.lt_irrefl
def vW:=@List.getElem?_replicate
def vX:=@Option.some.inj
def vY:=@List.getElem?_eq_none
def vZ:=@Bool.not_true
def v3:=@Int.toNat_natCast
def v4:=@List.map_congr_left
def v5:=@List.getElem?_append_right
def v6:=@List.length_append
def v7:=@List.mem_range
def v8:=@List.getElem?_append_left
def v9:=@List.length_range
def wa:=@List.flatten_cons
def wb:=@List.length_reverse
def wc:=@List.length_set
def we:=@PySem.Heap.size_push
def wf:=@PySem.Heap.get?_update_other
def wj:=@Nat.ne_of_gt
def wk:=@List.mem_append_left
def wl:=@PySem.W.kia_one
def wm:=@List.drop_eq_getElem_cons
def wn:=@List.append_nil
def wo:=@Bool.not_false
def wp:=@PyProof.Rows.callWith_type1
def wq:=@List.mem_cons_self
def wt:=@Int.mul_add
def wu:=@List.mem_of_getElem?
def wv:=@List.mem_map
def ww:=@List.getElem_mem
def wx:=@Int.ne_of_gt
def wy:=@Int.eq_of_mul_eq_mul_right
def wz:=@PySem.mem_of_lookup
def wA:=@Int.mul_nonneg
def wC:=@List.map_append
def wD:=@Int.mul_comm
def wE:=@Nat.pos_of_ne_zero
def wF:=@PySem.F.plainAttrs_list
def wG:=@List.length_nil
def wH:=@PySem.Around.under_plainId
def wI:=@Int.le_of_mul_le_mul_right
def wJ:=@Int.fdiv_eq_ediv_of_nonneg
def wK:=@List.length_drop
def wL:=@List.drop_length
def wM:=@PySem.F.slot_int_rmul
def wN:=@Nat.lt_of_le_of_lt
def wO:=@Int.emod_lt_of_pos
def wP:=@Int.natAbs_mul
def wQ:=@PyProof.Rows.slot_tuple_getitem
def wR:=@PySem.PyData.tuple.injEq
def wS:=@List.mem_append
def wT:=@List.ext_getElem?
def wU:=@PySem.Heap.get?_update_self
def wV:=@Int.mul_zero
def wW:=@Bool.false_and
def wX:=@List.length_replicate
def wY:=@List.getElem?_reverse
def wZ:=@Int.emod_nonneg
def w6:=@PySem.F.plain_min_loop
def w8:=@List.sum_cons
def xa:=@List.append_assoc
def xb:=@PySem.Obj.data_mapFields
def xc:=@Int.mul_lt_mul_of_pos_left
def xf:=@List.length_take
def xg:=@Nat.zero_le
def xh:=@PySem.F.type_list_append
def xi:=@PySem.F.slot_list_append
def xj:=@PySem.F.slot_tuple_iterator_next
def xk:=@List.find?_cons
def xl:=@Bool.true_and
def xm:=@PySem.Heap.SameBut.update
def xn:=@PySem.PyData.hasDict_of_canLay
def xo:=@Option.map_eq_some_iff
def xp:=@Nat.lt_succ_of_lt
def xq:=@List.reverse_cons
def xr:=@List.isEmpty_cons
def xt:=@Nat.le_of_lt
def xu:=@Nat.le_of_not_lt
def xv:=@List.all_eq_true
def xw:=@PySem.SeqAt.canLay_of_shaped
def xx:=@List.range_succ
def xz:=@List.length_zip
def xA:=@List.cons.injEq
def xB:=@Bool.eq_iff_iff
def xC:=@Nat.add_comm
def xD:=@List.map_nil
def xE:=@Int.le_of_eq
def xF:=@Bool.false_eq_true
def xG:=@List.drop_zero
def xH:=@Int.lt_of_mul_lt_mul_left
def xI:=@Int.le_of_mul_le_mul_left
def xJ:=@Int.eq_of_mul_eq_mul_left
def xK:=@Classical.byContradiction
def xL:=@PySem.F.args_tuple_mul_2
def xM:=@PySem.F.args_tuple_add_2
def xN:=@Nat.le_of_succ_le
def xO:=@Int.mul_ediv_cancel_left
def xP:=@Bool.not_eq_true'
def xQ:=@PySem.F.entry_tuple_mul
def xR:=@PySem.F.entry_tuple_add
def xS:=@PySem.F.args_int_rmul_2
def xT:=@List.getElem?_cons_succ
def xU:=@Int.mul_one
def xV:=@Int.eq_ofNat_of_zero_le
def xW:=@Nat.lt_succ_self
def xX:=@PySem.F.slot_tuple_mul
def xY:=@PySem.F.slot_tuple_add
def xZ:=@PySem.F.entry_int_rmul
def x0:=@PySem.F.fills_int_mul
def x6:=@Nat.succ_mul
def x8:=@Nat.min_eq_left
def x9:=@Nat.gcd_comm
def ya:=@List.nodup_cons
def yb:=@List.nil_append
def yc:=@List.forIn_cons
def ye:=@Int.zero_add
def yf:=@Int.le_trans
def yg:=@Nat.pow_le_pow_right
def yh:=@List.mem_of_mem_drop
def yi:=@Nat.mul_le_mul
def yj:=@List.length_pos_iff
def yk:=@List.filterMap_cons
def yl:=@List.drop_eq_getElem?_toList_append
def ym:=@Function.comp_apply
def yn:=@Array.length_toList
def yo:=@PySem.Obj.isFreed_of_fields
def yp:=@List.zip_cons_cons
def yq:=@List.all_cons
def yr:=@Int.dvd_trans
def yt:=@PySem.F.slot_zip_next
def yu:=@PySem.W.kitx_dict
def yv:=@Nat.Coprime.dvd_of_dvd_mul_left
def yw:=@PySem.F.args_object_init_2
def yx:=@Int.add_zero
def yy:=@Nat.min_le_right
def yz:=@List.take_length
def yA:=@List.not_mem_nil
def yB:=@PySem.Paired.length
def yC:=@List.of_mem_zip
def yD:=@List.foldl_cons
def yE:=@Int.one_mul
def yF:=@Int.natCast_add
def yG:=@Int.mul_eq_zero
def yH:=@Int.ediv_nonneg
def yI:=@Int.add_mul
def yJ:=@Int.fmod_eq_emod_of_nonneg
def yK:=@Array.getElem?_eq_some_iff
def yL:=@PySem.F.type_list_reverse
def yM:=@PySem.F.slot_list_reverse
def yN:=@List.getElem?_zip_eq_some
def yO:=@List.getElem?_eq_none_iff
def yP:=@List.forIn_nil
def yQ:=@Bool.and_false
def yR:=@Nat.gcd_pos_of_pos_right
def yS:=@Lean.Omega.Int.ofNat_min
def yT:=@Int.not_le
def yU:=@Int.mul_fdiv_cancel_left
def yV:=@List.any_cons
def yW:=@Int.mul_assoc
def yX:=@PySem.F.entry_min_loop
abbrev yY:=PySem.W.Frag
abbrev zc:=PyData->PyData->Option PyData
abbrev zd:=Value->Shared->Prop
abbrev ze:=List PyData
abbrev zf:=List Int
abbrev zg:=List Value
abbrev zh:=List Str
abbrev zj:=Str->Option Value
local macro_rules | `(tactic| trivial) => `(tactic| first | decide +kernel | exact ⟨rfl,rfl,rfl,by decide +kernel,rfl,by decide +kernel,by decide +kernel⟩ | exact ⟨rfl,by decide +kernel,by decide +kernel,by decide +kernel,by decide +kernel⟩ | fail "x")
namespace L2
noncomputable abbrev aM:=Sum Int Str
noncomputable def kf:aM->Value->Bool
 | .inl k,v=>Value.isInt k v
 | .inr x,v=>Value.isStrOf x v
noncomputable def Znm (w:World):aM->Int
 | .inl k=>hashInt k
 | .inr x=>hashStr w x
theorem gM:∀ {k:aM} {v:Value},kf k v=true->(∃ i t,k=Sum.inl i/\v=Value.int i t)\/(∃ x t,k=Sum.inr x/\v=Value.str x t)
 | .inl i,v,h=>by
  obtain ⟨t,e⟩:=Value.isInt_shape (k:=i) (v:=v) h
  exact .inl ⟨i,t,rfl,e⟩
 | .inr x,v,h=>by
  obtain ⟨t,e⟩:=Value.isStrOf_shape (x:=x) (v:=v) h
  exact .inr ⟨x,t,rfl,e⟩
theorem Znl (i:Int) (t:Tok):kf (.inl i) (.int i t)=true:=by simp [kf,Value.isInt]
theorem Znk (x:Str) (t:Tok):kf (.inr x) (.str x t)=true:=by simp [kf,Value.isStrOf]
theorem Znj (a b:Int):decide ((Sum.inl a:aM)=Sum.inl b)=(a == b):=by
 by_cases e:a=b
 ·subst e; simp
 ·have h:¬ (Sum.inl a:aM)=Sum.inl b:=λq=>e (Sum.inl.inj q)
  rw [decide_eq_false h]
  exact (beq_eq_false_iff_ne.mpr e).symm
theorem Zng (a b:Str):decide ((Sum.inr a:aM)=Sum.inr b)=decide (a=b):=by
 by_cases e:a=b
 ·subst e; simp
 ·have h:¬ (Sum.inr a:aM)=Sum.inr b:=λq=>e (Sum.inr.inj q)
  rw [decide_eq_false h,decide_eq_false e]
theorem Zni (a:Int) (b:Str):decide ((Sum.inl a:aM)=Sum.inr b)=false:=decide_eq_false (λq=>nomatch q)
theorem Znh (a:Str) (b:Int):decide ((Sum.inr a:aM)=Sum.inl b)=false:=decide_eq_false (λq=>nomatch q)
noncomputable def dw (prog:Program) (w:World):PySem.KeyKind prog w aM where
 is:=kf
 hash:=Znm w
 inj:=λv a b ha hb=>by
  rcases gM ha with ⟨i,t,rfl,rfl⟩ | ⟨x,t,rfl,rfl⟩
  ·rcases gM hb with ⟨j,u,rfl,e⟩ | ⟨y,u,rfl,e⟩
   ·injection e with e1 _; rw [e1]
   ·exact nomatch e
  ·rcases gM hb with ⟨j,u,rfl,e⟩ | ⟨y,u,rfl,e⟩
   ·exact nomatch e
   ·injection e with e1 _; rw [e1]
 byValue:=λk v h=>by
  rcases gM h with ⟨i,t,rfl,rfl⟩ | ⟨x,t,rfl,rfl⟩ <;> rfl
 pyHash:=λhv h=>by
  rcases gM hv with ⟨i,t,rfl,rfl⟩ | ⟨x,t,rfl,rfl⟩
  ·exact wpAny_pyHash_int h
  ·exact wpAny_pyHash_str h
 eqBool:=λhu hv h=>by
  rcases gM hu with ⟨i,t,rfl,rfl⟩ | ⟨x,t,rfl,rfl⟩
  ·rcases gM hv with ⟨j,u,rfl,rfl⟩ | ⟨y,u,rfl,rfl⟩
   ·rw [Znj] at h; exact wpAny_eqBool_int h
   ·rw [Zni] at h; exact SeqAt.EqAt.int_str i t y u _ _ _ _ h
  ·rcases gM hv with ⟨j,u,rfl,rfl⟩ | ⟨y,u,rfl,rfl⟩
   ·rw [Znh] at h; exact SeqAt.EqAt.str_int x t j u _ _ _ _ h
   ·rw [Zng] at h; exact wpAny_eqBool_str h
 «strs»:=λk x t v h=>by
  rcases gM h with ⟨i,u,rfl,e⟩ | ⟨y,u,rfl,e⟩
  ·exact nomatch e
  ·injection e with e1 _
   subst e1
   cases v <;> rfl
theorem ZmD (prog:Program) (w:World) (i:Int) (t:Tok):(dw prog w).is (.inl i) (.int i t)=true:=Znl i t
theorem ZmC (prog:Program) (w:World) (x:Str) (t:Tok):(dw prog w).is (.inr x) (.str x t)=true:=Znk x t
inductive V where
 | non | bl (b:Bool) | int (i:Int) | str (x:Str) | byt (b:Array UInt8) | flt (b:UInt64) | ref (a:Addr) | ty (n:String)
 deriving DecidableEq
abbrev zi:=List V
noncomputable def RelV:V->Value->Prop
 | .non,u=>u=Value.none
 | .bl b,u=>u=Value.bool b
 | .int i,u=>∃ t,u=Value.int i t
 | .str x,u=>∃ t,u=Value.str x t
 | .byt b,u=>∃ t,u=Value.bytes b t
 | .flt b,u=>∃ t,u=Value.float b t
 | .ref a,u=>u=Value.ref a
 | .ty n,u=>u=Value.type n
noncomputable abbrev Vals:List V->List Value->Prop:=Paired RelV
theorem Vals.length {xs:zi} {us:zg} (r:Vals xs us):xs.length=us.length:=yB r
theorem Vals.get {xs:zi} {us:zg} {i:Nat} {x:V} (h:Vals xs us) (e:xs[i]?=some x):∃ u,us[i]?=some u/\RelV x u:=by
 induction h generalizing i with
 | nil=>cases e
 | cons r t ih=>cases i with | zero=>cases e; exact ⟨_,rfl,r⟩ | succ i=>exact ih (i:=i) e
theorem Vals.set {x:V} {u:Value} (r:RelV x u) {xs:zi} {us:zg} (i:Nat) (h:Vals xs us):Vals (xs.set i x) (us.set i u):=by
 induction h generalizing i with
 | nil=>exact .nil
 | cons q t ih=>cases i with | zero=>exact .cons r t | succ i=>exact .cons q (ih i)
theorem Vals.append {xs ys:zi} {us ws:zg} (h:Vals xs us) (s:Vals ys ws):Vals (xs++ys) (us++ws):=by
 induction h with
 | nil=>exact s
 | cons r t ih=>exact .cons r ih
theorem Vals.take {xs:zi} {us:zg} (n:Nat) (h:Vals xs us):Vals (xs.take n) (us.take n):=by
 induction h generalizing n with
 | nil=>rw [List.take_nil,List.take_nil]; exact .nil
 | cons r t ih=>cases n with | zero=>exact .nil | succ n=>exact .cons r (ih n)
theorem Vals.drop {xs:zi} {us:zg} (n:Nat) (h:Vals xs us):Vals (xs.drop n) (us.drop n):=by
 induction h generalizing n with
 | nil=>rw [List.drop_nil,List.drop_nil]; exact .nil
 | cons r t ih=>cases n with | zero=>exact .cons r t | succ n=>exact ih n
theorem Vals.none_of:∀ {xs:zi} {us:zg} {i:Nat},Vals xs us->xs[i]?=none->us[i]?=none:=λ{xs us i} r e=>by
 have h1:=r.length
 have h2:xs.length<=i:=yO.mp e
 exact yO.mpr (by omega)
noncomputable def RelO:Option V->Option Value->Prop
 | some v,some u=>RelV v u
 | none,none=>True
 | _,_=>False
noncomputable def KV {κ:Type}:List (κ×V)->List (κ×Value)->Prop:=Paired λ(p:κ×V) (q:κ×Value)=>p.1=q.1/\RelV p.2 q.2
noncomputable def kV:aM->V
 | .inl i=>.int i
 | .inr x=>.str x
inductive HO where
 /-- a list -/
 | lst (xs:zi)
 /-- a tuple (never changes) -/
 | tup (xs:zi)
 /-- a dict whose keys are ints and texts; one whose keys are tuples of ints and texts (the empty one is both) -/
 | dK (kvs:List (aM×V)) | dT (kvs:List (List aM×V))
 /-- a set of ints: its members,its size -/
 | set (S:Int->Bool) (n:Nat)
 /-- an instance of the class at C,its dict at dx,its attributes -/
 | ins (C dx:Addr) (fs:List (Str×V))
 /-- the dict of the instance at x -/
 | own (x:Addr)
 /-- the dict of an exception -/
 | xd (fs:List (Str×V))
 /-- a bound method,f of x -/
 | met (f x:Addr)
 /-- a range object lo,lo+1,.. below hi -/
 | rng (lo hi:Int)
 /-- a thing that is known to the object (the script; a dict while a loop walks it): read,never written while it is so -/
 | frz (o:Obj) (u:HO)
 /-- a code object's table -/
 | tbl (ps:Array Value)
 /-- any other thing,by what is true of its one object (a def of one's own: SetO a S n:=HO.ext λh=>..) -/
 | ext (φ:Heap->Prop)
noncomputable abbrev Hp:=Addr->Option HO
noncomputable def upd (H:Hp) (a:Addr) (o:HO):Hp:=λb=>if b=a then some o else H b
theorem ce {H:Hp} {a:Addr} {o:HO}:upd H a o a=some o:=by unfold upd; rw [if_pos rfl]
theorem aV {H:Hp} {a b:Addr} {o:HO} (h:b≠a):upd H a o b=H b:=by unfold upd; rw [if_neg h]
theorem lC {H:Hp} {a b:Addr} {o u:HO} (h:H a=some o) (h':H b=some u) (d:o≠u):a≠b:=by
 intro e; subst e; rw [h] at h'; exact d (vX h')
theorem cT {H:Hp} {a b:Addr} {o:HO} (h:H a=some o) (h':H b=none):a≠b:=by
 intro e; subst e; rw [h] at h'; cases h'
section
variable (P:Program) (w:World)
noncomputable def ObjOk (H:Hp) (h:Heap) (a:Addr):HO->Prop
 | .lst xs=>xs.length<=sizeLine/\∃ (its:zg) (n:Nat),Vals xs its/\h.get? a=some { cls:=.type "list",data:=.seq its.toArray n }
 | .tup xs=>xs.length<=sizeLine/\∃ its:zg,Vals xs its/\IsTup h a its.toArray
 | .dK kvs=>kvs.length<=sizeLine/\(a == sysModules)=false/\∃ vs,KV kvs vs/\h.DictOf (dw P w) a vs
 | .dT kvs=>kvs.length<=sizeLine/\(a == sysModules)=false/\∃ xs:List (List aM×Addr×Value),
   Paired (λ(p:List aM×V) (q:List aM×Addr×Value)=>p.1=q.1/\H q.2.1=some (.tup (p.1.map kV))/\RelV p.2 q.2.2) kvs xs /\
   ∃ o es ep,h.get? a=some o/\o.ExactDict/\o.data=.dict es ep/\es.toList=xs.map (entryOfKey (tupleKind (dw P w)))/\(xs.map (·.1)).Nodup
 | .set S n=>h.SetOf (intKind P w) a S n
 | .ins C dx fs=>H dx=some (.own a)/\fs.length<=1000/\dx≠a/\h.get? a=some (PySem.W.instObj C dx) /\
   ∃ mA,h.Ns1 dx mA/\(∀ f,RelO (fs.lookup f) (mA f))/\PySem.Within mA (fs.map (·.1))
 | .own _=>∃ o,h.get? a=some o
 | .xd fs=>∃ mA,h.Ns1 a mA/\∀ f,RelO (fs.lookup f) (mA f)
 | .rng lo hi=>∃ t u v,h.get? a=some { cls:=.type "range",data:=.fields #[.int lo t,.int hi u,.int 1 v] }
 | .frz o u=>h.get? a=some o/\ObjOk H h a u
 | .tbl ps=>h.get? a=some { cls:=.none,data:=.fields ps }
 | .met f x=>h.get? a=some (PySem.W.methodObj (.ref f) (.ref x))
 | .ext φ=>φ h/\(∃ o,h.get? a=some o)/\∀ h1 h2:Heap,φ h1->(∀ o,h1.get? a=some o->h2.get? a=some o)->φ h2
def HOk (H:Hp) (h:Heap):Prop:=∀ a o,H a=some o->ObjOk P w H h a o
end
section
variable {P:Program} {w:World} {H H':Hp} {h h':Heap} {a:Addr} {o:HO}
theorem ObjOk.lt (x:ObjOk P w H h a o):a < h.objs.size:=by
 cases o with
 | lst xs=>obtain ⟨_,_,_,_,e⟩:=x; exact vE e
 | tup xs=>obtain ⟨_,_,_,p⟩:=x; exact p.lt
 | dK kvs=>obtain ⟨_,_,_,_,o,_,_,e,_⟩:=x; exact vE e
 | dT kvs=>obtain ⟨_,_,_,_,o,_,_,e,_⟩:=x; exact vE e
 | set S n=>obtain ⟨o,_,_,_,e,_⟩:=x; exact vE e
 | ins C dx fs=>obtain ⟨_,_,_,e,_⟩:=x; exact vE e
 | own y=>obtain ⟨_,e⟩:=x; exact vE e
 | xd fs=>obtain ⟨_,⟨_,_,_,e,_⟩,_⟩:=x; exact vE e
 | rng lo hi=>obtain ⟨_,_,_,e⟩:=x; exact vE e
 | frz ob u=>obtain ⟨e,_⟩:=x; exact vE e
 | tbl ps=>exact vE (show h.get? a=some _ from x)
 | met f y=>exact vE (show h.get? a=some _ from x)
 | ext φ=>obtain ⟨_,⟨_,e⟩,_⟩:=x; exact vE e
theorem Paired.mapP {α β:Type} {F G:α->β->Prop} {l₁:List α} {l₂:List β} (h:Paired F l₁ l₂) (f:∀ a b,F a b->G a b):Paired G l₁ l₂:=by
 induction h with
 | nil=>exact .nil
 | cons r t ih=>exact .cons (f _ _ r) ih
theorem ObjOk.stay (x:ObjOk P w H h a o) (k:∀ b u,(b=a\/H b=some (.own a))->h.get? b=some u->h'.get? b=some u)
  (ho:∀ b,H b=some (.own a)->H' b=some (.own a)) (ht:∀ b xs,H b=some (.tup xs)->H' b=some (.tup xs)):ObjOk P w H' h' a o:=by
 induction o with
 | lst xs=>obtain ⟨z,its,n,r,e⟩:=x; exact ⟨z,its,n,r,k _ _ (.inl rfl) e⟩
 | tup xs=>obtain ⟨z,its,r,ob,e,c⟩:=x; exact ⟨z,its,r,ob,k _ _ (.inl rfl) e,c⟩
 | dK kvs=>obtain ⟨z,y,vs,r,ob,es,ep,e,c⟩:=x; exact ⟨z,y,vs,r,ob,es,ep,k _ _ (.inl rfl) e,c⟩
 | dT kvs =>
  obtain ⟨z,y,xs,r,ob,es,ep,e,c⟩:=x
  exact ⟨z,y,xs,Paired.mapP r λp q z=>⟨z.1,ht _ _ z.2.1,z.2.2⟩,ob,es,ep,k _ _ (.inl rfl) e,c⟩
 | set S n=>obtain ⟨ob,es,ep,t,e,c⟩:=x; exact ⟨ob,es,ep,t,k _ _ (.inl rfl) e,c⟩
 | ins C dx fs =>
  obtain ⟨d,z,ne,e,mA,⟨od,es,ep,e2,c⟩,r⟩:=x
  exact ⟨ho _ d,z,ne,k _ _ (.inl rfl) e,mA,⟨od,es,ep,k _ _ (.inr d) e2,c⟩,r⟩
 | own y=>obtain ⟨ob,e⟩:=x; exact ⟨ob,k _ _ (.inl rfl) e⟩
 | xd fs=>obtain ⟨mA,⟨od,es,ep,e,c⟩,r⟩:=x; exact ⟨mA,⟨od,es,ep,k _ _ (.inl rfl) e,c⟩,r⟩
 | rng lo hi=>obtain ⟨t,u,v,e⟩:=x; exact ⟨t,u,v,k _ _ (.inl rfl) e⟩
 | frz ob u ih=>obtain ⟨e,q⟩:=x; exact ⟨k _ _ (.inl rfl) e,ih q⟩
 | tbl ps =>
  have e:h.get? a=some { cls:=.none,data:=.fields ps }:=x
  show h'.get? a=some { cls:=.none,data:=.fields ps }
  exact k a _ (.inl rfl) e
 | met f y =>
  have e:h.get? a=some (PySem.W.methodObj (.ref f) (.ref y)):=x
  show h'.get? a=some (PySem.W.methodObj (.ref f) (.ref y))
  exact k a _ (.inl rfl) e
 | ext φ=>obtain ⟨p,⟨o,e⟩,st⟩:=x; exact ⟨st _ _ p λo q=>k _ _ (.inl rfl) q,⟨o,k _ _ (.inl rfl) e⟩,st⟩
theorem HOk.lt (x:HOk P w H h) (e:H a=some o):a < h.objs.size:=(x a o e).lt
theorem HOk.fresh (x:HOk P w H h) (e:h.objs.size<=a):H a=none:=by
 cases q:H a with
 | none=>rfl
 | some u=>exact absurd (vA (x.lt q) e) (vV _)
theorem HOk.kept (x:HOk P w H h) (k:∀ b u,h.get? b=some u->h'.get? b=some u):HOk P w H h':=λa o e =>
 (x a o e).stay (λb u _ q=>k b u q) (λ_ q=>q) λ_ _ q=>q
theorem HOk.laid (x:HOk P w H h) (k:∀ b u,h.get? b=some u->h'.get? b=some u) (hp:h.objs.size<=a) (new:ObjOk P w (upd H a o) h' a o):HOk P w (upd H a o) h':=λb u e=>by
 have hn:=x.fresh hp
 by_cases hb:b=a
 ·subst hb; rw [ce] at e; cases e; exact new
 ·rw [aV hb] at e
  exact (x b u e).stay (λc v _ q=>k c v q) (λc q=>by rw [aV (cT q hn)]; exact q) λc xs q=>by rw [aV (cT q hn)]; exact q
end
def Rd (H:Hp) (a:Addr) (u:HO):Prop:=H a=some u\/∃ o,H a=some (.frz o u)
theorem Rd.ok {P:Program} {w:World} {H:Hp} {h:Heap} {a:Addr} {u:HO} (r:Rd H a u) (x:HOk P w H h):ObjOk P w H h a u:=by
 rcases r with r | ⟨o,r⟩
 ·exact x a u r
 ·obtain ⟨_,q⟩:=x a _ r
  exact q
noncomputable def mM:Option HO->Prop
 | some (.lst _)=>True
 | some (.dK _)=>True
 | some (.dT _)=>True
 | some (.set _ _)=>True
 | some (.ins _ _ _)=>True
 | some (.ext _)=>True
 | _=>False
section
variable {P:Program} {w:World} {H:Hp} {h h':Heap} {x e:Addr} {o':HO}
theorem HOk.write (ok:HOk P w H h) (mu:mM (H x)) (he:e=x\/H e=some (.own x)) (k:∀ b u,b≠e->h.get? b=some u->h'.get? b=some u) (heo:∃ u,h'.get? e=some u)
  (new:ObjOk P w (upd H x o') h' x o'):HOk P w (upd H x o') h':=λb u q=>by
 have nown:∀ c y,H c=some (.own y)->c≠x:=λc y r z=>by subst z; rw [r] at mu; exact mu
 have ntup:∀ c xs,H c=some (.tup xs)->c≠x:=λc xs r z=>by subst z; rw [r] at mu; exact mu
 by_cases hb:b=x
 ·subst hb; rw [ce] at q; cases q; exact new
 ·rw [aV hb] at q
  by_cases hbe:b=e
  ·have q':H b=some (.own x):=by
    rcases he with z | z
    ·exact absurd (hbe.trans z) hb
    ·rw [hbe]; exact z
   rw [q] at q'; cases q'
   obtain ⟨v,hv⟩:=heo
   exact ⟨v,by rw [hbe]; exact hv⟩
  ·refine (ok b u q).stay (λc v hc r=>k c v ?_ r) (λc r=>by rw [aV (nown c b r)]; exact r) λc xs r=>by rw [aV (ntup c xs r)]; exact r
   rcases hc with rfl | hc
   ·exact hbe
   ·rintro rfl
    rcases he with z | z
    ·exact nown c b hc z
    ·rw [hc] at z; cases z; exact hb rfl
end
structure Un (fs ex:List Addr) (H H':Hp) (h h':Heap):Prop where
 keep:∀ b o,h.get? b=some o->H b=none->b ∉ fs->b ∉ ex->h'.get? b=some o
 slot:∀ b o,h.get? b=some o->H b=none->b∈fs->b ∉ ex->∃ sl,h'.get? b=some { o with slots:=sl }
 free:∀ b o,h.get? b=some o->H b=none->b ∉ ex->H' b=none
 there:∀ b o,h.get? b=some o->b ∉ ex->∃ o',h'.get? b=some o'
 tups:∀ b xs,H b=some (.tup xs)->H' b=some (.tup xs)
 frzs:∀ b o u,H b=some (.frz o u)->H' b=some (.frz o u)
 tbls:∀ b ps,H b=some (.tbl ps)->∃ more,H' b=some (.tbl (ps++more))
section
variable {fs fs' ex ex':List Addr} {H H1 H2:Hp} {h h1 h2 h':Heap} {a x e:Addr} {o:HO}
theorem Un.any (u:Un fs ex H H1 h h1) {b:Addr} {ob:Obj} (q:h.get? b=some ob) (n:H b=none) (hx:b ∉ ex):∃ sl,h1.get? b=some { ob with slots:=sl }:=by
 by_cases hb:b∈fs
 ·exact u.slot b ob q n hb hx
 ·exact ⟨ob.slots,u.keep b ob q n hb hx⟩
theorem Un.kept (k:∀ b u,h.get? b=some u->h'.get? b=some u):Un fs ex H H h h' :=
 ⟨λb ob q _ _ _=>k b ob q,λb ob q _ _ _=>⟨ob.slots,k b ob q⟩,λ_ _ _ n _=>n,λb ob q _=>⟨ob,k b ob q⟩,λ_ _ q=>q,λ_ _ _ q=>q,λ_ ps q=>⟨#[],by rw [q]; simp⟩⟩
theorem Un.refl:Un fs ex H H h h:=Un.kept λ_ _ q=>q
theorem Un.laid (k:∀ b u,h.get? b=some u->h'.get? b=some u) (hp:h.objs.size<=a) (hn:H a=none):Un fs ex H (upd H a o) h h' where
 keep:=λb u q _ _ _=>k b u q
 slot:=λb u q _ _ _=>⟨u.slots,k b u q⟩
 free:=λb u q n _=>by rw [aV (vM (vA (vE q) hp))]; exact n
 there:=λb u q _=>⟨u,k b u q⟩
 tups:=λb xs q=>by rw [aV (cT q hn)]; exact q
 frzs:=λb u xs q=>by rw [aV (cT q hn)]; exact q
 tbls:=λb ps q=>⟨#[],by rw [aV (cT q hn),q]; simp⟩
theorem Un.write (mu:mM (H x)) (he:e=x\/H e=some (.own x)) (k:∀ b u,b≠e->h.get? b=some u->h'.get? b=some u) (heo:∃ u,h'.get? e=some u):Un fs ex H (upd H x o) h h':=by
 have hx:∀ b,H b=none->b≠x:=λb n z=>by subst z; rw [n] at mu; exact mu
 have hb:∀ b,H b=none->b≠e:=λb n z=>by
  subst z
  rcases he with r | r
  ·exact hx b n r
  ·rw [n] at r; cases r
 have hm:∀ b u,H b=some u->¬ mM (some u)->b≠x:=λb u q nm z=>by subst z; rw [q] at mu; exact nm mu
 refine ⟨λb u q n _ _=>k b u (hb b n) q,λb u q n _ _=>⟨u.slots,k b u (hb b n) q⟩,λb u q n _=>by rw [aV (hx b n)]; exact n,λb u q _=>?_,
  λb xs q=>by rw [aV (hm b _ q λz=>z)]; exact q,λb u xs q=>by rw [aV (hm b _ q λz=>z)]; exact q,λb ps q=>⟨#[],by rw [aV (hm b _ q λz=>z),q]; simp⟩⟩
 by_cases hbe:b=e
 ·subst hbe; exact heo
 ·exact ⟨u,k b u hbe q⟩
end
noncomputable def trk (h:Heap) (H:Hp):List Addr:=(List.range h.objs.size).filter λa=>(H a).isSome
noncomputable def gN (h:Heap) (H:Hp):Heap:=PySem.W.hideAll h (trk h H)
theorem ZnA (h:Heap) (H:Hp):(gN h H).objs.size=h.objs.size:=PySem.W.hideAll_size _ _
theorem ZnB {h:Heap} {H:Hp} {b:Addr} {o:Obj} (e:h.get? b=some o) (n:H b=none):(gN h H).get? b=some o :=
 PySem.W.hideAll_get _ e λhm=>by
  have q:(H b).isSome=true:=(List.mem_filter.mp hm).2
  rw [n] at q; simp at q
theorem Zmi {h:Heap} {H:Hp} {b:Addr} {o:Obj} (e:(gN h H).get? b=some o):h.get? b=some o/\H b=none:=by
 have e':h.get? b=some o:=PySem.W.of_hideAll (trk h H) e
 refine ⟨e',?_⟩
 cases q:H b with
 | none=>rfl
 | some x =>
  have hm:b∈trk h H:=List.mem_filter.mpr ⟨v7.mpr (vE e'),by simp [q]⟩
  have z:(gN h H).get? b=none:=PySem.W.hideAll_none (trk h H) hm
  rw [z] at e; cases e
noncomputable def Zqz (g h:Heap) (L:Addr):List (Addr×Obj):=(List.range h.objs.size).filterMap λa=>if a=L\/(g.get? a).isSome=true then none else (h.get? a).map λo=>(a,o)
noncomputable def rest (g h:Heap) (L d:Addr):List (Addr×Obj):=(Zqz g h L).filter λp=>decide (p.1≠d)
structure Mod (K:yY) (mg:zj) (base:Heap):Prop where
 kin:K.In base
 glob:base.Ns mainGlobals mg
 blt:∃ mb,base.Ns builtinsNs mb/\∀ x:Str,x≠"__name__"->mb x=bootBuiltins x
 nolimit:base.NoLimit
 nodig:base.NoDigits
structure Cx where
 prog:Program
 w:World
 K:yY
 mg:zj
 base:Heap
 A:Around
 N:zh
 s₀:Shared
 H₀:Hp
 env:Env
 outer:List Env
 stack:List Env
 ex:List Addr
 fn:Str->Bool
 calm:Bool
 pn:List (Addr×Obj)
 xe:zd
noncomputable def frs (l:List Env):List Addr:=l.filterMap (·.frame)
noncomputable abbrev Cx.fs (X:Cx):List Addr:=frs X.outer
def p7 (sc:Scope) (x:Str):Prop:=sc.names.lookup x=some .local\/sc.names.lookup x=some .cell\/sc.names.lookup x=some .free
def jx (sc:Scope) (x:Str):Prop:=sc.names.lookup x=some .local\/sc.names.lookup x=some .cell
noncomputable def Zrz (env:Env) (h:Heap) (m:zj) (x:Str) (u:Value):Prop :=
 (env.kindOf x=some .local/\m x=some u)\/((env.kindOf x=some .cell\/env.kindOf x=some .free)/\∃ c,env.cells.lookup x=some c/\h.IsCell c (some u))
structure Cx.Ok (X:Cx):Prop where
 mod:Mod X.K X.mg X.base
 kind:X.env.scope.kind=.function
 glob:X.env.globals=mainGlobals
 blt:X.env.builtins=builtinsNs
 above:X.s₀.heap.objs.size<=X.env.locals
 inj:∀ x y c,X.env.cells.lookup x=some c->X.env.cells.lookup y=some c->x=y
 has:∀ x,(X.env.kindOf x=some .cell\/X.env.kindOf x=some .free)->∃ c,X.env.cells.lookup x=some c
 cab:∀ x c,X.fn x=true->X.env.cells.lookup x=some c->X.s₀.heap.objs.size<=c
 hd:X.calm=true->X.A.handled=none
 frames:X.A.frames=some X.stack
 stk:X.stack=X.outer\/(X.stack=X.env::X.outer/\X.env.frame=some X.env.locals)
 exf:∀ b∈X.ex,b≠X.env.locals/\∀ x c,X.env.cells.lookup x=some c->c≠b
 bs:∀ b o,X.base.get? b=some o->X.s₀.heap.get? b=some o/\X.H₀ b=none
 bsz:X.base.objs.size<=X.s₀.heap.objs.size
 noex:∀ b o,X.base.get? b=some o->b ∉ X.ex
 exfs:∀ b∈X.ex,b ∉ X.fs
 funs:X.s₀.heap.FunFrames X.base X.outer
 frf:∀ b∈X.fs,X.H₀ b=none
structure Inv (X:Cx) (pins:List (Addr×Obj)) (σ:List (Option V)) (H:Hp) (s:Shared):Prop where
 ok:X.Ok
 os:s.os=X.s₀.os
 bare:AllBare s.gens
 base:Un X.fs X.ex X.H₀ H X.s₀.heap s.heap
 loc:∃ m,s.heap.Ns X.env.locals m/\∀ (i:Nat) (x:Str) (v:V),X.N[i]?=some x->σ[i]?=some (some v)->p7 X.env.scope x->∃ u,RelV v u/\Zrz X.env s.heap m x u
 cell:∀ x c,X.env.cells.lookup x=some c->∃ v,s.heap.IsCell c v
 free:H X.env.locals=none
 freeC:∀ x c,X.env.cells.lookup x=some c->H c=none
 pin:∀ p∈X.pn++pins,s.heap.get? p.1=some p.2/\H p.1=none/\p.1≠X.env.locals/\p.1 ∉ X.fs/\∀ v,p.2.data≠.cell v
 hok:HOk X.prog X.w H s.heap
 len:σ.length=X.N.length
section
variable {X:Cx} {pins:List (Addr×Obj)} {σ:List (Option V)} {H H':Hp} {s:Shared} {h':Heap}
theorem Cx.Ok.nofr (ok:X.Ok) {b:Addr} {o:Obj} (e:X.base.get? b=some o):b ∉ X.fs:=λhb=>by
 have:=(ok.funs.mem hb).1
 rw [e] at this; cases this
theorem Inv.bs (I:Inv X pins σ H s):∀ b o,X.base.get? b=some o->s.heap.get? b=some o/\H b=none:=λb o e =>
 ⟨I.base.keep b o (I.ok.bs b o e).1 (I.ok.bs b o e).2 (I.ok.nofr e) (I.ok.noex b o e),I.base.free b o (I.ok.bs b o e).1 (I.ok.bs b o e).2 (I.ok.noex b o e)⟩
theorem Inv.bk (I:Inv X pins σ H s):∀ b o,X.base.get? b=some o->s.heap.get? b=some o:=λb o e=>(I.bs b o e).1
theorem Inv.mod (I:Inv X pins σ H s):Mod X.K X.mg X.base:=I.ok.mod
theorem Inv.kIn (I:Inv X pins σ H s):X.K.In s.heap:=I.ok.mod.kin.keeps I.bk
theorem Inv.lt (I:Inv X pins σ H s):X.env.locals < s.heap.objs.size:=let ⟨_,hn,_⟩:=I.loc; hn.lt
theorem Inv.sz (I:Inv X pins σ H s):X.s₀.heap.objs.size<=s.heap.objs.size:=vS I.ok.above (xt I.lt)
theorem Inv.nofs (I:Inv X pins σ H s) {a:Addr} (h:s.heap.objs.size<=a):a ∉ X.fs:=λhb=>by
 obtain ⟨_,o,ho,_⟩:=I.ok.funs.mem hb
 exact absurd (vA (vE ho) (vS I.sz h)) (vV _)
theorem Inv.cne (I:Inv X pins σ H s):∀ x c,X.env.cells.lookup x=some c->c≠X.env.locals:=λx c e z=>by
 obtain ⟨v,o,ho,hd⟩:=I.cell x c e
 obtain ⟨m,⟨o',es,ep,ho',hd',_⟩,_⟩:=I.loc
 rw [z,ho'] at ho; cases ho; rw [hd'] at hd; cases hd
theorem Inv.funs (I:Inv X pins σ H s):s.heap.FunFrames X.base X.outer:=by
 have all:∀ (l:List Env),(∀ b∈frs l,b∈X.fs)->X.s₀.heap.FunFrames X.base l->s.heap.FunFrames X.base l:=by
  intro l
  induction l with
  | nil=>intro _ _; trivial
  | cons env r ih =>
   intro hs hl
   obtain ⟨hk,⟨L,o,hf,hn,ho,hd⟩,hr⟩:=hl
   have hL:L∈X.fs:=hs L (by unfold frs; rw [yk,hf]; exact wq)
   obtain ⟨sl,e⟩:=I.base.slot L o ho (I.ok.frf L hL) hL λz=>I.ok.exfs L z hL
   exact ⟨hk,⟨L,_,hf,hn,e,hd⟩,ih (λb hb=>hs b (by unfold frs; rw [yk,hf]; exact ve _ hb)) hr⟩
 exact all X.outer (λ_ hb=>hb) I.ok.funs
theorem Inv.stack (I:Inv X pins σ H s):s.heap.FunFrames X.base X.stack:=by
 rcases I.ok.stk with e | ⟨e,hf⟩
 ·rw [e]; exact I.funs
 ·rw [e]
  obtain ⟨m,hn,_⟩:=I.loc
  refine .cons (by rw [I.ok.kind]; decide) hf hn ?_ I.funs
  exact Heap.get?_none_of_le (vS I.ok.bsz I.ok.above)
theorem Inv.stkSub (I:Inv X pins σ H s):∀ b∈frs X.stack,b∈X.env.locals::X.fs:=λb hb=>by
 rcases I.ok.stk with e | ⟨e,hf⟩
 ·rw [e] at hb; exact ve _ hb
 ·rw [e] at hb
  unfold frs at hb
  rw [yk,hf] at hb
  exact hb
theorem Inv.stkFree (I:Inv X pins σ H s):∀ b∈frs X.stack,H b=none:=λb hb=>by
 rcases vJ.mp (I.stkSub b hb) with e | hb
 ·rw [e]; exact I.free
 ·obtain ⟨_,o,ho,_⟩:=I.ok.funs.mem hb
  exact I.base.free b o ho (I.ok.frf b hb) λz=>I.ok.exfs b z hb
theorem Inv.step {g':Array GenState} {t':Nat} {d':Drawn} {ch:List Addr} (I:Inv X pins σ H s)
  (hch:∀ b∈ch,(b∈X.ex\/X.s₀.heap.objs.size<=b)/\b≠X.env.locals/\(∀ x c,X.env.cells.lookup x=some c->c≠b)/\∀ p∈X.pn++pins,p.1≠b)
  (keep:∀ b o,b≠X.env.locals->b ∉ X.fs->b ∉ ch->s.heap.get? b=some o->H b=none->h'.get? b=some o)
  (slot:∀ b o,b≠X.env.locals->b∈X.fs->b ∉ ch->s.heap.get? b=some o->H b=none->∃ sl,h'.get? b=some { o with slots:=sl }) (free:∀ b o,b ∉ ch->s.heap.get? b=some o->H b=none->H' b=none)
  (there:∀ b o,b ∉ ch->s.heap.get? b=some o->∃ o',h'.get? b=some o')
  (tups:∀ b xs,H b=some (.tup xs)->H' b=some (.tup xs)) (frzs:∀ b o u,H b=some (.frz o u)->H' b=some (.frz o u)) (tbls:∀ b ps,H b=some (.tbl ps)->∃ more,H' b=some (.tbl (ps++more)))
  (ns:∀ m,s.heap.Ns X.env.locals m->h'.Ns X.env.locals m) (hok:HOk X.prog X.w H' h') (hg:AllBare g') :
  Inv X pins σ H' { s with heap:=h',gens:=g',drawn:=d',toks:=t' }:=by
 have neL:∀ b o,X.s₀.heap.get? b=some o->b≠X.env.locals:=λb o e=>vM (vA (vE e) I.ok.above)
 have neC:∀ b o,X.s₀.heap.get? b=some o->b ∉ X.ex->b ∉ ch:=λb o e hx hb=>by
  rcases (hch b hb).1 with z | z
  ·exact hx z
  ·exact absurd (vA (vE e) z) (vV _)
 have cellK:∀ x c,X.env.cells.lookup x=some c->∀ v,s.heap.IsCell c v->h'.IsCell c v:=λx c e v hz0=>by
  obtain ⟨o,ho,hd⟩:=hz0
  have nch:c ∉ ch:=λz=>(hch c z).2.2.1 x c e rfl
  by_cases hc:c∈X.fs
  ·obtain ⟨sl,q⟩:=slot c o (I.cne x c e) hc nch ho (I.freeC x c e)
   exact ⟨_,q,hd⟩
  ·exact ⟨o,keep c o (I.cne x c e) hc nch ho (I.freeC x c e),hd⟩
 refine ⟨I.ok,I.os,hg,⟨λb o e n hb hx=>?_,λb o e n hb hx=>?_,λb o e n hx=>?_,λb o e hx=>?_,λb xs e=>tups b xs (I.base.tups b xs e),λb o xs e=>frzs b o xs (I.base.frzs b o xs e),λb ps e=>?_⟩,?_,λx c e=>?_,?_,λx c e=>?_,λp hp=>?_,hok,I.len⟩
 ·exact keep b o (neL b o e) hb (neC b o e hx) (I.base.keep b o e n hb hx) (I.base.free b o e n hx)
 ·obtain ⟨sl,e1⟩:=I.base.slot b o e n hb hx
  obtain ⟨sl',e2⟩:=slot b _ (neL b o e) hb (neC b o e hx) e1 (I.base.free b o e n hx)
  exact ⟨sl',e2⟩
 ·obtain ⟨o',e1⟩:=I.base.there b o e hx
  exact free b o' (neC b o e hx) e1 (I.base.free b o e n hx)
 ·obtain ⟨o',e1⟩:=I.base.there b o e hx
  exact there b o' (neC b o e hx) e1
 ·obtain ⟨m1,e1⟩:=I.base.tbls b ps e
  obtain ⟨m2,e2⟩:=tbls b _ e1
  exact ⟨m1++m2,by rw [e2,Array.append_assoc]⟩
 ·obtain ⟨m,hn,hl⟩:=I.loc
  refine ⟨m,ns m hn,λi x v e1 e2 e3=>?_⟩
  obtain ⟨u,r,l⟩:=hl i x v e1 e2 e3
  refine ⟨u,r,?_⟩
  rcases l with l | ⟨k,c,e,z⟩
  ·exact .inl l
  ·exact .inr ⟨k,c,e,cellK x c e _ z⟩
 ·obtain ⟨v,z⟩:=I.cell x c e
  exact ⟨v,cellK x c e v z⟩
 ·obtain ⟨m,⟨o,_,_,ho,_⟩,_⟩:=I.loc
  exact free _ o (λz=>(hch _ z).2.1 rfl) ho I.free
 ·obtain ⟨v,o,ho,hd⟩:=I.cell x c e
  exact free c o (λz=>(hch c z).2.2.1 x c e rfl) ho (I.freeC x c e)
 ·obtain ⟨e,n,ne,nf,d⟩:=I.pin p hp
  have nch:p.1 ∉ ch:=λz=>(hch p.1 z).2.2.2 p hp rfl
  exact ⟨keep p.1 p.2 ne nf nch e n,free p.1 p.2 nch e n,ne,nf,d⟩
theorem Inv.un {t':Nat} (I:Inv X pins σ H s) (u:Un X.fs [] H H' s.heap h') (hok:HOk X.prog X.w H' h'):Inv X pins σ H' { s with heap:=h',toks:=t' }:=by
 obtain ⟨m,⟨o,es,ep,ho,r⟩,_⟩:=id I.loc
 obtain ⟨sl,hL⟩:=u.any ho I.free (by simp)
 exact I.step (g':=s.gens) (d':=s.drawn) (ch:=[]) (λ_ z=>nomatch z) (λb o _ hb _ e n=>u.keep b o e n hb (by simp)) (λb o _ hb _ e n=>u.slot b o e n hb (by simp)) (λb o _ e n=>u.free b o e n (by simp)) (λb o _ e=>u.there b o e (by simp)) u.tups u.frzs u.tbls (λm' hm=>by
  obtain ⟨o',es',ep',ho',r'⟩:=hm
  rw [ho] at ho'; cases ho'
  exact ⟨_,es',ep',hL,r'⟩) hok I.bare
theorem Inv.call {g':Array GenState} {t':Nat} {d':Drawn} {ch:List Addr} (I:Inv X pins σ H s) (u:Un (frs X.stack) ch H H' s.heap h') (hok:HOk X.prog X.w H' h') (hg:AllBare g')
  (hch:∀ b∈ch,(b∈X.ex\/X.s₀.heap.objs.size<=b)/\b≠X.env.locals/\(∀ x c,X.env.cells.lookup x=some c->c≠b)/\∀ p∈X.pn++pins,p.1≠b) :
  Inv X pins σ H' { s with heap:=h',gens:=g',drawn:=d',toks:=t' }:=by
 obtain ⟨m,⟨o,es,ep,ho,r⟩,_⟩:=id I.loc
 obtain ⟨sl,hL⟩:=u.any ho I.free λz=>(hch _ z).2.1 rfl
 exact I.step (ch:=ch) hch (λb o hL hb hc e n=>u.keep b o e n (λz=>(vJ.mp (I.stkSub b z)).elim hL hb) hc) (λb o _ _ hc e n=>u.any e n hc) (λb o hc e n=>u.free b o e n hc) (λb o hc e=>u.there b o e hc) u.tups u.frzs u.tbls (λm' hm=>by
  obtain ⟨o',es',ep',ho',r'⟩:=hm
  rw [ho] at ho'; cases ho'
  exact ⟨_,es',ep',hL,r'⟩) hok hg
theorem Inv.turned {t':Nat} {it:Addr} (I:Inv X pins σ H s) (k:∀ b o,b≠it->s.heap.get? b=some o->h'.get? b=some o) (hn:H it=none) (hL:it≠X.env.locals)
  (h1:it∈X.ex\/X.s₀.heap.objs.size<=it) (h2:∀ x c,X.env.cells.lookup x=some c->c≠it) (h3:∀ p∈X.pn++pins,p.1≠it):Inv X pins σ H { s with heap:=h',toks:=t' }:=by
 have nit:∀ b u,H b=some u->b≠it:=λb u e z=>by rw [z,hn] at e; cases e
 refine I.step (g':=s.gens) (d':=s.drawn) (ch:=[it]) (λb hb=>?_) (λb o _ _ hc e _=>k b o (λz=>hc (by simp [z])) e) (λb o _ _ hc e _=>⟨o.slots,k b o (λz=>hc (by simp [z])) e⟩) (λ_ _ _ _ n=>n)
  (λb o hc e=>⟨o,k b o (λz=>hc (by simp [z])) e⟩) (λ_ _ e=>e) (λ_ _ _ e=>e) (λb ps e=>⟨#[],by rw [e]; simp⟩) (λm hm=>?_) (λb u e=>?_) I.bare
 ·have e:b=it:=by simpa using hb
  subst e
  exact ⟨h1,hL,h2,h3⟩
 ·obtain ⟨o,es,ep,ho,r⟩:=hm
  exact ⟨o,es,ep,k _ o (Ne.symm hL) ho,r⟩
 ·refine (I.hok b u e).stay (λc v hc q=>k c v ?_ q) (λ_ q=>q) λ_ _ q=>q
  rcases hc with z | z
  ·rw [z]; exact nit b u e
  ·exact nit c _ z
theorem Inv.tok (I:Inv X pins σ H s) (t:Nat):Inv X pins σ H { s with toks:=t }:=I.un (h':=s.heap) (t':=t) Un.refl I.hok
theorem Inv.kept {t':Nat} (I:Inv X pins σ H s) (k:∀ b u,s.heap.get? b=some u->h'.get? b=some u):Inv X pins σ H { s with heap:=h',toks:=t' }:=I.un (Un.kept k) (I.hok.kept k)
theorem Inv.laid {a:Addr} {o:HO} {t':Nat} (I:Inv X pins σ H s) (k:∀ b u,s.heap.get? b=some u->h'.get? b=some u) (hp:s.heap.objs.size<=a) (new:ObjOk X.prog X.w (upd H a o) h' a o) :
  Inv X pins σ (upd H a o) { s with heap:=h',toks:=t' }:=I.un (Un.laid k hp (I.hok.fresh hp)) (I.hok.laid k hp new)
theorem Inv.write {x e:Addr} {o:HO} {t':Nat} (I:Inv X pins σ H s) (mu:mM (H x)) (he:e=x\/H e=some (.own x)) (k:∀ b u,b≠e->s.heap.get? b=some u->h'.get? b=some u) (heo:∃ u,h'.get? e=some u)
  (new:ObjOk X.prog X.w (upd H x o) h' x o):Inv X pins σ (upd H x o) { s with heap:=h',toks:=t' }:=I.un (Un.write mu he k heo) (I.hok.write mu he k heo new)
theorem Inv.pins_of {pins':List (Addr×Obj)} (I:Inv X pins σ H s) (h:∀ p∈pins',s.heap.get? p.1=some p.2/\H p.1=none/\p.1≠X.env.locals/\p.1 ∉ X.fs/\∀ v,p.2.data≠.cell v):Inv X pins' σ H s :=
 ⟨I.ok,I.os,I.bare,I.base,I.loc,I.cell,I.free,I.freeC,λp hp=>(wS.mp hp).elim (λz=>I.pin p (wk _ z)) (h p),I.hok,I.len⟩
theorem ZcV {N:zh} (hN:N.Nodup) {i j:Nat} {x:Str} (a:N[i]?=some x) (b:N[j]?=some x):i=j:=by
 obtain ⟨h1,e1⟩:=vf.mp a
 obtain ⟨h2,e2⟩:=vf.mp b
 exact (List.getElem_inj hN).mp (e1.trans e2.symm)
theorem ZaH {M:Model} {A:Around} {E:zd} {i:Nat} {x:Str} {v:V} {u:Value} {Q:Unit->Shared->Prop} (I:Inv X pins σ H s) (hN:X.N.Nodup) (hi:X.N[i]?=some x) (hx:jx X.env.scope x) (r:RelV v u)
  (h:∀ s',Inv X pins (σ.set i (some v)) H s'->(∃ a,Heap.SameBut a s.heap s'.heap/\(a=X.env.locals\/X.env.cells.lookup x=some a))->Q () s') (hf:X.fn x=true\/X.env.scope.names.lookup x=some .local:=by first | exact .inl rfl | exact .inr rfl | assumption):wpAny M A (storeName X.env x u) Q E s:=by
 obtain ⟨m,hn,hl⟩:=id I.loc
 have hcls:(X.env.scope.kind == .class || (X.env.scope.kind == .module && X.env.locals != X.env.globals))=false:=by rw [I.ok.kind]; rfl
 have hiσ:i < σ.length:=by rw [I.len]; exact (vf.mp hi).1
 have cne:=I.cne
 have tracked:∀ {a:Addr} {h':Heap},(∃ o,s.heap.get? a=some o/\H a=none)->Heap.SameBut a s.heap h'->HOk X.prog X.w H h':=λ{a h'} ha hs b ob e=>by
  obtain ⟨_,_,hfree⟩:=ha
  refine (I.hok b ob e).stay (λc w' hc q=>(hs.2 c ?_).trans q) (λ_ q=>q) λ_ _ q=>q
  rintro rfl
  rcases hc with rfl | hc
  ·rw [hfree] at e; cases e
  ·rw [hfree] at hc; cases hc
 rcases hx with hk | hk
 ·refine wpAny_storeName_local hk hn (λh' hn' hs=>?_) hcls
  obtain ⟨oL,_,_,hoL,_⟩:=id hn
  refine h _ ⟨I.ok,I.os,I.bare,⟨λb o e n hb hx=>?_,λb o e n hb hx=>?_,I.base.free,λb o e hx=>?_,I.base.tups,I.base.frzs,I.base.tbls⟩,⟨_,hn',λj y v' e1 e2 e3=>?_⟩,λy c e=>?_,I.free,I.freeC,λp hp=>?_,tracked ⟨oL,hoL,I.free⟩ hs,by simpa using I.len⟩ ⟨_,hs,.inl rfl⟩
  ·exact (hs.2 b (vM (vA (vE e) I.ok.above))).trans (I.base.keep b o e n hb hx)
  ·obtain ⟨sl,e1⟩:=I.base.slot b o e n hb hx
   exact ⟨sl,(hs.2 b (vM (vA (vE e) I.ok.above))).trans e1⟩
  ·obtain ⟨o',e1⟩:=I.base.there b o e hx
   exact ⟨o',(hs.2 b (vM (vA (vE e) I.ok.above))).trans e1⟩
  ·by_cases hj:j=i
   ·subst hj
    rw [hi] at e1; cases e1
    rw [vO hiσ] at e2
    cases e2
    exact ⟨u,r,.inl ⟨hk,by simp⟩⟩
   ·rw [vI (Ne.symm hj)] at e2
    obtain ⟨u',r',q⟩:=hl j y v' e1 e2 e3
    refine ⟨u',r',?_⟩
    rcases q with ⟨k,e⟩ | ⟨k,c,e,z⟩
    ·refine .inl ⟨k,?_⟩
     have:y≠x:=λe=>hj (ZcV hN e1 (e ▸ hi))
     simp [this,e]
    ·exact .inr ⟨k,c,e,z.sameBut hs (cne y c e)⟩
  ·obtain ⟨w',z⟩:=I.cell y c e
   exact ⟨w',z.sameBut hs (cne y c e)⟩
  ·obtain ⟨e,n,ne,nf,d⟩:=I.pin p hp
   exact ⟨(hs.2 p.1 ne).trans e,n,ne,nf,d⟩
 ·have hfn:X.fn x=true:=by
   rcases hf with z | z
   ·exact z
   ·rw [z] at hk; cases hk
  obtain ⟨c,hc⟩:=I.ok.has x (.inl hk)
  obtain ⟨w',z⟩:=I.cell x c hc
  refine wpAny_storeName_cell I.ok.kind hk hc z (λh' hc' hs=>?_)
  obtain ⟨oc,hoc,hocd⟩:=id z
  refine h { s with heap:=h' } ⟨I.ok,I.os,I.bare,⟨λb o e n hb hx=>?_,λb o e n hb hx=>?_,I.base.free,λb o e hx=>?_,I.base.tups,I.base.frzs,I.base.tbls⟩,⟨m,hn.sameBut hs (Ne.symm (cne x c hc)),λj y v' e1 e2 e3=>?_⟩,λy c' e=>?_,I.free,I.freeC,λp hp=>?_,tracked ⟨oc,hoc,I.freeC x c hc⟩ hs,by simpa using I.len⟩ ⟨c,hs,.inr hc⟩
  ·exact (hs.2 b (vM (vA (vE e) (I.ok.cab x c hfn hc)))).trans (I.base.keep b o e n hb hx)
  ·obtain ⟨sl,e1⟩:=I.base.slot b o e n hb hx
   exact ⟨sl,(hs.2 b (vM (vA (vE e) (I.ok.cab x c hfn hc)))).trans e1⟩
  ·obtain ⟨o',e1⟩:=I.base.there b o e hx
   exact ⟨o',(hs.2 b (vM (vA (vE e) (I.ok.cab x c hfn hc)))).trans e1⟩
  ·by_cases hj:j=i
   ·subst hj
    rw [hi] at e1; cases e1
    rw [vO hiσ] at e2
    cases e2
    exact ⟨u,r,.inr ⟨.inl hk,c,hc,hc'⟩⟩
   ·rw [vI (Ne.symm hj)] at e2
    obtain ⟨u',r',q⟩:=hl j y v' e1 e2 e3
    refine ⟨u',r',?_⟩
    rcases q with q | ⟨k,c',e,z'⟩
    ·exact .inl q
    ·refine .inr ⟨k,c',e,z'.sameBut hs ?_⟩
     rintro rfl
     exact hj (ZcV hN e1 (I.ok.inj _ _ _ e hc ▸ hi))
  ·by_cases hcc:c'=c
   ·subst hcc; exact ⟨_,hc'⟩
   ·obtain ⟨w2,z2⟩:=I.cell y c' e
    exact ⟨w2,z2.sameBut hs hcc⟩
  ·obtain ⟨e,n,ne,nf,d⟩:=I.pin p hp
   refine ⟨(hs.2 p.1 ?_).trans e,n,ne,nf,d⟩
   intro q
   rw [q,hoc] at e
   have q':oc=p.2:=vX e
   exact d w' (by rw [<- q']; exact hocd)
theorem kS {M:Model} {A:Around} {E:zd} {i:Nat} {x:Str} {v:V} {u:Value} {Q:Unit->Shared->Prop} (I:Inv X pins σ H s) (hN:X.N.Nodup) (hi:X.N[i]?=some x) (hx:jx X.env.scope x) (r:RelV v u)
  (h:∀ s',Inv X pins (σ.set i (some v)) H s'->Q () s') (hf:X.fn x=true\/X.env.scope.names.lookup x=some .local:=by first | exact .inl rfl | exact .inr rfl | assumption):wpAny M A (storeName X.env x u) Q E s :=
 ZaH I hN hi hx r (λs' I' _=>h s' I') hf
theorem Inv.call' {s':Shared} {ch:List Addr} (I:Inv X pins σ H s) (ho:s'.os=s.os) (u:Un (frs X.stack) ch H H' s.heap s'.heap) (hok:HOk X.prog X.w H' s'.heap) (hg:AllBare s'.gens)
  (hch:∀ b∈ch,(b∈X.ex\/X.s₀.heap.objs.size<=b)/\b≠X.env.locals/\(∀ x c,X.env.cells.lookup x=some c->c≠b)/\∀ p∈X.pn++pins,p.1≠b):Inv X pins σ H' s':=by
 obtain ⟨h',g',d',t',o'⟩:=s'
 have e:o'=s.os:=ho
 subst e
 exact I.call (g':=g') (t':=t') (d':=d') u hok hg hch
end
noncomputable abbrev XK:=Value->Option Addr->Hp->Prop
noncomputable abbrev St:=List (Option V)
noncomputable abbrev VK:=V->Hp->Prop
noncomputable abbrev TE:=St->Hp->VK->Prop
noncomputable abbrev TT:=St->Hp->(Bool->Hp->Prop)->Prop
noncomputable abbrev TA:=St->Hp->(List V->Hp->Prop)->Prop
structure Ends where
 nx:St->Hp->Prop
 rt:VK
 bk:St->Hp->Prop:=λ_ _=>False
 ct:St->Hp->Prop:=λ_ _=>False
noncomputable abbrev TS:=Ends->St->Hp->Prop
def EP (X:Cx) (pins:List (Addr×Obj)) (σ:St) (Q:VK) (u:Value) (s':Shared):Prop:=∃ v H',Inv X pins σ H' s'/\RelV v u/\Q v H'
def TP (X:Cx) (pins:List (Addr×Obj)) (σ:St) (Q:Bool->Hp->Prop) (b:Bool) (s':Shared):Prop:=∃ H',Inv X pins σ H' s'/\Q b H'
def AP (X:Cx) (pins:List (Addr×Obj)) (σ:St) (Q:List V->Hp->Prop) (us:zg) (s':Shared):Prop:=∃ vs H',Inv X pins σ H' s'/\Vals vs us/\Q vs H'
noncomputable def SP (X:Cx) (pins:List (Addr×Obj)) (D:Ends) (f:Flow) (s':Shared):Prop :=
 match f with
 | .next=>∃ σ' H',Inv X pins σ' H' s'/\D.nx σ' H'
 | .brk=>∃ σ' H',Inv X pins σ' H' s'/\D.bk σ' H'
 | .cont=>∃ σ' H',Inv X pins σ' H' s'/\D.ct σ' H'
 | .ret u=>∃ v σ' H',Inv X pins σ' H' s'/\RelV v u/\D.rt v H'
noncomputable def PE (X:Cx) (e:Expr) (t:TE):Prop :=
 ∀ (pins:List (Addr×Obj)) (s:Shared) (σ:St) (H:Hp) (Q:VK),Inv X pins σ H s->t σ H Q->wpAny (model X.prog X.w) X.A (eval e X.env) (EP X pins σ Q) X.xe s
noncomputable def PT (X:Cx) (e:Expr) (t:TT):Prop :=
 ∀ (pins:List (Addr×Obj)) (s:Shared) (σ:St) (H:Hp) (Q:Bool->Hp->Prop),Inv X pins σ H s->t σ H Q->wpAny (model X.prog X.w) X.A (isTrue e X.env (eval e X.env)) (TP X pins σ Q) X.xe s
noncomputable def PW (X:Cx) (e:Expr) (t:TT):Prop :=
 ∀ (whole:Sem Value) (pins:List (Addr×Obj)) (s:Shared) (σ:St) (H:Hp) (Q:Bool->Hp->Prop),Inv X pins σ H s->t σ H Q->wpAny (model X.prog X.w) X.A (isTrue e X.env whole) (TP X pins σ Q) X.xe s
theorem PW.pt {X:Cx} {e:Expr} {t:TT} (h:PW X e t):PT X e t:=h _
noncomputable def PA (X:Cx) (es:List Expr) (t:TA):Prop :=
 ∀ (pos:Pos) (pins:List (Addr×Obj)) (s:Shared) (σ:St) (H:Hp) (Q:List V->Hp->Prop),Inv X pins σ H s->t σ H Q->wpAny (model X.prog X.w) X.A (spliced (backTo pos (starEach es X.env))) (AP X pins σ Q) X.xe s
noncomputable def PS (X:Cx) (st:Stmt) (t:TS):Prop :=
 ∀ (pins:List (Addr×Obj)) (s:Shared) (σ:St) (H:Hp) (D:Ends),Inv X pins σ H s->t D σ H->wpAny (model X.prog X.w) X.A (exec st X.env) (SP X pins D) X.xe s
noncomputable def PSs (X:Cx) (st:List Stmt) (t:TS):Prop :=
 ∀ (pins:List (Addr×Obj)) (s:Shared) (σ:St) (H:Hp) (D:Ends),Inv X pins σ H s->t D σ H->wpAny (model X.prog X.w) X.A (execs st X.env) (SP X pins D) X.xe s
theorem thn {α:Type} {t:Sem α} {Q Q':α->Shared->Prop} {M:Model} {A:Around} {E:zd} {s:Shared} (h:wpAny M A t Q E s) (hQ:∀ a s,Q a s->Q' a s):wpAny M A t Q' E s:=wpAny_mono h hQ λ_ _ x=>x
section
variable {X:Cx}
def fj (i:Nat):TE:=λσ H Q=>∃ v,σ[i]?=some (some v)/\Q v H
def tC (v:V):TE:=λ_ H Q=>Q v H
theorem ZlF {i:Nat} {x:Str} {pos:Pos} (hN:X.N[i]?=some x) (hv:p7 X.env.scope x) (hd:(x == ("__debug__":Str))=false:=by decide) (hcd:(x == ("__classdict__":Str))=false:=by decide):PE X (.Name x pos) (fj i):=by
 intro pins s σ H Q I h
 obtain ⟨v,e,h⟩:=h
 obtain ⟨m,hn,hl⟩:=I.loc
 obtain ⟨u,r,l⟩:=hl i x v hN e hv
 have fin:EP X pins σ Q u s:=⟨v,H,I,r,h⟩
 rcases l with ⟨hk,hm⟩ | ⟨hk,c,hc,hcell⟩
 ·exact wpAny_Name (wpAny_loadName_local I.ok.kind hk hn hm fin) hd
 ·rcases hk with hk | hk
  ·exact wpAny_Name (wpAny_loadName_cell I.ok.kind hk hc hcell fin) hd
  ·exact wpAny_Name (wpAny_loadName_free I.ok.kind hk hc hcell fin hcd) hd
theorem cr {i j pos}:PE X (.Constant (.int i) j pos) (tC (.int i)):=λ_ _ _ H _ I h=>wpAny_Constant_int ⟨.int i,H,I.tok _,⟨_,rfl⟩,h⟩
theorem ZlS {b j pos}:PE X (.Constant (.bool b) j pos) (tC (.bl b)):=λ_ _ _ H _ I h=>Constant_bool ⟨.bl b,H,I,rfl,h⟩
theorem dW {x j pos}:PE X (.Constant (.str x) j pos) (tC (.str x)):=λ_ _ _ H _ I h=>Calls.Constant_str ⟨.str x,H,I.tok _,⟨_,rfl⟩,h⟩
def Gl (X:Cx) (x:Str):Prop:=X.env.kindOf x=some .globalImplicit
theorem Zdt {E:zd} {pins:List (Addr×Obj)} {s:Shared} {σ:St} {H:Hp} {x:Str} {u:Value} {pos:Pos} {Q:zd} (I:Inv X pins σ H s) (hg:Gl X x) (hm:X.mg x=some u) (h:Q u s)
  (hd:(x == ("__debug__":Str))=false:=by decide):wpAny (model X.prog X.w) X.A (eval (.Name x pos) X.env) Q E s :=
 Calls.Name_function_global I.ok.kind hg (Calls.loadGlobal_global (by rw [I.ok.glob]; exact I.mod.glob.keeps I.bk) hm h) hd
theorem ir {E:zd} {pins:List (Addr×Obj)} {s:Shared} {σ:St} {H:Hp} {x:Str} {u:Value} {pos:Pos} {Q:zd} (I:Inv X pins σ H s) (hg:Gl X x) (hm:X.mg x=none) (hv:bootBuiltins x=some u) (h:Q u s)
  (hn:x≠"__name__":=by decide) (hd:(x == ("__debug__":Str))=false:=by decide):wpAny (model X.prog X.w) X.A (eval (.Name x pos) X.env) Q E s:=by
 obtain ⟨mb,h1,h2⟩:=I.mod.blt
 exact Calls.Name_function_global I.ok.kind hg (Calls.loadGlobal_builtin (by rw [I.ok.glob]; exact I.mod.glob.keeps I.bk) hm (by rw [I.ok.blt]; exact h1.keeps I.bk) ((h2 x hn).trans hv) h) hd
theorem ZlM {x:Str} {v:V} {u:Value} {pos:Pos} (hg:Gl X x) (hm:X.mg x=some u) (r:RelV v u) (hd:(x == ("__debug__":Str))=false:=by decide):PE X (.Name x pos) (tC v) :=
 λ_ _ _ H _ I h=>Zdt I hg hm ⟨v,H,I,r,h⟩ hd
theorem jW {x:Str} {v:V} {u:Value} {pos:Pos} (hg:Gl X x) (hm:X.mg x=none) (hv:bootBuiltins x=some u) (r:RelV v u) (hn:x≠"__name__":=by decide) (hd:(x == ("__debug__":Str))=false:=by decide):PE X (.Name x pos) (tC v) :=
 λ_ _ _ H _ I h=>ir I hg hm hv ⟨v,H,I,r,h⟩ hn hd
variable {a b:Expr} {ta tb:TE} {pos:Pos}
def tB (t:TE):TT:=λσ H Q=>t σ H λx H1=>∃ c,x=.bl c/\Q c H1
theorem Zlk {e:Expr} {t:TE} (h:PE X e t) (he:∀ whole,isTrue e X.env whole=(do let v <- whole; standAt e.pos; holding [v] (truthy v)):=by intro _; rfl):PT X e (tB t):=by
 intro pins s σ H Q I hw
 refine isTrue_plain (thn (h pins s σ H _ I hw) λv s1 hz0=>?_) (he _)
 obtain ⟨x,H1,I1,r1,q1⟩:=hz0
 obtain ⟨d,rfl,q⟩:=q1
 cases r1
 exact wpAny_truthy_bool ⟨H1,I1,q⟩
variable {tA tB':TT} {rest:List Expr}
def Zj7 (t u:TT):TT:=λσ H Q=>t σ H λc H1=>if c=true then u σ H1 Q else Q false H1
def tOr (t u:TT):TT:=λσ H Q=>t σ H λc H1=>if c=true then Q true H1 else u σ H1 Q
def ZjU (t:TT):TT:=λσ H Q=>t σ H λc H1=>Q (!c) H1
theorem Zcv (ha:PT X a tA):PW X (.BoolOp .And [a] pos) tA:=by
 intro wh pins s σ H Q I h
 refine isTrue_and (thn (ha pins s σ H Q I h) λc s1 e=>?_)
 cases c with
 | true=>exact isTrue_and_nil e
 | false=>exact e
theorem Zlh (ha:PT X a tA):PW X (.BoolOp .Or [a] pos) tA:=by
 intro wh pins s σ H Q I h
 refine isTrue_or (thn (ha pins s σ H Q I h) λc s1 e=>?_)
 cases c with
 | false=>exact isTrue_or_nil e
 | true=>exact e
theorem Zcw (ha:PT X a tA) (hb:PW X (.BoolOp .And (b::rest) pos) tB'):PW X (.BoolOp .And (a::b::rest) pos) (Zj7 tA tB'):=by
 intro wh pins s σ H Q I h
 refine isTrue_and (thn (ha pins s σ H _ I h) λc s1 hz0=>?_)
 obtain ⟨H1,I1,q1⟩:=hz0
 cases c with
 | true=>exact hb wh pins s1 σ H1 Q I1 q1
 | false=>exact ⟨H1,I1,q1⟩
theorem Zli (ha:PT X a tA) (hb:PW X (.BoolOp .Or (b::rest) pos) tB'):PW X (.BoolOp .Or (a::b::rest) pos) (tOr tA tB'):=by
 intro wh pins s σ H Q I h
 refine isTrue_or (thn (ha pins s σ H _ I h) λc s1 hz0=>?_)
 obtain ⟨H1,I1,q1⟩:=hz0
 cases c with
 | true=>exact ⟨H1,I1,q1⟩
 | false=>exact hb wh pins s1 σ H1 Q I1 q1
theorem Zlm (ha:PT X a tA):PT X (.UnaryOp .Not a pos) (ZjU tA):=by
 intro pins s σ H Q I h
 exact isTrue_not (ha pins s σ H (λc H1=>Q (!c) H1) I h)
def Zj6 (ta tb:TE):TE:=λσ H Q=>ta σ H λx H1=>∃ c,x=.bl c/\if c=true then tb σ H1 Q else Q (.bl false) H1
def ZjT (ta:TE):TE:=λσ H Q=>ta σ H λx H1=>∃ c,x=.bl c/\Q (.bl (!c)) H1
theorem ZlH {op} {t:TE} (h:PE X a t):PE X (.BoolOp op [a] pos) t:=λpins s σ H Q I hw=>BoolOp_one (h pins s σ H Q I hw)
theorem ZlT (ha:PE X a ta) (hb:PE X (.BoolOp .And (b::rest) pos) tb):PE X (.BoolOp .And (a::b::rest) pos) (Zj6 ta tb):=by
 intro pins s σ H Q I h
 refine BoolOp_and (thn (ha pins s σ H _ I h) λv s1 hz0=>?_)
 obtain ⟨x,H1,I1,r1,q1⟩:=hz0
 obtain ⟨c,rfl,q1⟩:=q1
 cases r1
 refine wpAny_truthy_bool ?_
 cases c with
 | true=>exact hb pins s1 σ H1 Q I1 q1
 | false=>exact ⟨.bl false,H1,I1,rfl,q1⟩
theorem ZlI (ha:PE X a ta):PE X (.UnaryOp .Not a pos) (ZjT ta):=by
 intro pins s σ H Q I h
 refine UnaryOp_ (thn (ha pins s σ H _ I h) λv s1 hz0=>?_)
 obtain ⟨x,H1,I1,r1,q1⟩:=hz0
 obtain ⟨c,rfl,q1⟩:=q1
 cases r1
 exact not_of (wpAny_truthy_bool ⟨.bl (!c),H1,I1,rfl,q1⟩)
def tIf (t:TT) (ta tb:TE):TE:=λσ H Q=>t σ H λc H1=>if c=true then ta σ H1 Q else tb σ H1 Q
theorem ZlL {c:Expr} (hc:PT X c tA) (ha:PE X a ta) (hb:PE X b tb):PE X (.IfExp c a b pos) (tIf tA ta tb):=by
 intro pins s σ H Q I h
 refine wpAny_IfExp (thn (hc pins s σ H _ I h) λd s1 hz0=>?_)
 obtain ⟨H1,I1,q1⟩:=hz0
 cases d with
 | true=>exact ha pins s1 σ H1 Q I1 q1
 | false=>exact hb pins s1 σ H1 Q I1 q1
end
noncomputable def SqL (K:yY) (H:Hp) (a:Addr) (xs:zi):Prop :=
 Rd H a (.lst xs) \/
  ∃ (o:Obj) (its:Array Value) (n:Nat),K.lookup a=some o/\o.cls=.type "list"/\o.dict=none/\o.data=.seq its n/\its.size<=sizeLine/\Vals xs its.toList
noncomputable def SqT (K:yY) (H:Hp) (a:Addr) (xs:zi):Prop :=
 Rd H a (.tup xs) \/
  ∃ (o:Obj) (its:Array Value) (n:Nat),K.lookup a=some o/\o.cls=.type "tuple"/\o.data=.seq its n/\its.size<=sizeLine/\Vals xs its.toList
noncomputable def ZqP:Value->Option V
 | .none=>some .non
 | .bool b=>some (.bl b)
 | .int i _=>some (.int i)
 | .str x _=>some (.str x)
 | .bytes b _=>some (.byt b)
 | .float b _=>some (.flt b)
 | .ref a=>some (.ref a)
 | .type n=>some (.ty n)
 | _=>none
theorem RelV.abs {x:V} {u:Value} (r:RelV x u):ZqP u=some x:=by
 cases x with
 | non=>cases r; rfl
 | bl _=>cases r; rfl
 | int _=>obtain ⟨t,rfl⟩:=r; rfl
 | str _=>obtain ⟨t,rfl⟩:=r; rfl
 | byt _=>obtain ⟨t,rfl⟩:=r; rfl
 | flt _=>obtain ⟨t,rfl⟩:=r; rfl
 | ref _=>cases r; rfl
 | ty _=>cases r; rfl
theorem RelV.inj {x y:V} {u:Value} (r:RelV x u) (q:RelV y u):x=y:=vX (r.abs.symm.trans q.abs)
theorem Vals.inj {xs ys:zi} {us:zg} (h:Vals xs us) (h':Vals ys us):xs=ys:=by
 induction h generalizing ys with
 | nil=>cases h'; rfl
 | cons r t ih=>cases h' with | cons r' t'=>rw [r.inj r',ih t']
section
variable {X:Cx} {pins:List (Addr×Obj)} {σ:St} {H:Hp} {s:Shared} {a:Addr} {xs ys:zi}
theorem SqL.of {K:yY} (h:H a=some (.lst xs)):SqL K H a xs:=.inl (.inl h)
theorem SqT.of {K:yY} (h:H a=some (.tup xs)):SqT K H a xs:=.inl (.inl h)
theorem Inv.list (I:Inv X pins σ H s) (h:SqL X.K H a xs):∃ its:zg,Vals xs its/\PlainL s.heap a its.toArray/\xs.length<=sizeLine:=by
 rcases h with h | ⟨o,its,n,hk,hc,hd,hs,hz,r⟩
 ·obtain ⟨z,its,n,r,e⟩:=h.ok I.hok
  exact ⟨its,r,⟨_,n,e,rfl,rfl,rfl⟩,z⟩
 ·refine ⟨its.toList,r,⟨o,n,I.kIn a o hk,hc,hd,by simpa using hs⟩,?_⟩
  have e:=r.length
  simp only [yn] at e
  omega
theorem Inv.tuple (I:Inv X pins σ H s) (h:SqT X.K H a xs):∃ its:zg,Vals xs its/\IsTup s.heap a its.toArray/\xs.length<=sizeLine:=by
 rcases h with h | ⟨o,its,n,hk,hc,hs,hz,r⟩
 ·obtain ⟨z,its,r,p⟩:=h.ok I.hok
  exact ⟨its,r,p,z⟩
 ·refine ⟨its.toList,r,⟨o,I.kIn a o hk,hc,n,by simpa using hs⟩,?_⟩
  have e:=r.length
  simp only [yn] at e
  omega
theorem Inv.list_inj (I:Inv X pins σ H s) (h:SqL X.K H a xs) (h':SqL X.K H a ys):xs=ys:=by
 obtain ⟨its,r,⟨o,n,e,_,_,d⟩,_⟩:=I.list h
 obtain ⟨its',r',⟨o',n',e',_,_,d'⟩,_⟩:=I.list h'
 rw [e] at e'; cases e'
 rw [d] at d'
 injection d' with d1 _
 have:its=its':=by simpa using congrArg Array.toList d1
 subst this
 exact r.inj r'
theorem Inv.tuple_inj (I:Inv X pins σ H s) (h:SqT X.K H a xs) (h':SqT X.K H a ys):xs=ys:=by
 obtain ⟨its,r,⟨o,e,_,n,d⟩,_⟩:=I.tuple h
 obtain ⟨its',r',⟨o',e',_,n',d'⟩,_⟩:=I.tuple h'
 rw [e] at e'; cases e'
 rw [d] at d'
 injection d' with d1 _
 have:its=its':=by simpa using congrArg Array.toList d1
 subst this
 exact r.inj r'
end
noncomputable abbrev Cx.wish (X:Cx) (E:zd):Cx:={ X with xe:=E }
noncomputable abbrev Cx.nox (X:Cx):Cx:=X.wish λ_ _=>False
theorem Cx.Ok.wish {X:Cx} (ok:X.Ok) (E:zd):(X.wish E).Ok :=
 ⟨ok.mod,ok.kind,ok.glob,ok.blt,ok.above,ok.inj,ok.has,ok.cab,ok.hd,ok.frames,ok.stk,ok.exf,ok.bs,ok.bsz,ok.noex,ok.exfs,ok.funs,ok.frf⟩
theorem Cx.Ok.unwish {X:Cx} {E:zd} (ok:(X.wish E).Ok):X.Ok :=
 ⟨ok.mod,ok.kind,ok.glob,ok.blt,ok.above,ok.inj,ok.has,ok.cab,ok.hd,ok.frames,ok.stk,ok.exf,ok.bs,ok.bsz,ok.noex,ok.exfs,ok.funs,ok.frf⟩
section
variable {X:Cx} {pins:List (Addr×Obj)} {σ:St} {H:Hp} {s:Shared} {E:zd}
theorem Inv.wish (I:Inv X pins σ H s) (E:zd):Inv (X.wish E) pins σ H s:=⟨I.ok.wish E,I.os,I.bare,I.base,I.loc,I.cell,I.free,I.freeC,I.pin,I.hok,I.len⟩
theorem Inv.unwish (I:Inv (X.wish E) pins σ H s):Inv X pins σ H s:=⟨I.ok.unwish,I.os,I.bare,I.base,I.loc,I.cell,I.free,I.freeC,I.pin,I.hok,I.len⟩
theorem SP.unwish {D:Ends} {f:Flow} {s':Shared} (h:SP (X.wish E) pins D f s'):SP X pins D f s':=by
 cases f with
 | next=>obtain ⟨σ',H',I,q⟩:=h; exact ⟨σ',H',I.unwish,q⟩
 | brk=>obtain ⟨σ',H',I,q⟩:=h; exact ⟨σ',H',I.unwish,q⟩
 | cont=>obtain ⟨σ',H',I,q⟩:=h; exact ⟨σ',H',I.unwish,q⟩
 | ret u=>obtain ⟨v,σ',H',I,r,q⟩:=h; exact ⟨v,σ',H',I.unwish,r,q⟩
theorem PSs.nox {st:List Stmt} {t:TS} (h:PSs X.nox st t):PSs X st t:=λpins s σ H D I hw =>
 wpAny_mono (h pins s σ H D (I.wish _) hw) (λ_ _ q=>q.unwish) λ_ _ z=>False.elim z
end
section
variable {X:Cx} {st:Stmt} {rest:List Stmt} {t u:TS} {e:Expr} {te:TE} {pos:Pos}
def ZjW:TS:=λD σ H=>D.nx σ H
def Zar (t u:TS):TS:=λD σ H=>t { D with nx:=u D } σ H
theorem nC:PSs X [] ZjW:=λ_ _ σ H _ I h=>wpAny_execs_nil ⟨σ,H,I,h⟩
theorem dR (h1:PS X st t) (h2:PSs X rest u):PSs X (st::rest) (Zar t u):=by
 intro pins s σ H D I h
 refine wpAny_execs_cons (thn (h1 pins s σ H { D with nx:=u D } I h) λf s1 q=>?_)
 cases f with
 | next =>
  obtain ⟨σ',H',I',q⟩:=q
  exact h2 pins s1 σ' H' D I' q
 | ret v=>exact q
 | brk=>exact q
 | cont=>exact q
theorem iR (h1:PS X st t):PSs X [st] t:=by
 intro pins s σ H D I h
 refine wpAny_execs_cons (thn (h1 pins s σ H D I h) λf s1 q=>?_)
 cases f with
 | next=>exact wpAny_execs_nil q
 | ret v=>exact q
 | brk=>exact q
 | cont=>exact q
theorem Inv.quiet {pins:List (Addr×Obj)} {σ:St} {H:Hp} {s:Shared} (I:Inv X pins σ H s):interactive X.env=false:=by simp [interactive,I.ok.kind]
def qI (te:TE):TS:=λD σ H=>te σ H λ_ H1=>D.nx σ H1
theorem iS (he:PE X e te) (hs:swapsWith e none pos.line X.env=pure false:=by rfl):PS X (.Expr e pos) (qI te):=by
 intro pins s σ H D I h
 exact wpAny_Expr_any (thn (he pins s σ H _ I h) λv s1 ⟨x,H1,I1,r1,q1⟩=>⟨σ,H1,I1,q1⟩) I.quiet hs
def ZjQ (te:TE):TS:=λD σ H=>te σ H D.rt
theorem gG (he:PE X e te):PS X (.Return (some e) pos) (ZjQ te):=by
 intro pins s σ H D I h
 exact wpAny_Return_some (thn (he pins s σ H _ I h) λv s1 ⟨x,H1,I1,r1,q1⟩=>⟨x,σ,H1,I1,r1,q1⟩)
def Zj0 (c:TT) (t u:TS):TS:=λD σ H=>c σ H λb H1=>if b=true then t D σ H1 else u D σ H1
theorem nG {c:Expr} {a b:List Stmt} {tc:TT} (hc:PT X c tc) (ha:PSs X a t) (hb:PSs X b u):PS X (.If c a b pos) (Zj0 tc t u):=by
 intro pins s σ H D I h
 refine wpAny_If (thn (hc pins s σ H _ I h) λd s1 hz0=>?_)
 obtain ⟨H1,I1,q1⟩:=hz0
 cases d with
 | true=>exact ha pins s1 σ H1 D I1 q1
 | false=>exact hb pins s1 σ H1 D I1 q1
end
noncomputable abbrev TG:=V->St->Hp->(St->Hp->Prop)->Prop
noncomputable abbrev gY:=List V->St->Hp->(St->Hp->Prop)->Prop
noncomputable def PG (X:Cx) (target:Expr) (t:TG):Prop :=
 ∀ (pins:List (Addr×Obj)) (s:Shared) (σ:St) (H:Hp) (v:V) (u:Value) (Q:St->Hp->Prop),Inv X pins σ H s->RelV v u->t v σ H Q ->
  wpAny (model X.prog X.w) X.A (assign target X.env u) (λ_ s'=>∃ σ' H',Inv X pins σ' H' s'/\Q σ' H') X.xe s
noncomputable def PGs (X:Cx) (ts:List Expr) (t:gY):Prop :=
 ∀ (pins:List (Addr×Obj)) (s:Shared) (σ:St) (H:Hp) (vs:zi) (us:zg) (Q:St->Hp->Prop),Inv X pins σ H s->Vals vs us->t vs σ H Q ->
  wpAny (model X.prog X.w) X.A (assignInOrder ((assignEach ts X.env).map (·.2)) us) (λ_ s'=>∃ σ' H',Inv X pins σ' H' s'/\Q σ' H') X.xe s
noncomputable abbrev mD:=V->V->V->Hp->(Hp->Prop)->Prop
noncomputable def u4 (X:Cx) (t:mD):Prop :=
 ∀ (pins:List (Addr×Obj)) (s:Shared) (σ:St) (H:Hp) (o i v:V) (ov iv u:Value) (Q:Hp->Prop),Inv X pins σ H s->RelV o ov->RelV i iv->RelV v u->t o i v H Q ->
  wpAny (model X.prog X.w) X.A (setItem ov iv u) (λ_ s'=>∃ H',Inv X pins σ H' s'/\Q H') X.xe s
noncomputable abbrev kN:=V->V->Hp->VK->Prop
noncomputable def mF (X:Cx) (op:Operator) (t:kN):Prop :=
 ∀ (pins:List (Addr×Obj)) (s:Shared) (σ:St) (H:Hp) (x y:V) (v u:Value) (Q:VK),Inv X pins σ H s->RelV x v->RelV y u->t x y H Q ->
  wpAny (model X.prog X.w) X.A (inplaceOp op v u) (EP X pins σ Q) X.xe s
section
variable {X:Cx} {pos:Pos}
def gu (i:Nat):TG:=λv σ H Q=>Q (σ.set i (some v)) H
theorem ZlB {i:Nat} {x:Str} (hN:X.N.Nodup) (hi:X.N[i]?=some x) (hx:jx X.env.scope x) (hf:X.fn x=true\/X.env.scope.names.lookup x=some .local:=by first | exact .inl rfl | exact .inr rfl | assumption):PG X (.Name x pos) (gu i):=by
 intro pins s σ H v u Q I r h
 exact wpAny_assign_Name (kS I hN hi hx r (λs' I'=>⟨_,H,I',h⟩) hf)
theorem aO {i:Nat} {x:Str} (hN:X.N.Nodup) (hi:X.N[i]?=some x:=by rfl) (hx:jx X.env.scope x:=by first | exact Or.inl rfl | exact Or.inr rfl) (hf:X.fn x=true\/X.env.scope.names.lookup x=some .local:=by first | exact .inl rfl | exact .inr rfl | assumption):PG X (.Name x pos) (gu i):=ZlB hN hi hx hf
noncomputable def ZnR:gY:=λvs σ H Q=>vs=[]/\Q σ H
noncomputable def ZnS (t:TG) (u:gY):gY:=λvs σ H Q=>∃ v r,vs=v::r/\t v σ H λσ' H'=>u r σ' H' Q
theorem Zly:PGs X [] ZnR:=by
 intro pins s σ H vs us Q I r h
 obtain ⟨e,h⟩:=h
 subst e
 cases r
 exact assignInOrder_nil ⟨σ,H,I,h⟩
theorem Zlz {e:Expr} {es:List Expr} {t:TG} {u:gY} (h1:PG X e t) (h2:PGs X es u)
  (hs:(assignEach (e::es) X.env).map (·.2)=assign e X.env::(assignEach es X.env).map (·.2):=by rfl):PGs X (e::es) (ZnS t u):=by
 intro pins s σ H vs us Q I r h
 obtain ⟨v,vr,e1,h⟩:=h
 subst e1
 cases r with
 | cons r rr =>
  rw [hs]
  refine assignInOrder_cons (thn (h1 pins s σ H _ _ _ I r h) λ_ s1 hz0=>?_)
  obtain ⟨σ1,H1,I1,q1⟩:=hz0
  exact h2 pins s1 σ1 H1 _ _ Q I1 rr q1
def ZnQ (K:yY) (n:Nat) (t:gY):TG:=λv σ H Q=>∃ a xs,v=.ref a/\SqT K H a xs/\xs.length=n/\t xs σ H Q
theorem ZlA {es:List Expr} {k:Nat} {t:gY} {n:Nat} (hc:X.calm=true) (h:PGs X es t)
  (hn:(assignEach es X.env).length=n:=by rfl) (hst:(assignEach es X.env).findIdx? (·.1)=none:=by rfl):PG X (.Tuple es k pos) (ZnQ X.K n t):=by
 intro pins s σ H v u Q I r hw
 obtain ⟨a,xs,e1,hq,hl,hw⟩:=hw
 subst e1
 cases r
 obtain ⟨its,rv,ht,hz⟩:=I.tuple hq
 refine assign_Tuple_tuple (I.ok.hd hc) ht (by simp [hn,<- hl,rv.length]) hst λh' hx=>?_
 have I1:Inv X pins σ H { s with heap:=h' }:=I.kept (t':=s.toks) λb o e=>hx b o (vM (vE e)) e
 exact h pins _ σ H xs _ Q I1 (by simpa using rv) hw
def Zd6 (to ti:TE) (t:mD):TG:=λv σ H Q=>to σ H λo H1=>ti σ H1 λi H2=>t o i v H2 λH3=>Q σ H3
theorem sv {o i:Expr} {to ti:TE} {t:mD} (ho:PE X o to) (hi:PE X i ti) (hs:u4 X t)
  (ha:∀ v,assign (.Subscript o i pos) X.env v=(do
   let ov <- holding [v] (eval o X.env)
   let iv <- holding [v,ov] (eval i X.env)
   standAt pos
   holding [v,ov,iv] (setItem ov iv v)
   release [v,ov,iv] []):=by intro _; rfl):PG X (.Subscript o i pos) (Zd6 to ti t):=by
 intro pins s σ H v u Q I r h
 rw [ha]
 refine wpAny_bind (wpAny_holding (thn (ho pins s σ H _ I h) λov s1 hz0=>?_))
 obtain ⟨x,H1,I1,r1,q1⟩:=hz0
 refine wpAny_bind (wpAny_holding (thn (hi pins s1 σ H1 _ I1 q1) λiv s2 hz0=>?_))
 obtain ⟨y,H2,I2,r2,q2⟩:=hz0
 refine wpAny_bind (wpAny_standAt (wpAny_bind (wpAny_holding (thn (hs pins s2 σ H2 x y v ov iv u _ I2 r1 r2 r q2) λ_ s3 hz0=>?_))))
 obtain ⟨H3,I3,q3⟩:=hz0
 exact wpAny_release ⟨σ,H3,I3,q3⟩
def fI (te:TE) (g:TG):TS:=λD σ H=>te σ H λx H1=>g x σ H1 D.nx
theorem dS {tg e:Expr} {te:TE} {g:TG} (he:PE X e te) (hg:PG X tg g) (hs:swapsWithSole [tg] e pos.line X.env=pure false:=by rfl) (hw:swappedStores [tg] e X.env=pure none:=by rfl)
  (h1:(assignEach [tg] X.env).map (·.2)=[assign tg X.env]:=by rfl):PS X (.Assign [tg] e pos) (fI te g):=by
 intro pins s σ H D I h
 refine wpAny_Assign_stores (thn (he pins s σ H _ I h) λv s1 hz0=>?_) hs hw
 obtain ⟨x,H1,I1,r1,q1⟩:=hz0
 rw [h1]
 exact thn (hg pins s1 σ H1 x v _ I1 r1 q1) λ_ s2 q=>q
theorem Zlp {i:Nat} {x:Str} {e:Expr} {te:TE} {pos':Pos} (hN:X.N.Nodup) (hi:X.N[i]?=some x) (hx:jx X.env.scope x) (he:PE X e te) (hs:swapsWith e (some (.Name x pos')) pos.line X.env=pure false:=by rfl) (hf:X.fn x=true\/X.env.scope.names.lookup x=some .local:=by first | exact .inl rfl | exact .inr rfl | assumption) :
  PS X (.Assign [.Name x pos'] e pos) (fI te (gu i)):=by
 intro pins s σ H D I h
 refine wpAny_Assign_Name (thn (he pins s σ H _ I h) λv s1 hz0=>?_) hs
 obtain ⟨y,H1,I1,r1,q1⟩:=hz0
 exact kS I1 hN hi hx r1 (λs2 I2=>⟨_,H1,I2,q1⟩) hf
theorem aQ {i:Nat} {x:Str} {e:Expr} {te:TE} {pos':Pos} (hN:X.N.Nodup) (he:PE X e te) (hi:X.N[i]?=some x:=by rfl) (hx:jx X.env.scope x:=by first | exact Or.inl rfl | exact Or.inr rfl) (hs:swapsWith e (some (.Name x pos')) pos.line X.env=pure false:=by rfl) (hf:X.fn x=true\/X.env.scope.names.lookup x=some .local:=by first | exact .inl rfl | exact .inr rfl | assumption):PS X (.Assign [.Name x pos'] e pos) (fI te (gu i)):=Zlp hN hi hx he hs hf
def Zas (i j:Nat) (ta:TA):TS:=λD σ H=>ta σ H λvs H1=>∃ v w,vs=[v,w]/\D.nx ((σ.set i (some v)).set j (some w)) H1
theorem nF {i j:Nat} {x y:Str} {a b:Expr} {ta:TA} {px py pt:Pos} {kt k2 pt2} (hc:X.calm=true) (hN:X.N.Nodup) (hi:X.N[i]?=some x) (hj:X.N[j]?=some y) (hij:i≠j)
  (hx:X.env.scope.names.lookup x=some .local) (hy:X.env.scope.names.lookup y=some .local) (ha:PA X [a,b] ta)
  (hw:swappedStores [.Tuple [.Name x px,.Name y py] kt pt] (.Tuple [a,b] k2 pt2) X.env=pure (some [x,y]))
  (hs:swapsWithSole [.Tuple [.Name x px,.Name y py] kt pt] (.Tuple [a,b] k2 pt2) pos.line X.env=pure false:=by rfl) :
  PS X (.Assign [.Tuple [.Name x px,.Name y py] kt pt] (.Tuple [a,b] k2 pt2) pos) (Zas i j ta):=by
 intro pins s σ H D I h
 rw [exec_Assign_arm]
 refine wpAny_bind (wpAny_standAt ?_)
 rw [hs]
 refine wpAny_bind (wpAny_pure ?_)
 rw [if_neg (by decide)]
 refine wpAny_bind (Tuple_ (thn (ha _ pins s σ H _ I h) λus s1 hz0=>?_))
 obtain ⟨vs,H1,I1,r1,q1⟩:=hz0
 obtain ⟨v,w,e1,q1⟩:=q1
 subst e1
 obtain ⟨u1,u2,rfl,rv,rw'⟩:∃ u1 u2,us=[u1,u2]/\RelV v u1/\RelV w u2:=by
  cases r1 with
  | cons p q =>
   cases q with
   | cons p' q' =>
    cases q'
    exact ⟨_,_,rfl,p,p'⟩
 refine wpAny_newObj_type ?_ (by show 2<=sizeLine; decide)
 have I2:Inv X pins σ H1 { s1 with heap:=s1.heap.push { cls:=.type "tuple",data:=.seq [u1,u2].toArray } }:=I1.kept (t':=s1.toks) λb o e=>vc _ e
 rw [hw]
 refine wpAny_bind (wpAny_pure ?_)
 show wpAny (model X.prog X.w) X.A (do rule "assign.swapped-stores"; let items <- unpackItems (.ref s1.heap.objs.size) 2 none; assignInOrder [λv=>bindName X.env y v,λv=>bindName X.env x v] items.reverse; pure Flow.next) _ _ _
 refine wpAny_bind (wpAny_rule (wpAny_bind (unpackItems_tuple (items:=#[u1,u2]) (I.ok.hd hc) (IsTup.new s1.heap _) λh' hx'=>?_)))
 have I3:=I2.kept (h':=h') (t':=s1.toks) λb o e=>hx' b o (vM (vE e)) e
 show wpAny _ _ (assignInOrder [λv=>bindName X.env y v,λv=>bindName X.env x v] [u2,u1] >>= λ_=>pure Flow.next) _ _ _
 refine wpAny_bind (assignInOrder_cons (wpAny_bindName (kS I3 hN hj (.inl hy) rw' (λs2 I4=>?_) (.inr hy))))
 refine assignInOrder_cons (wpAny_bindName (kS I4 hN hi (.inl hx) rv (λs3 I5=>assignInOrder_nil (wpAny_pure ?_)) (.inr hx)))
 rw [List.set_comm _ _ (Ne.symm hij)] at I5
 exact ⟨_,H1,I5,q1⟩
def Zay (i:Nat) (te:TE) (ti:kN):TS:=λD σ H=>∃ x,σ[i]?=some (some x)/\te σ H λy H1=>ti x y H1 λz H2=>D.nx (σ.set i (some z)) H2
theorem nH {i:Nat} {x:Str} {e:Expr} {te:TE} {op:Operator} {ti:kN} {pos':Pos} (hN:X.N.Nodup) (hi:X.N[i]?=some x) (hx:jx X.env.scope x) (he:PE X e te) (ho:mF X op ti) (hf:X.fn x=true\/X.env.scope.names.lookup x=some .local:=by first | exact .inl rfl | exact .inr rfl | assumption) :
  PS X (.AugAssign (.Name x pos') op e pos) (Zay i te ti):=by
 intro pins s σ H D I h
 obtain ⟨v,e1,h⟩:=h
 obtain ⟨m,hn,hl⟩:=I.loc
 have vis:p7 X.env.scope x:=by rcases hx with k | k; exact .inl k; exact .inr (.inl k)
 obtain ⟨u,r,l⟩:=hl i x v hi e1 vis
 refine wpAny_AugAssign_Name ?_
 have go:wpAny (model X.prog X.w) X.A (eval e X.env) (λw s₂=>wpAny (model X.prog X.w) X.A (inplaceOp op u w) (λr s₃=>wpAny (model X.prog X.w) X.A (storeName X.env x r) (λ_=>SP X pins D .next) X.xe s₃) X.xe s₂) X.xe s:=by
  refine thn (he pins s σ H _ I h) λw s1 hz0=>?_
  obtain ⟨y,H1,I1,r1,q1⟩:=hz0
  refine thn (ho pins s1 σ H1 v y u w _ I1 r r1 q1) λz s2 hz0=>?_
  obtain ⟨zv,H2,I2,r2,q2⟩:=hz0
  exact kS I2 hN hi hx r2 (λs3 I3=>⟨_,H2,I3,q2⟩) hf
 rcases l with ⟨hk,hm⟩ | ⟨hk,c,hc,hcell⟩
 ·exact wpAny_loadName_local I.ok.kind hk hn hm go
 ·rcases hk with hk | hk
  ·exact wpAny_loadName_cell I.ok.kind hk hc hcell go
  ·rcases hx with k | k
   ·have:X.env.scope.names.lookup x=some .free:=hk
    rw [k] at this; cases this
   ·have:X.env.scope.names.lookup x=some .free:=hk
    rw [k] at this; cases this
def Zax (to ti te:TE) (tget:V->V->Hp->VK->Prop) (tip:kN) (tset:mD):TS:=λD σ H=>to σ H λo H1=>ti σ H1 λi H2=>tget o i H2 λx H3=>te σ H3 λy H4=>tip x y H4 λz H5=>tset o i z H5 λH6=>D.nx σ H6
noncomputable def ZiZ (X:Cx) (t:V->V->Hp->VK->Prop):Prop :=
 ∀ (pins:List (Addr×Obj)) (s:Shared) (σ:St) (H:Hp) (o i:V) (ov iv:Value) (Q:VK),Inv X pins σ H s->RelV o ov->RelV i iv->t o i H Q ->
  wpAny (model X.prog X.w) X.A (getItem ov iv) (EP X pins σ Q) X.xe s
theorem Zcx {o i e:Expr} {to ti te:TE} {tget:V->V->Hp->VK->Prop} {tip:kN} {tset:mD} {op:Operator} {tpos:Pos} (ho:PE X o to) (hi:PE X i ti) (hg:ZiZ X tget) (he:PE X e te) (hp:mF X op tip) (hs:u4 X tset)
  (ha:∀ ov iv new,augStore i ov iv new=(do holding [new,ov,iv] (setItem ov iv new); release [new,ov,iv] []; pure .next):=by intros; rfl):PS X (.AugAssign (.Subscript o i tpos) op e pos) (Zax to ti te tget tip tset):=by
 intro pins s σ H D I h
 refine wpAny_AugAssign_SubscriptAny (thn (ho pins s σ H _ I h) λov s1 hz0=>?_) ha
 obtain ⟨x1,H1,I1,r1,q1⟩:=hz0
 refine thn (hi pins s1 σ H1 _ I1 q1) λiv s2 hz0=>?_
 obtain ⟨x2,H2,I2,r2,q2⟩:=hz0
 refine thn (hg pins s2 σ H2 x1 x2 ov iv _ I2 r1 r2 q2) λold s3 hz0=>?_
 obtain ⟨x3,H3,I3,r3,q3⟩:=hz0
 refine thn (he pins s3 σ H3 _ I3 q3) λv s4 hz0=>?_
 obtain ⟨x4,H4,I4,r4,q4⟩:=hz0
 refine thn (hp pins s4 σ H4 x3 x4 old v _ I4 r3 r4 q4) λnew s5 hz0=>?_
 obtain ⟨x5,H5,I5,r5,q5⟩:=hz0
 exact thn (hs pins s5 σ H5 x1 x2 x5 ov iv new _ I5 r1 r2 r5 q5) λ_ s6 hz0=>by
  obtain ⟨H6,I6,q6⟩:=hz0
  exact ⟨σ,H6,I6,q6⟩
noncomputable def tu (f:Int->Int->Int):kN:=λx y H Q=>∃ i j,x=.int i/\y=.int j/\Q (.int (f i j)) H
theorem Znw:mF X .Add (tu λi j=>i+j):=by
 intro pins s σ H x y v u Q I r1 r2 h
 obtain ⟨i,j,e1,e2,q⟩:=h
 subst e1; subst e2
 obtain ⟨t,rfl⟩:=r1
 obtain ⟨t',rfl⟩:=r2
 exact iadd_int ⟨.int _,H,I.tok _,⟨_,rfl⟩,q⟩
theorem Znv:mF X .Sub (tu λi j=>i - j):=by
 intro pins s σ H x y v u Q I r1 r2 h
 obtain ⟨i,j,e1,e2,q⟩:=h
 subst e1; subst e2
 obtain ⟨t,rfl⟩:=r1
 obtain ⟨t',rfl⟩:=r2
 exact isub_int ⟨.int _,H,I.tok _,⟨_,rfl⟩,q⟩
end
section
variable {X:Cx} {pos:Pos}
def ZjI (c:TT) (tb:TS):TS:=λD σ H=>∃ W:Nat->St->Hp->Prop,(∃ m,W m σ H)/\∀ m σ H,W m σ H ->
 c σ H λb H1=>if b=true then ∃ N:St->Hp->Prop,(∀ σ' H',N σ' H'->∃ m',m' < m/\W m' σ' H')/\tb { D with nx:=N,ct:=N,bk:=D.nx } σ H1 else D.nx σ H1
theorem Zlo {c:Expr} {body:List Stmt} {tc:TT} {tb:TS} (hp:PassesOwn (model X.prog X.w) X.A X.env X.xe) (hc:PT X c tc) (hb:PSs X body tb):PS X (.While c body [] pos) (ZjI tc tb):=by
 intro pins s σ H D I h
 obtain ⟨W,⟨m0,w0⟩,turn⟩:=h
 refine wpAny_While (codeAny_whileLoop (λn s'=>∃ σ' H',Inv X pins σ' H' s'/\W n σ' H') ?_ m0 ⟨σ,H,I,w0⟩)
 rintro n s1 ⟨σ1,H1,I1,w1⟩
 refine wpAny_passesOwn hp (thn (hc pins s1 σ1 H1 _ I1 (turn n σ1 H1 w1)) λb s2 hz0=>?_)
 obtain ⟨H2,I2,q2⟩:=hz0
 cases b with
 | true =>
  obtain ⟨N,hN,q2⟩:=q2
  rw [if_pos rfl]
  refine wpAny_passesOwn hp (thn (hb pins s2 σ1 H2 _ I2 q2) λf s3 q3=>?_)
  cases f with
  | next =>
   obtain ⟨σ3,H3,I3,n3⟩:=q3
   obtain ⟨m',hm,w3⟩:=hN σ3 H3 n3
   exact ⟨m',hm,σ3,H3,I3,w3⟩
  | cont =>
   obtain ⟨σ3,H3,I3,n3⟩:=q3
   obtain ⟨m',hm,w3⟩:=hN σ3 H3 n3
   exact ⟨m',hm,σ3,H3,I3,w3⟩
  | brk=>exact q3
  | ret v=>exact q3
 | false =>
  rw [if_neg vD]
  exact wpAny_execs_nil ⟨σ1,H2,I2,q2⟩
end
structure It where
 go:Nat->Hp->Prop
 yld:Nat->Hp->V->Hp->Prop
 stop:Nat->Hp->Prop
noncomputable def fV (X:Cx) (pins:List (Addr×Obj)) (H:Hp) (b:Addr):Prop :=
 H b=none/\b≠X.env.locals/\b ∉ X.fs/\(b∈X.ex\/X.s₀.heap.objs.size<=b)/\(∀ x c,X.env.cells.lookup x=some c->c≠b)/\∀ p∈X.pn++pins,p.1≠b
theorem Inv.fpOk {X:Cx} {pins:List (Addr×Obj)} {σ:St} {H H':Hp} {s:Shared} {b:Addr} (I:Inv X pins σ H s) (hb:s.heap.objs.size<=b) (hn:H' b=none):fV X pins H' b:=by
 refine ⟨hn,wj (vA I.lt hb),I.nofs hb,.inr (vS I.sz hb),λx c e z=>?_,λp hp z=>?_⟩
 ·obtain ⟨v,q⟩:=I.cell x c e
  exact absurd (vA q.lt (by rw [z]; exact hb)) (vV _)
 ·exact absurd (vA (vE (I.pin p hp).1) (by rw [z]; exact hb)) (vV _)
structure Turn (P:Program) (w:World) (K:yY) (tg:Expr) (J:It) (fp:List Addr) (it:Addr) (tn:Nat->Heap->Prop):Prop where
 mem:it∈fp
 obj:∀ i h,tn i h->∀ b∈fp,∃ o,h.get? b=some o/\∀ v,o.data≠.cell v
 keep:∀ i h h',tn i h->(∀ b∈fp,∀ o,h.get? b=some o->h'.get? b=some o)->tn i h'
 item:∀ (X:Cx),X.prog=P->X.w=w->X.K=K->X.calm=true->∀ (i:Nat) (pins:List (Addr×Obj)) (s:Shared) (σ:St) (H:Hp) (E:zd),Inv X pins σ H s->(∀ b∈fp,fV X pins H b)->tn i s.heap->J.go i H ->
  wpAny (model P w) X.A (pyNext (.ref it)) (λr s1=>∃ u,r=some u /\
   wpAny (model P w) X.A (letOwnedTupleGo tg (.ref it) u) (λ_ s2=>∃ x H',Inv X pins σ H' s2/\RelV x u/\J.yld i H x H'/\tn (i+1) s2.heap/\∀ b∈fp,H' b=none) E s1) E s
 done:∀ (X:Cx),X.prog=P->X.w=w->X.K=K->X.calm=true->∀ (i:Nat) (pins:List (Addr×Obj)) (s:Shared) (σ:St) (H:Hp) (E:zd),Inv X pins σ H s->(∀ b∈fp,fV X pins H b)->tn i s.heap->J.stop i H ->
  wpAny (model P w) X.A (pyNext (.ref it)) (λr s1=>r=none/\Inv X pins σ H s1) E s
 self:∀ (A:Around) (i:Nat) (s:Shared) (Q:zd) (E:zd),tn i s.heap->Q (.ref it) s->wpAny (model P w) A (pyIter (.ref it)) Q E s
noncomputable abbrev TI:=St->Hp->(It->Hp->Prop)->Prop
noncomputable def qc (X:Cx) (pins:List (Addr×Obj)) (σ:St) (tg:Expr) (R:It->Hp->Prop) (itv:Value) (s2:Shared):Prop :=
 ∃ (it:Addr) (fp:List Addr) (tn:Nat->Heap->Prop) (J:It) (H':Hp),itv=.ref it/\Inv X pins σ H' s2/\Turn X.prog X.w X.K tg J fp it tn/\tn 0 s2.heap/\(∀ b∈fp,fV X pins H' b)/\R J H'
noncomputable def PI (X:Cx) (tg iter:Expr) (wi:TI):Prop :=
 ∀ (pins:List (Addr×Obj)) (s:Shared) (σ:St) (H:Hp) (R:It->Hp->Prop),Inv X pins σ H s->wi σ H R ->
  wpAny (model X.prog X.w) X.A (eval iter X.env) (λv s1=>wpAny (model X.prog X.w) X.A (pyIter v) (qc X pins σ tg R) X.xe s1) X.xe s
theorem l6 {M:Model} {A:Around} {E:zd} {s:Shared} {tg:Expr} {it:Addr} {u:Value} {o:Obj} {n:String} {vs:Array Value} {Q:Unit->Shared->Prop} (ho:s.heap.get? it=some o) (hc:o.cls=.type n) (hd:o.data=.fields vs)
  (hn:["enumerate","zip","dict_itemiterator","dict_reverseitemiterator","odict_iterator","itertools.zip_longest","itertools.pairwise"].contains n=false) (hQ:Q () s):wpAny M A (letOwnedTupleGo tg (.ref it) u) Q E s:=by
 unfold letOwnedTupleGo
 cases tg <;> first
  | exact wpAny_pure hQ
  | (cases u <;> first
    | exact wpAny_pure hQ
    | (refine wpAny_bind (wpAny_load ho ?_)
       rw [hc,hd]
       show wpAny M A (if (["enumerate","zip","dict_itemiterator","dict_reverseitemiterator","odict_iterator","itertools.zip_longest","itertools.pairwise"].contains n && vs[0]? == some (rawInt _))=true then _ else _) Q E s
       rw [if_neg (by intro h; rw [hn,wW] at h; cases h)]
       exact wpAny_pure hQ))
noncomputable def u7 (K:yY) (a:Addr):It :=
 ⟨λi H=>∃ xs x,SqL K H a xs/\xs[i]?=some x,λi H x H'=>H'=H/\∀ xs,SqL K H a xs->xs[i]?=some x,λi H=>∃ xs,SqL K H a xs/\xs.length<=i⟩
noncomputable def u6 (K:yY) (a:Addr):It :=
 ⟨λi H=>∃ xs x,SqT K H a xs/\xs[i]?=some x,λi H x H'=>H'=H/\∀ xs,SqT K H a xs->xs[i]?=some x,λi H=>∃ xs,SqT K H a xs/\xs.length<=i⟩
noncomputable def jz (lo:Int) (n:Nat):It:=⟨λi _=>i < n,λi H x H'=>H'=H/\x=.int (lo+i),λi _=>n<=i⟩
theorem Zjz {P:Program} {w:World} {K:yY} {tg:Expr} (a it:Addr):Turn P w K tg (u7 K a) [it] it (λi h=>h.IsListIter it a i) where
 mem:=by simp
 obj:=λi h st b hb=>by
  have e:b=it:=by simpa using hb
  subst e
  obtain ⟨o,e,c,d⟩:=st
  exact ⟨o,e,λv z=>by rw [d] at z; cases z⟩
 keep:=λi h h' st k=>st.at λo e=>k it (by simp) o e
 item:=by
  intro X hP hw hK hc i pins s σ H E I hf st hg
  subst hP hw hK
  obtain ⟨xs,x,hq,hx⟩:=hg
  obtain ⟨its,rv,p,hz⟩:=I.list hq
  obtain ⟨u,hu,ru⟩:=rv.get hx
  obtain ⟨f0,f1,f2,f3,f4,f5⟩:=hf it (by simp)
  refine wpAny_pyNext_list_item st p.isList (x:=u) (by simpa using hu) λh' st' sb=>?_
  have I1:Inv X pins σ H { s with heap:=h' }:=I.turned (t':=s.toks) (λb o hb e=>(sb.2 b hb).trans e) f0 f1 f3 f4 f5
  obtain ⟨o,e,c,d⟩:=id st'
  exact ⟨u,rfl,l6 (s:={ s with heap:=h' }) e c d (by decide) ⟨x,H,I1,ru,⟨rfl,λys hy=>by rw [I.list_inj hy hq]; exact hx⟩,st',λb hb=>(hf b hb).1⟩⟩
 done:=by
  intro X hP hw hK hc i pins s σ H E I hf st hg
  subst hP hw hK
  obtain ⟨xs,hq,hx⟩:=hg
  obtain ⟨its,rv,p,hz⟩:=I.list hq
  obtain ⟨f0,f1,f2,f3,f4,f5⟩:=hf it (by simp)
  have hl:=rv.length
  exact wpAny_pyNext_list_end (I.ok.hd hc) st p.isList (by simp; omega) λh' eb=>⟨rfl,I.turned (t':=s.toks) (λb o hb e=>eb b o hb e) f0 f1 f3 f4 f5⟩
 self:=λ_ _ _ _ _ st h=>wpAny_pyIter_listiter st h
theorem Zjw {P:Program} {w:World} {K:yY} {tg:Expr} (a it:Addr):Turn P w K tg (u6 K a) [it] it (λi h=>h.IsTupleIter it a i) where
 mem:=by simp
 obj:=λi h st b hb=>by
  have e:b=it:=by simpa using hb
  subst e
  obtain ⟨o,e,c,d⟩:=st
  exact ⟨o,e,λv z=>by rw [d] at z; cases z⟩
 keep:=λi h h' st k=>st.at λo e=>k it (by simp) o e
 item:=by
  intro X hP hw hK hc i pins s σ H E I hf st hg
  subst hP hw hK
  obtain ⟨xs,x,hq,hx⟩:=hg
  obtain ⟨its,rv,p,hz⟩:=I.tuple hq
  obtain ⟨u,hu,ru⟩:=rv.get hx
  obtain ⟨f0,f1,f2,f3,f4,f5⟩:=hf it (by simp)
  refine wpAny_pyNext_tuple_item st (show s.heap.IsTuple a its.toArray from p) (x:=u) (by simpa using hu) λh' st' sb=>?_
  have I1:Inv X pins σ H { s with heap:=h' }:=I.turned (t':=s.toks) (λb o hb e=>(sb.2 b hb).trans e) f0 f1 f3 f4 f5
  obtain ⟨o,e,c,d⟩:=id st'
  exact ⟨u,rfl,l6 (s:={ s with heap:=h' }) e c d (by decide) ⟨x,H,I1,ru,⟨rfl,λys hy=>by rw [I.tuple_inj hy hq]; exact hx⟩,st',λb hb=>(hf b hb).1⟩⟩
 done:=by
  intro X hP hw hK hc i pins s σ H E I hf st hg
  subst hP hw hK
  obtain ⟨xs,hq,hx⟩:=hg
  obtain ⟨its,rv,p,hz⟩:=I.tuple hq
  obtain ⟨f0,f1,f2,f3,f4,f5⟩:=hf it (by simp)
  have hl:=rv.length
  exact wpAny_pyNext_tuple_end (I.ok.hd hc) st (show s.heap.IsTuple a its.toArray from p) (by simp; omega) λh' eb=>⟨rfl,I.turned (t':=s.toks) (λb o hb e=>eb b o hb e) f0 f1 f3 f4 f5⟩
 self:=λ_ _ _ _ _ st h=>wpAny_pyIter_tupleiter st h
theorem Zjy {P:Program} {w:World} {K:yY} {tg:Expr} (it:Addr) (lo:Int) (n:Nat):Turn P w K tg (jz lo n) [it] it (λi h=>IsRangeIter h it (lo+(i:Nat) * 1) ((n:Int) - (i:Nat)) 1) where
 mem:=by simp
 obj:=λi h st b hb=>by
  have e:b=it:=by simpa using hb
  subst e
  exact ⟨_,st,λv z=>by
   have z':Data.fields _=Data.cell v:=z
   cases z'⟩
 keep:=λi h h' st k=>k it (by simp) _ st
 item:=by
  intro X hP hw hK hc i pins s σ H E I hf st hg
  subst hP hw hK
  obtain ⟨f0,f1,f2,f3,f4,f5⟩:=hf it (by simp)
  have W:=Walks.range (prog:=X.prog) (w:=X.w) (I.ok.hd hc) it lo 1 n
  refine W.item i s _ _ hg st λv h' tk hv st' kk=>?_
  obtain ⟨t,rfl⟩:=hv
  have I1:Inv X pins σ H { s with heap:=h',toks:=tk }:=I.turned (λb o hb e=>kk b o (by simpa using hb) e) f0 f1 f3 f4 f5
  refine ⟨_,rfl,l6 (s:={ s with heap:=h',toks:=tk }) (n:="range_iterator") st' rfl rfl (by decide) ⟨.int (lo+i),H,I1,⟨t,?_⟩,⟨rfl,rfl⟩,st',λb hb=>(hf b hb).1⟩⟩
  rw [xU]
 done:=by
  intro X hP hw hK hc i pins s σ H E I hf st hg
  subst hP hw hK
  obtain ⟨f0,f1,f2,f3,f4,f5⟩:=hf it (by simp)
  exact wpAny_pyNext_range_end (I.ok.hd hc) st (by have:n<=i:=hg; omega) λh' eb=>⟨rfl,I.turned (t':=s.toks) (λb o hb e=>eb b o hb e) f0 f1 f3 f4 f5⟩
 self:=λ_ _ _ _ _ st h=>wpAny_pyIter_rangeiter st h
section
variable {X:Cx} {tg:Expr}
theorem Zb2 {pins:List (Addr×Obj)} {σ:St} {H:Hp} {s:Shared} {R:It->Hp->Prop} {E:zd} {lo hi:Int} {t u v:Tok} {tk:Nat} (I:Inv X pins σ H s) (h1:-(2 ^ 62)<=lo) (h2:lo < 2 ^ 62) (h3:-(2 ^ 62)<=hi) (h4:hi < 2 ^ 62)
  (q:R (jz lo (hi - lo).toNat) H):wpAny (model X.prog X.w) X.A (pyIter (.ref s.heap.objs.size)) (qc X pins σ tg R) E { s with heap:=s.heap.push { cls:=.type "range",data:=.fields #[.int lo t,.int hi u,.int 1 v] },toks:=tk }:=by
 refine wpAny_pyIter_range (IsRange.new ..) (small_one h1 h2 h3 h4) ?_
 have I1:Inv X pins σ H { s with heap:=s.heap.push { cls:=.type "range",data:=.fields #[.int lo t,.int hi u,.int 1 v] },toks:=tk }:=I.kept λb o e=>vc _ e
 refine ⟨(s.heap.push { cls:=.type "range",data:=.fields #[.int lo t,.int hi u,.int 1 v] }).objs.size,[(s.heap.push { cls:=.type "range",data:=.fields #[.int lo t,.int hi u,.int 1 v] }).objs.size],_,_,H,rfl,
  I1.kept (t':=tk) λb o e=>vc _ e,Zjy _ lo (hi - lo).toNat,?_,λb hb=>?_,q⟩
 ·have e1:lo+((0:Nat):Int) * 1=lo:=by simp
  have e2:(((hi - lo).toNat:Nat):Int) - ((0:Nat):Int)=Builtin.Range.rangeSize lo hi 1:=by rw [rangeSize_one]; split <;> omega
  show IsRangeIter _ _ (lo+((0:Nat):Int) * 1) ((((hi - lo).toNat:Nat):Int) - ((0:Nat):Int)) 1
  rw [e1,e2]
  exact vn _ rfl
 ·have e:b=(s.heap.push { cls:=.type "range",data:=.fields #[.int lo t,.int hi u,.int 1 v] }).objs.size:=by simpa using hb
  subst e
  exact I1.fpOk (vo _) (I1.hok.fresh (vo _))
def ZdW (ta:TA):TI:=λσ H R=>ta σ H λvs H1=>∃ j:Int,vs=[.int j]/\-(2 ^ 62)<=j/\j < 2 ^ 62/\R (jz 0 j.toNat) H1
def ZdV (ta:TA):TI:=λσ H R=>ta σ H λvs H1=>∃ i j:Int,vs=[.int i,.int j]/\(-(2 ^ 62)<=i/\i < 2 ^ 62/\-(2 ^ 62)<=j/\j < 2 ^ 62)/\R (jz i (j - i).toNat) H1
theorem ib {a:Expr} {ta:TA} {p pos:Pos} (hg:Gl X "range") (hm:X.mg "range"=none) (ha:PA X [a] ta) (hs:starEach [a] X.env=[(false,eval a X.env)]:=by rfl):PI X tg (.Call (.Name "range" p) [a] [] pos) (ZdW ta):=by
 intro pins s σ H R I h
 refine Call_ (ir I hg hm boot_range (wp (thn (ha pos pins s σ H _ I h) λus s1 hz0=>?_) hs rfl))
 obtain ⟨vs,H1,I1,r1,q1⟩:=hz0
 obtain ⟨j,e,q1,q2,q⟩:=q1
 subst e
 cases r1 with
 | cons r rr =>
  cases rr
  obtain ⟨t,rfl⟩:=r
  exact call_range_1 (Zb2 I1 (by omega) (by omega) q1 q2 (by simpa using q))
theorem Zlx {a b:Expr} {ta:TA} {p pos:Pos} (hg:Gl X "range") (hm:X.mg "range"=none) (ha:PA X [a,b] ta) (hs:starEach [a,b] X.env=[(false,eval a X.env),(false,eval b X.env)]:=by rfl) (hs2:starEach [b] X.env=[(false,eval b X.env)]:=by rfl) :
  PI X tg (.Call (.Name "range" p) [a,b] [] pos) (ZdV ta):=by
 intro pins s σ H R I h
 refine Call_ (ir I hg hm boot_range (wp (thn (ha pos pins s σ H _ I h) λus s1 hz0=>?_) (by rw [hs,hs2]) (by rw [hs2]; rfl)))
 obtain ⟨vs,H1,I1,r1,q1⟩:=hz0
 obtain ⟨i,j,e,⟨q1,q2,q3,q4⟩,q⟩:=q1
 subst e
 cases r1 with
 | cons r rr =>
  cases rr with
  | cons r' rr =>
   cases rr
   obtain ⟨t,rfl⟩:=r
   obtain ⟨t',rfl⟩:=r'
   exact call_range_2 (Zb2 I1 q1 q2 q3 q4 q)
def Zj2 (wi:TI) (g:TG) (tb:TS):TS:=λD σ H=>wi σ H λJ H1=>∃ W:Nat->Nat->St->Hp->Prop,(∃ m,W 0 m σ H1)/\∀ i m σ H,W i m σ H ->
 (J.stop i H/\D.nx σ H)\/(J.go i H/\∃ N:St->Hp->Prop,(∀ σ' H',N σ' H'->∃ m',m' < m/\W (i+1) m' σ' H')/\∀ x H',J.yld i H x H'->g x σ H' λσ2 H2=>tb { D with nx:=N,ct:=N,bk:=D.nx } σ2 H2)
noncomputable def nJ (fp:List Addr) (h:Heap):List (Addr×Obj):=fp.filterMap λb=>(h.get? b).map λo=>(b,o)
theorem im {fp:List Addr} {h:Heap} {b:Addr} {o:Obj} (hb:b∈fp) (e:h.get? b=some o):(b,o)∈nJ fp h:=List.mem_filterMap.mpr ⟨b,hb,by rw [e]; rfl⟩
theorem Zmf {fp:List Addr} {h:Heap} {p:Addr×Obj} (hp:p∈nJ fp h):p.1∈fp/\h.get? p.1=some p.2:=by
 obtain ⟨b,hb,e⟩:=List.mem_filterMap.mp hp
 cases q:h.get? b with
 | none=>rw [q] at e; cases e
 | some o =>
  rw [q] at e
  have e':(b,o)=p:=vX e
  subst e'
  exact ⟨hb,q⟩
theorem Inv.pinned {pins:List (Addr×Obj)} {σ:St} {H:Hp} {s:Shared} {fp:List Addr} (I:Inv X pins σ H s) (hf:∀ b∈fp,fV X pins H b) (ho:∀ b∈fp,∃ o,s.heap.get? b=some o/\∀ v,o.data≠.cell v):Inv X (pins++nJ fp s.heap) σ H s :=
 I.pins_of λp hp=>(wS.mp hp).elim (λz=>I.pin p (vz _ z)) λz=>by
  obtain ⟨hb,e⟩:=Zmf z
  obtain ⟨f0,f1,f2,_⟩:=hf p.1 hb
  obtain ⟨o,e',d⟩:=ho p.1 hb
  rw [e] at e'; cases e'
  exact ⟨e,f0,f1,f2,d⟩
theorem Inv.unpinned {pins pl:List (Addr×Obj)} {σ:St} {H:Hp} {s:Shared} (I:Inv X (pins++pl) σ H s):Inv X pins σ H s:=I.pins_of λp hp=>I.pin p (vz _ (wk _ hp))
theorem Zlq {iter:Expr} {body:List Stmt} {wi:TI} {g:TG} {tb:TS} {pos:Pos} (hp:PassesOwn (model X.prog X.w) X.A X.env X.xe) (hc:X.calm=true) (hi:PI X tg iter wi) (hg:PG X tg g) (hb:PSs X body tb)
  (hs:∀ x,foldedSetIterable iter X.env x=pure x:=by intro _; rfl):PS X (.For tg iter body [] pos) (Zj2 wi g tb):=by
 intro pins s σ H D I h
 refine wpAny_For (thn (hi pins s σ H _ I h) λv s1 h1=>thn h1 λitv s2 h2=>?_) hs
 obtain ⟨it,fp,tn,J,H2,e,I2,T,st2,f2,W,⟨m0,w0⟩,turn⟩:=h2
 subst e
 -- what stays true of the iterator's objects through the loop
 have stat:∀ {H':Hp},(∀ b∈fp,H' b=none)->∀ b∈fp,fV X pins H' b:=λhn b hb=>⟨hn b hb,(f2 b hb).2⟩
 refine codeAny_forLoop_any (λn s'=>∃ i σ' H',Inv X pins σ' H' s'/\tn i s'.heap/\(∀ b∈fp,H' b=none)/\W i n σ' H') ?_ m0 ⟨0,σ,H2,I2,st2,λb hb=>(f2 b hb).1,w0⟩
 rintro n s3 ⟨i,σ3,H3,I3,st3,fr3,w3⟩
 rcases turn i n σ3 H3 w3 with ⟨stop,qn⟩ | ⟨go,N,hN,step⟩
 ·refine wpAny_passesOwn hp (thn (T.done X rfl rfl rfl hc i pins s3 σ3 H3 X.xe I3 (stat fr3) st3 stop) λr s4 hz0=>?_)
  obtain ⟨hr,I4⟩:=hz0
  subst hr
  exact wpAny_execs_nil ⟨σ3,H3,I4,qn⟩
 ·refine wpAny_passesOwn hp (thn (T.item X rfl rfl rfl hc i pins s3 σ3 H3 X.xe I3 (stat fr3) st3 go) λr s4 hz0=>?_)
  obtain ⟨u,hr,h4⟩:=hz0
  subst hr
  refine wpAny_passesOwn hp (thn h4 λ_ s5 hz0=>?_)
  obtain ⟨x,H5,I5,r5,y5,st5,fr5⟩:=hz0
  have I5':=I5.pinned (stat fr5) (T.obj _ _ st5)
  refine wpAny_passesOwn hp (thn (hg _ s5 σ3 H5 x u _ I5' r5 (step x H5 y5)) λ_ s6 hz0=>?_)
  obtain ⟨σ6,H6,I6,q6⟩:=hz0
  refine wpAny_passesOwn hp (thn (hb _ s6 σ6 H6 _ I6 q6) λf s7 q7=>?_)
  have again:∀ {σ7:St} {H7:Hp},Inv X (pins++nJ fp s5.heap) σ7 H7 s7->N σ7 H7->∃ m,m < n/\∃ i σ' H',Inv X pins σ' H' s7/\tn i s7.heap/\(∀ b∈fp,H' b=none)/\W i m σ' H':=λ{σ7 H7} I7 n7=>by
   obtain ⟨m',hm,w7⟩:=hN σ7 H7 n7
   refine ⟨m',hm,i+1,σ7,H7,I7.unpinned,T.keep _ _ _ st5 λb hb o e=>(I7.pin (b,o) (vz _ (vz _ (im hb e)))).1,λb hb=>?_,w7⟩
   obtain ⟨o,e,d⟩:=T.obj _ _ st5 b hb
   exact (I7.pin (b,o) (vz _ (vz _ (im hb e)))).2.1
  cases f with
  | next=>obtain ⟨σ7,H7,I7,n7⟩:=q7; exact again I7 n7
  | cont=>obtain ⟨σ7,H7,I7,n7⟩:=q7; exact again I7 n7
  | brk=>obtain ⟨σ7,H7,I7,q7⟩:=q7; exact ⟨σ7,H7,I7.unpinned,q7⟩
  | ret v=>obtain ⟨x7,σ7,H7,I7,r7,q7⟩:=q7; exact ⟨x7,σ7,H7,I7.unpinned,r7,q7⟩
end
noncomputable abbrev R2:=V->V->Hp->VK->Prop
noncomputable def OpR (X:Cx) (f:Value->Value->Sem Value) (r:R2):Prop :=
 ∀ (pins:List (Addr×Obj)) (s:Shared) (σ:St) (H:Hp) (x y:V) (v u:Value) (Q:VK),Inv X pins σ H s->RelV x v->RelV y u->r x y H Q ->
  wpAny (model X.prog X.w) X.A (f v u) (EP X pins σ Q) X.xe s
noncomputable def uX (X:Cx) (f:Value->Sem Value) (r:V->Hp->VK->Prop):Prop :=
 ∀ (pins:List (Addr×Obj)) (s:Shared) (σ:St) (H:Hp) (x:V) (v:Value) (Q:VK),Inv X pins σ H s->RelV x v->r x H Q ->
  wpAny (model X.prog X.w) X.A (f v) (EP X pins σ Q) X.xe s
noncomputable def dE (X:Cx) (f:Value) (r:List V->Hp->VK->Prop):Prop :=
 ∀ (pins:List (Addr×Obj)) (s:Shared) (σ:St) (H:Hp) (xs:zi) (us:zg) (Q:VK),Inv X pins σ H s->Vals xs us->r xs H Q ->
  wpAny (model X.prog X.w) X.A (call f us) (EP X pins σ Q) X.xe s
noncomputable def ZqW (X:Cx) (r:V->Hp->(Bool->Hp->Prop)->Prop):Prop :=
 ∀ (pins:List (Addr×Obj)) (s:Shared) (σ:St) (H:Hp) (x:V) (v:Value) (Q:Bool->Hp->Prop),Inv X pins σ H s->RelV x v->r x H Q ->
  wpAny (model X.prog X.w) X.A (truthy v) (TP X pins σ Q) X.xe s
def iL (r:R2) (ta tb:TE):TE:=λσ H Q=>ta σ H λx H1=>tb σ H1 λy H2=>r x y H2 Q
def tUn (r:V->Hp->VK->Prop) (ta:TE):TE:=λσ H Q=>ta σ H λx H1=>r x H1 Q
noncomputable def rI (C:Int->Int->Prop) (g:Int->Int->V):R2:=λx y H Q=>∃ i j,x=.int i/\y=.int j/\C i j/\Q (g i j) H
noncomputable def eS (g:Int->Int->V):R2:=λx y H Q=>∃ i j,x=.int i/\y=.int j/\Q (g i j) H
noncomputable def rU (g:Int->V):V->Hp->VK->Prop:=λx H Q=>∃ i,x=.int i/\Q (g i) H
section
variable {X:Cx} {a b c:Expr} {ta tb tc:TE} {pos:Pos}
theorem uq (ha:PE X a ta) (hb:PE X b tb) {pins:List (Addr×Obj)} {s:Shared} {σ:St} {H:Hp} {R:V->V->Hp->Prop} (I:Inv X pins σ H s)
  (h:ta σ H λx H1=>tb σ H1 λy H2=>R x y H2) {Q:zd} {f:Value->Value->Sem Value}
  (hf:∀ v u s2 x y H2,Inv X pins σ H2 s2->RelV x v->RelV y u->R x y H2->wpAny (model X.prog X.w) X.A (f v u) Q X.xe s2) :
  wpAny (model X.prog X.w) X.A (eval a X.env) (λv s₁=>wpAny (model X.prog X.w) X.A (eval b X.env) (λu s₂=>wpAny (model X.prog X.w) X.A (f v u) Q X.xe s₂) X.xe s₁) X.xe s:=by
 refine thn (ha pins s σ H _ I h) λv s1 hz0=>?_
 obtain ⟨x,H1,I1,r1,q1⟩:=hz0
 refine thn (hb pins s1 σ H1 _ I1 q1) λu s2 hz0=>?_
 obtain ⟨y,H2,I2,r2,q2⟩:=hz0
 exact hf v u s2 x y H2 I2 r1 r2 q2
theorem ci {op:Operator} {r:R2} (ho:OpR X (binaryOp op) r) (ha:PE X a ta) (hb:PE X b tb):PE X (.BinOp a op b pos) (iL r ta tb):=by
 intro pins s σ H Q I h
 exact wpAny_BinOp (uq ha hb I h λv u s2 x y H2 I2 rx ry q=>ho pins s2 σ H2 x y v u Q I2 rx ry q)
theorem ZlG {op:UnaryOp} {r:V->Hp->VK->Prop} (ho:uX X (unaryOp op) r) (ha:PE X a ta):PE X (.UnaryOp op a pos) (tUn r ta):=by
 intro pins s σ H Q I h
 exact UnaryOp_ (thn (ha pins s σ H _ I h) λv s1 ⟨x,H1,I1,r1,q1⟩=>ho pins s1 σ H1 x v Q I1 r1 q1)
theorem ii {f:Value->Value->Sem Value} {C:Int->Int->Prop} {g:Int->Int->Int}
  (rule:∀ (i j:Int) (t u:Tok) (s:Shared) (Q:zd) (E:zd),C i j->Q (.int (g i j) s.toks) { s with toks:=s.toks+1 }->wpAny (model X.prog X.w) X.A (f (.int i t) (.int j u)) Q E s) :
  OpR X f (rI C λi j=>.int (g i j)):=by
 intro pins s σ H x y v u Q I rx ry h
 obtain ⟨i,j,rfl,rfl,hc,q⟩:=h
 obtain ⟨t,rfl⟩:=rx
 obtain ⟨t',rfl⟩:=ry
 exact rule i j t t' s _ _ hc ⟨.int (g i j),H,I.tok _,⟨_,rfl⟩,q⟩
theorem sD {f:Value->Value->Sem Value} {g:Int->Int->Int}
  (rule:∀ (i j:Int) (t u:Tok) (s:Shared) (Q:zd) (E:zd),Q (.int (g i j) s.toks) { s with toks:=s.toks+1 }->wpAny (model X.prog X.w) X.A (f (.int i t) (.int j u)) Q E s) :
  OpR X f (eS λi j=>.int (g i j)):=by
 intro pins s σ H x y v u Q I rx ry h
 obtain ⟨i,j,rfl,rfl,q⟩:=h
 obtain ⟨t,rfl⟩:=rx
 obtain ⟨t',rfl⟩:=ry
 exact rule i j t t' s _ _ ⟨.int (g i j),H,I.tok _,⟨_,rfl⟩,q⟩
theorem nT {f:Value->Value->Sem Value} {g:Int->Int->Bool}
  (rule:∀ (i j:Int) (t u:Tok) (s:Shared) (Q:zd) (E:zd),Q (.bool (g i j)) s->wpAny (model X.prog X.w) X.A (f (.int i t) (.int j u)) Q E s) :
  OpR X f (eS λi j=>.bl (g i j)):=by
 intro pins s σ H x y v u Q I rx ry h
 obtain ⟨i,j,rfl,rfl,q⟩:=h
 obtain ⟨t,rfl⟩:=rx
 obtain ⟨t',rfl⟩:=ry
 exact rule i j t t' s _ _ ⟨.bl (g i j),H,I,rfl,q⟩
def ZrB (i j:Int):Prop:=0 < j/\j < 1073741824
def Zi7 (i j:Int):Prop:=0<=j/\j<=1000000/\i.natAbs < 2 ^ 64
def CMul (i j:Int):Prop:=(-(2 ^ 64) < i/\i < 2 ^ 64)\/(-(2 ^ 64) < j/\j < 2 ^ 64)
theorem CMul.ok {i j:Int} (h:CMul i j):IntMulOk i j:=by
 rcases h with ⟨h1,h2⟩ | ⟨h1,h2⟩
 ·exact .of_left (intBits_le_64 h1 h2)
 ·exact .of_right (intBits_le_64 h1 h2)
theorem ig:OpR X (binaryOp .Add) (eS λi j=>.int (i+j)):=sD λ_ _ _ _ _ _ _ q=>add_int q
theorem cj:OpR X (binaryOp .Sub) (eS λi j=>.int (i - j)):=sD λ_ _ _ _ _ _ _ q=>sub_int q
theorem nQ:OpR X (binaryOp .Mult) (rI CMul λi j=>.int (i * j)):=ii λ_ _ _ _ _ _ _ hc q=>mul_int q hc.ok
theorem sC:OpR X (binaryOp .FloorDiv) (rI ZrB λi j=>.int (i / j)):=ii λi j _ _ _ _ _ hc q=>by
 have h1:(0:Int) < j:=hc.1
 have h2:j < 1073741824:=hc.2
 exact floordiv_int (by omega) (by rw [wJ i (by omega)]; exact q) (.inl (PyProof.noPylong_small (by omega)))
theorem fZ:OpR X (binaryOp .Mod) (rI (λ_ j=>0 < j) λi j=>.int (i % j)):=ii λi j _ _ _ _ _ hc q=>by
 have h1:(0:Int) < j:=hc
 exact mod_int' (by omega) (by rw [yJ i (by omega)]; exact q)
theorem nR:OpR X (binaryOp .Mod) (rI (λ_ j=>j≠0) λi j=>.int (i.fmod j)):=ii λ_ _ _ _ _ _ _ hc q=>mod_int' hc q
theorem sA:OpR X (binaryOp .Pow) (rI Zi7 λi j=>.int (i ^ j.toNat)):=ii λ_ _ _ _ _ _ _ hc q=>pow_int_small hc.1 hc.2.1 hc.2.2 q
theorem Znx:OpR X (inplaceOp .Add) (eS λi j=>.int (i+j)):=sD λ_ _ _ _ _ _ _ q=>iadd_int q
theorem unI {f:Value->Sem Value} {g:Int->Int}
  (rule:∀ (i:Int) (t:Tok) (s:Shared) (Q:zd) (E:zd),Q (.int (g i) s.toks) { s with toks:=s.toks+1 }->wpAny (model X.prog X.w) X.A (f (.int i t)) Q E s) :
  uX X f (rU λi=>.int (g i)):=by
 intro pins s σ H x v Q I rx h
 obtain ⟨i,rfl,q⟩:=h
 obtain ⟨t,rfl⟩:=rx
 exact rule i t s _ _ ⟨.int (g i),H,I.tok _,⟨_,rfl⟩,q⟩
theorem Zjt:uX X (unaryOp .USub) (rU λi=>.int (-i)):=unI λ_ _ _ _ _ q=>neg_int q
end
noncomputable def scal:V->V->Bool
 | .non,.non=>true | .non,.int _=>true | .int _,.non=>true | .non,.bl _=>true | .bl _,.non=>true | .non,.str _=>true | .str _,.non=>true
 | .int _,.int _=>true | .bl _,.bl _=>true | .str _,.str _=>true | .byt _,.byt _=>true
 | .int _,.str _=>true | .str _,.int _=>true | .bl _,.str _=>true | .str _,.bl _=>true
 | _,_=>false
noncomputable def rEq:R2:=λx y H Q=>scal x y=true/\Q (.bl (decide (x=y))) H
noncomputable def rNe:R2:=λx y H Q=>scal x y=true/\Q (.bl (!decide (x=y))) H
theorem ZhR {i j:Int}:decide (V.int i=V.int j)=(i == j):=by
 rw [xB]
 simp
theorem ZhT {i j:Bool}:decide (V.bl i=V.bl j)=(i == j):=by
 rw [xB]
 simp
theorem o9 {i j:Str}:decide (V.str i=V.str j)=(i == j):=by
 rw [xB]
 simp
theorem ZhS {i j:Array UInt8}:decide (V.byt i=V.byt j)=(i.toList == j.toList):=by
 rw [xB]
 cases i
 cases j
 simp
section
variable {X:Cx} {a b c:Expr} {ta tb tc:TE} {pos:Pos}
theorem b9 {pins:List (Addr×Obj)} {σ:St} {H:Hp} {s:Shared} {Q:VK} {k k':Bool} (I:Inv X pins σ H s) (q:Q (.bl k) H) (e:k=k'):EP X pins σ Q (.bool k') s:=by
 subst e
 exact ⟨.bl k,H,I,rfl,q⟩
theorem Zl4:OpR X (compareOp .Eq) rEq:=by
 intro pins s σ H x y v u Q I rx ry h
 obtain ⟨hs,q⟩:=h
 cases x with
 | non =>
  cases rx
  cases y with
  | non=>cases ry; exact PySem.EqNone.eq_none_none (b9 I q (by simp))
  | bl j=>cases ry; exact PySem.EqNone.eq_none_bool (b9 I q (by simp))
  | int j=>obtain ⟨t',rfl⟩:=ry; exact PySem.EqNone.eq_none_int (b9 I q (by simp))
  | str j=>obtain ⟨t',rfl⟩:=ry; exact PySem.EqNone.eq_none_str (b9 I q (by simp))
  | _=>exact absurd (show false=true from hs) vD
 | bl i =>
  cases rx
  cases y with
  | non=>cases ry; exact PySem.EqNone.eq_bool_none (b9 I q (by simp))
  | bl j=>cases ry; exact eq_bool (b9 I q ZhT)
  | str j=>obtain ⟨t',rfl⟩:=ry; exact PySem.EqMixed.eq_bool_str (b9 I q (by simp))
  | _=>exact absurd (show false=true from hs) vD
 | int i =>
  obtain ⟨t,rfl⟩:=rx
  cases y with
  | non=>cases ry; exact PySem.EqNone.eq_int_none (b9 I q (by simp))
  | int j=>obtain ⟨t',rfl⟩:=ry; exact eq_int (b9 I q ZhR)
  | str j=>obtain ⟨t',rfl⟩:=ry; exact PySem.EqMixed.eq_int_str (b9 I q (by simp))
  | _=>exact absurd (show false=true from hs) vD
 | str i =>
  obtain ⟨t,rfl⟩:=rx
  cases y with
  | non=>cases ry; exact PySem.EqNone.eq_str_none (b9 I q (by simp))
  | bl j=>cases ry; exact PySem.EqMixed.eq_str_bool (b9 I q (by simp))
  | int j=>obtain ⟨t',rfl⟩:=ry; exact PySem.EqMixed.eq_str_int (b9 I q (by simp))
  | str j=>obtain ⟨t',rfl⟩:=ry; exact eq_str (b9 I q o9)
  | _=>exact absurd (show false=true from hs) vD
 | byt i =>
  obtain ⟨t,rfl⟩:=rx
  cases y with
  | byt j=>obtain ⟨t',rfl⟩:=ry; exact PySem.W.eq_bytes (b9 I q ZhS)
  | _=>exact absurd (show false=true from hs) vD
 | _=>cases y <;> exact absurd (show false=true from hs) vD
theorem Zl0:OpR X (compareOp .NotEq) rNe:=by
 intro pins s σ H x y v u Q I rx ry h
 obtain ⟨hs,q⟩:=h
 cases x with
 | non =>
  cases rx
  cases y with
  | non=>cases ry; exact PySem.EqNone.ne_none_none (b9 I q (by simp))
  | bl j=>cases ry; exact PySem.EqNone.ne_none_bool (b9 I q (by simp))
  | int j=>obtain ⟨t',rfl⟩:=ry; exact PySem.EqNone.ne_none_int (b9 I q (by simp))
  | str j=>obtain ⟨t',rfl⟩:=ry; exact PySem.EqNone.ne_none_str (b9 I q (by simp))
  | _=>exact absurd (show false=true from hs) vD
 | bl i =>
  cases rx
  cases y with
  | non=>cases ry; exact PySem.EqNone.ne_bool_none (b9 I q (by simp))
  | bl j=>cases ry; exact ne_bool (b9 I q (congrArg not ZhT))
  | str j=>obtain ⟨t',rfl⟩:=ry; exact PySem.EqMixed.ne_bool_str (b9 I q (by simp))
  | _=>exact absurd (show false=true from hs) vD
 | int i =>
  obtain ⟨t,rfl⟩:=rx
  cases y with
  | non=>cases ry; exact PySem.EqNone.ne_int_none (b9 I q (by simp))
  | int j=>obtain ⟨t',rfl⟩:=ry; exact ne_int (b9 I q (congrArg not ZhR))
  | str j=>obtain ⟨t',rfl⟩:=ry; exact PySem.EqMixed.ne_int_str (b9 I q (by simp))
  | _=>exact absurd (show false=true from hs) vD
 | str i =>
  obtain ⟨t,rfl⟩:=rx
  cases y with
  | non=>cases ry; exact PySem.EqNone.ne_str_none (b9 I q (by simp))
  | bl j=>cases ry; exact PySem.EqMixed.ne_str_bool (b9 I q (by simp))
  | int j=>obtain ⟨t',rfl⟩:=ry; exact PySem.EqMixed.ne_str_int (b9 I q (by simp))
  | str j=>obtain ⟨t',rfl⟩:=ry; exact ne_str (b9 I q (congrArg not o9))
  | _=>exact absurd (show false=true from hs) vD
 | byt i =>
  obtain ⟨t,rfl⟩:=rx
  cases y with
  | byt j=>obtain ⟨t',rfl⟩:=ry; exact PySem.W.ne_bytes (b9 I q (congrArg not ZhS))
  | _=>exact absurd (show false=true from hs) vD
 | _=>cases y <;> exact absurd (show false=true from hs) vD
theorem ie:OpR X (compareOp .Lt) (eS λi j=>.bl (decide (i < j))):=nT λ_ _ _ _ _ _ _ q=>lt_int q
theorem sB:OpR X (compareOp .LtE) (eS λi j=>.bl (decide (i<=j))):=nT λ_ _ _ _ _ _ _ q=>le_int q
theorem fL:OpR X (compareOp .Gt) (eS λi j=>.bl (decide (j < i))):=nT λ_ _ _ _ _ _ _ q=>gt_int q
theorem ZcQ:OpR X (compareOp .GtE) (eS λi j=>.bl (decide (j<=i))):=nT λ_ _ _ _ _ _ _ q=>ge_int q
theorem OpR.or {f:Value->Value->Sem Value} {r r':R2} (h:OpR X f r) (h':OpR X f r'):OpR X f (λx y H Q=>r x y H Q\/r' x y H Q):=by
 intro pins s σ H x y v u Q I rx ry q
 rcases q with q | q
 ·exact h pins s σ H x y v u Q I rx ry q
 ·exact h' pins s σ H x y v u Q I rx ry q
theorem nomark (b:Expr) {op:CmpOp} (h:op≠.In:=by decide) (h2:op≠.NotIn:=by decide):behindInMarks op b=false:=by
 have e1:(op == CmpOp.In)=false:=by cases op <;> first | rfl | exact absurd rfl h
 have e2:(op == CmpOp.NotIn)=false:=by cases op <;> first | rfl | exact absurd rfl h2
 cases b <;> first | rfl | (show (_ && (op == CmpOp.In || op == CmpOp.NotIn) && _)=false; rw [e1,e2,Bool.or_false,yQ,wW])
theorem ZlP {op:CmpOp} {r:R2} (ho:OpR X (compareOp op) r) (ha:PE X a ta) (hb:PE X b tb) (hm:behindInMarks op b=false):PE X (.Compare a [op] [b] pos) (iL r ta tb):=by
 intro pins s σ H Q I h
 exact wpAny_Compare1 (uq ha hb I h λv u s2 x y H2 I2 rx ry q=>ho pins s2 σ H2 x y v u Q I2 rx ry q) hm
def mY (t:TE):TT:=λσ H Q=>t σ H λx H'=>∃ k,x=.bl k/\Q k H'
theorem lq {op:CmpOp} {r:R2} (ho:OpR X (compareOp op) r) (ha:PE X a ta) (hb:PE X b tb) (hm:behindInMarks op b=false):PT X (.Compare a [op] [b] pos) (mY (iL r ta tb)):=by
 intro pins s σ H Q I h
 refine wpAny_isTrue_Compare1 (thn (ha pins s σ H _ I h) λv s1 ⟨x,H1,I1,r1,q1⟩=>thn (hb pins s1 σ H1 _ I1 q1) λu s2 ⟨y,H2,I2,r2,q2⟩ =>
  thn (ho pins s2 σ H2 x y v u _ I2 r1 r2 q2) λc s3 ⟨z,H3,I3,r3,k,e,q3⟩=>?_) hm
 subst e
 cases r3
 exact wpAny_truthy_bool ⟨H3,I3,q3⟩
def Zat (r r':R2) (ta tb tc:TE):TE:=λσ H Q=>ta σ H λx H1=>tb σ H1 λy H2=>r x y H2 λz H3=>∃ k,z=.bl k /\
 (if k=true then tc σ H3 λw' H4=>r' y w' H4 Q else Q (.bl false) H3)
theorem ZlQ {op op':CmpOp} {r r':R2} (ho:OpR X (compareOp op) r) (ho':OpR X (compareOp op') r') (ha:PE X a ta) (hb:PE X b tb) (hc:PE X c tc)
  (hm:lastMarks [op,op'] [b,c]=false:=by with_unfolding_all rfl):PE X (.Compare a [op,op'] [b,c] pos) (Zat r r' ta tb tc):=by
 intro pins s σ H Q I h
 refine Compare_chain (thn (ha pins s σ H _ I h) λv s1 ⟨x,H1,I1,r1,q1⟩=>chain_link (thn (hb pins s1 σ H1 _ I1 q1) λu s2 ⟨y,H2,I2,r2,q2⟩ =>
  thn (ho pins s2 σ H2 x y v u _ I2 r1 r2 q2) λd s3 ⟨z,H3,I3,r3,k,e,q3⟩=>?_)) hm
 subst e
 cases r3
 refine wpAny_truthy_bool ?_
 cases k with
 | false=>exact ite_ff ⟨.bl false,H3,I3,rfl,q3⟩
 | true=>exact ite_tt (chain_last (thn (hc pins s3 σ H3 _ I3 q3) λw' s4 ⟨z',H4,I4,r4,q4⟩=>ho' pins s4 σ H4 y z' u w' Q I4 r2 r4 q4))
noncomputable def ZiY (K:yY) (x:V) (H:Hp) (k:Bool):Prop :=
 match x with
 | .non=>k=false
 | .bl b=>k=b
 | .int i=>k=(i != 0)
 | .str y=>y.length<=sizeLine/\k=((y.length:Int) != 0)
 | .byt y=>y.size<=sizeLine/\k=((y.size:Int) != 0)
 | .ref p=>(∃ xs,SqL K H p xs/\k=!xs.isEmpty)\/(∃ xs,SqT K H p xs/\k=!xs.isEmpty)\/∃ kvs,H p=some (.dK kvs)/\k=!kvs.isEmpty
 | _=>False
theorem Znu {κ:Type} {kvs:List (κ×V)} {vs:List (κ×Value)} (r:KV kvs vs):(!vs.isEmpty)=!kvs.isEmpty:=by
 cases r <;> rfl
theorem ZdP {xs:zi} {its:zg} (r:Vals xs its):(!its.toArray.isEmpty)=!xs.isEmpty:=by
 cases r <;> simp
theorem iq:(sizeLine:Nat) < 2 ^ 63:=by rw [sizeLine_eq]; decide
theorem ZjD:ZqW X (λx H Q=>∃ k,ZiY X.K x H k/\Q k H):=by
 intro pins s σ H x v Q I rx h
 obtain ⟨k,e,q⟩:=h
 have hl:=iq
 have hs:sizeLine=16777216:=sizeLine_eq
 cases x with
 | non =>
  cases rx
  have e':k=false:=e
  subst e'
  exact truthy_none ⟨H,I,q⟩
 | bl b =>
  cases rx
  have e':k=b:=e
  subst e'
  exact wpAny_truthy_bool ⟨H,I,q⟩
 | int i =>
  obtain ⟨t,rfl⟩:=rx
  have e':k=(i != 0):=e
  subst e'
  exact PySem.P.truthy_int ⟨H,I,q⟩
 | str y =>
  obtain ⟨t,rfl⟩:=rx
  obtain ⟨hy,e'⟩:y.length<=sizeLine/\k=((y.length:Int) != 0):=e
  subst e'
  exact PySem.P.truthy_str (by omega) ⟨H,I.tok _,q⟩
 | byt y =>
  obtain ⟨t,rfl⟩:=rx
  obtain ⟨hy,e'⟩:y.size<=sizeLine/\k=((y.size:Int) != 0):=e
  subst e'
  exact PySem.W.truthy_bytes (by omega) ⟨H,I.tok _,q⟩
 | ref p =>
  cases rx
  have e':(∃ xs,SqL X.K H p xs/\k=!xs.isEmpty)\/(∃ xs,SqT X.K H p xs/\k=!xs.isEmpty)\/∃ kvs,H p=some (.dK kvs)/\k=!kvs.isEmpty:=e
  rcases e' with ⟨xs,hx,e'⟩ | ⟨xs,hx,e'⟩ | ⟨kvs,hx,e'⟩
  ·subst e'
   obtain ⟨its,r,pl,hz⟩:=I.list hx
   have hlen:=r.length
   exact wpAny_truthy_list pl.isList (by simp only [vq]; omega) ⟨H,I.tok _,by rw [ZdP r]; exact q⟩
  ·subst e'
   obtain ⟨its,r,pl,hz⟩:=I.tuple hx
   have hlen:=r.length
   exact truthy_tuple pl (by simp only [vq]; omega) ⟨H,I.tok _,by rw [ZdP r]; exact q⟩
  ·subst e'
   obtain ⟨hz,hS,vs,r,m⟩:kvs.length<=sizeLine/\(p == sysModules)=false/\∃ vs,KV kvs vs/\s.heap.DictOf (dw X.prog X.w) p vs:=I.hok p _ hx
   have hlen:kvs.length=vs.length:=yB r
   exact wpAny_truthy_dict hS m (by omega) ⟨H,I.tok _,by rw [Znu r]; exact q⟩
 | _=>exact (show False from e).elim
theorem Zll (ha:PE X a ta) (he:∀ whole,isTrue a X.env whole=(do let v <- whole; standAt a.pos; holding [v] (truthy v))) :
  PT X a (λσ H Q=>ta σ H λx H'=>∃ k,ZiY X.K x H' k/\Q k H'):=by
 intro pins s σ H Q I h
 exact isTrue_plain (thn (ha pins s σ H _ I h) λv s1 ⟨x,H1,I1,r1,q1⟩=>ZjD pins s1 σ H1 x v Q I1 r1 q1) (he _)
theorem fi {x:V} {us:zg} (r:Vals [x] us):∃ u,us=[u]/\RelV x u:=by
 cases r with
 | cons r1 r2=>cases r2; exact ⟨_,rfl,r1⟩
theorem mT {x y:V} {us:zg} (r:Vals [x,y] us):∃ u w',us=[u,w']/\RelV x u/\RelV y w':=by
 cases r with
 | cons r1 r2 =>
  cases r2 with
  | cons r3 r4=>cases r4; exact ⟨_,_,rfl,r1,r3⟩
theorem ue:dE X (.builtin "abs") (λxs H Q=>∃ i,xs=[.int i]/\Q (.int (if i < 0 then -i else i)) H):=by
 intro pins s σ H xs us Q I r h
 obtain ⟨i,rfl,q⟩:=h
 obtain ⟨u,rfl,t,rfl⟩:=fi r
 exact call_abs_int λu tk=>⟨.int (if i < 0 then -i else i),H,I.tok _,⟨_,rfl⟩,q⟩
theorem pj (hc:X.calm=true):dE X (.builtin "max") (λxs H Q=>∃ i j,xs=[.int i,.int j]/\Q (.int (if j > i then j else i)) H):=by
 intro pins s σ H xs us Q I r h
 obtain ⟨i,j,rfl,q⟩:=h
 obtain ⟨u,w',rfl,⟨t,rfl⟩,⟨t',rfl⟩⟩:=mT r
 refine max_two_ints (I.ok.hd hc) λh' tk k=>⟨_,H,I.kept k,?_,q⟩
 by_cases hj:j > i
 ·rw [if_pos hj,if_pos hj]; exact ⟨_,rfl⟩
 ·rw [if_neg hj,if_neg hj]; exact ⟨_,rfl⟩
theorem ud:dE X (.type "int") (λxs H Q=>(∃ i,xs=[.int i]/\Q (.int i) H)\/∃ k,xs=[.bl k]/\Q (.int (if k then 1 else 0)) H):=by
 intro pins s σ H xs us Q I r h
 rcases h with ⟨i,rfl,q⟩ | ⟨k,rfl,q⟩
 ·obtain ⟨u,rfl,t,rfl⟩:=fi r
  exact call_int_int ⟨.int i,H,I,⟨_,rfl⟩,q⟩
 ·obtain ⟨u,rfl,r1⟩:=fi r
  cases r1
  exact call_int_bool ⟨.int (if k then 1 else 0),H,I.tok _,⟨_,rfl⟩,q⟩
end
structure ObjM (h:Heap) (x dx C:Addr) (mA:zj):Prop where
 obj:h.get? x=some (PySem.W.instObj C dx)
 ns:h.Ns1 dx mA
 ne:dx≠x
theorem ZmW {h:Heap} {dx:Addr} {mA:zj} (n:h.Ns1 dx mA):∃ od,h.get? dx=some od/\∀ name,PySem.W.lookIn name od=some (mA name):=by
 obtain ⟨o,es,ep,ho,hd,hk,_,hm⟩:=n
 refine ⟨o,ho,λname=>?_⟩
 have e:=hm name
 unfold nsFind findBy at e
 rw [<- Array.find?_toList] at e
 unfold PySem.W.lookIn
 rw [hd]
 dsimp only
 split
 ·rename_i y q
  rw [q] at e
  exact congrArg some e
 ·rename_i q
  rw [q] at e
  have a:es.toList.any (·.refKey)=false:=by
   rw [List.any_eq_false]
   intro y hy
   obtain ⟨z,t,hkey⟩:=hk y (Array.mem_toList_iff.mp hy)
   simp [DictEntry.refKey,hkey]
  have a':¬ es.toList.any (·.refKey)=true:=by rw [a]; exact vD
  rw [if_neg a']
  exact congrArg some e
theorem ObjM.look {h:Heap} {x dx C:Addr} {mA:zj} (I:ObjM h x dx C mA):∃ od,PySem.W.InstAt h x (PySem.W.instObj C dx) C (some od)/\∀ name,PySem.W.lookIn name od=some (mA name) :=
 let ⟨od,ho,hl⟩:=ZmW I.ns
 ⟨od,⟨I.obj,rfl,rfl,ho⟩,hl⟩
section
variable {prog:Program} {w:World} {A:Around} {E:zd} {s:Shared} {K:yY} {x dx C f:Addr} {mA:zj} {name:Str} {v:Value}
end
theorem RelO.some_of {v:V} {o:Option Value} (r:RelO (some v) o):∃ u,o=some u/\RelV v u:=by
 cases o with
 | none=>exact (show False from r).elim
 | some u=>exact ⟨u,rfl,r⟩
section
variable {P:Program} {w:World} {H H':Hp} {h h':Heap} {a C dx:Addr} {fs fs':List (Str×V)}
theorem Znz (hok:HOk P w H h) (e:H a=some (.ins C dx fs)):∃ mA,ObjM h a dx C mA/\(∀ f,RelO (fs.lookup f) (mA f))/\PySem.Within mA (fs.map (·.1))/\fs.length<=1000/\H dx=some (.own a):=by
 obtain ⟨d,z,ne,ob,mA,n,r,q⟩:=(show ObjOk P w H h a (.ins C dx fs) from hok a _ e)
 exact ⟨mA,⟨ob,n,ne⟩,r,q,z,d⟩
end
structure Cls (K:yY) (C:Addr):Prop where
 pg:PySem.W.plainGet K C Str.empty=true
 hd:PySem.W.hasDictIn K C=true
 po:PySem.W.plainOver K C=true
 sa:PySem.W.findIn K (.ref C) "__setattr__"=some (some (.builtin "object.__setattr__"))
theorem Cls.get {K:yY} {C:Addr} (c:Cls K C) (f:Str):PySem.W.plainGet K C f=true:=c.pg
section
variable {X:Cx} {pins:List (Addr×Obj)} {σ:St} {H:Hp} {s:Shared} {a C dx:Addr} {fs:List (Str×V)} {f:Str} {v:V} {A:Around} {E:zd}
end
section
variable {X:Cx} {o e value:Expr} {f:Str} {pos pos' tpos:Pos} {ta tv:TE}
end
section
variable {X:Cx} {pins:List (Addr×Obj)} {σ:St} {H:Hp} {s:Shared} {A:Around} {E:zd} {Q:zd} {c:Value} {b:Bool}
inductive TyOf (K:yY) (H:Hp):V->Value->Prop where
 | non:TyOf K H .non (.type "NoneType")
 | bl (x:Bool):TyOf K H (.bl x) (.type "bool")
 | int (i:Int):TyOf K H (.int i) (.type "int")
 | str (x:Str):TyOf K H (.str x) (.type "str")
 | flt (x:UInt64):TyOf K H (.flt x) (.type "float")
 | lst {a:Addr} {xs:zi} (e:H a=some (.lst xs)):TyOf K H (.ref a) (.type "list")
 | frz {a:Addr} {o:Obj} {xs:zi} (e:H a=some (.frz o (.lst xs))):TyOf K H (.ref a) (.type "list")
 | tup {a:Addr} {xs:zi} (e:H a=some (.tup xs)):TyOf K H (.ref a) (.type "tuple")
 | dK {a:Addr} {kvs:List (aM×V)} (e:H a=some (.dK kvs)):TyOf K H (.ref a) (.type "dict")
 | dT {a:Addr} {kvs:List (List aM×V)} (e:H a=some (.dT kvs)):TyOf K H (.ref a) (.type "dict")
 | frzD {a:Addr} {o:Obj} {kvs:List (aM×V)} (e:H a=some (.frz o (.dK kvs))):TyOf K H (.ref a) (.type "dict")
 | ins {a C dx:Addr} {fs:List (Str×V)} (e:H a=some (.ins C dx fs)) (cl:Cls K C) (ha:PySem.W.findIn K (.ref C) "__class__"=some (some (.builtin "object.__class__")))
   (hn:PySem.W.specialIn K (.builtin "object.__class__") "__get__"=some (some (.builtin "getset_descriptor.__get__"))) (htk:PySem.W.takesIn K (.builtin "object.__class__")=some true)
   (hm:PySem.W.mroIn K C (.type "object")=some true):TyOf K H (.ref a) (.ref C)
theorem Znt {x:V} {u t:Value} (I:Inv X pins σ H s) (rx:RelV x u) (ty:TyOf X.K H x t) (e:PySem.W.kitOne X.K t c=some b) (h:∀ tk,Q (.bool b) { s with toks:=tk }) :
  wpAny (model X.prog X.w) A (call (.builtin "isinstance") [u,c]) Q E s:=by
 cases ty with
 | non=>cases (show u=Value.none from rx); exact wl PySem.W.kitx_none I.kIn True.intro e (λz=>nomatch z) h
 | bl y=>cases (show u=Value.bool y from rx); exact wl PySem.W.kitx_bool I.kIn True.intro e (λz=>nomatch z) h
 | int i=>obtain ⟨t,q⟩:=(show ∃ t,u=Value.int i t from rx); cases q; exact wl PySem.W.kitx_int I.kIn True.intro e (λz=>nomatch z) h
 | str y=>obtain ⟨t,q⟩:=(show ∃ t,u=Value.str y t from rx); cases q; exact wl PySem.W.kitx_str I.kIn True.intro e (λz=>nomatch z) h
 | flt y=>obtain ⟨t,q⟩:=(show ∃ t,u=Value.float y t from rx); cases q; exact wl PySem.W.kitx_float I.kIn True.intro e (λz=>nomatch z) h
 | @lst a xs ea =>
  cases (show u=Value.ref a from rx)
  obtain ⟨_,_,n,_,h1⟩:=(show ObjOk X.prog X.w H s.heap a (.lst xs) from I.hok a _ ea)
  exact wl PySem.W.kitx_list I.kIn ⟨_,h1,rfl⟩ e (λz=>nomatch z) h
 | @frz a ob xs ea =>
  cases (show u=Value.ref a from rx)
  obtain ⟨_,_,_,n,_,h1⟩:=(show ObjOk X.prog X.w H s.heap a (.frz ob (.lst xs)) from I.hok a _ ea)
  exact wl PySem.W.kitx_list I.kIn ⟨_,h1,rfl⟩ e (λz=>nomatch z) h
 | @tup a xs ea =>
  cases (show u=Value.ref a from rx)
  obtain ⟨_,_,_,p⟩:=(show ObjOk X.prog X.w H s.heap a (.tup xs) from I.hok a _ ea)
  obtain ⟨o,h1,h2,_⟩:=p
  exact wl PySem.W.kitx_tuple I.kIn ⟨o,h1,h2⟩ e (λz=>nomatch z) h
 | @dK a kvs ea =>
  cases (show u=Value.ref a from rx)
  obtain ⟨_,_,vs,_,p⟩:=(show ObjOk X.prog X.w H s.heap a (.dK kvs) from I.hok a _ ea)
  obtain ⟨o,es,ep,h1,h2,_⟩:=p
  exact wl yu I.kIn ⟨o,h1,h2.1⟩ e (λz=>nomatch z) h
 | @frzD a ob kvs ea =>
  cases (show u=Value.ref a from rx)
  obtain ⟨_,_,_,vs,_,p⟩:=(show ObjOk X.prog X.w H s.heap a (.frz ob (.dK kvs)) from I.hok a _ ea)
  obtain ⟨o,es,ep,h1,h2,_⟩:=p
  exact wl yu I.kIn ⟨o,h1,h2.1⟩ e (λz=>nomatch z) h
 | @dT a kvs ea =>
  cases (show u=Value.ref a from rx)
  obtain ⟨_,_,xs,_,o,es,ep,h1,h2,_⟩:=(show ObjOk X.prog X.w H s.heap a (.dT kvs) from I.hok a _ ea)
  exact wl yu I.kIn ⟨o,h1,h2.1⟩ e (λz=>nomatch z) h
 | @ins a C dx fs ea cl ha hn htk hm =>
  cases (show u=Value.ref a from rx)
  obtain ⟨mA,O,_⟩:=Znz I.hok ea
  obtain ⟨od,J,_⟩:=O.look
  exact wl (PySem.W.kitx_own (cl.get _) cl.hd ha hn htk hm) I.kIn J e (λz=>nomatch z) h
end
structure Room (k:Nat) (A:Around):Prop where
 hd:A.handled=none
 dp:A.depth+3 * k+5 < recursionLimit
 un:A.units+16 * k+200 < cLine
 gd:A.guards=some []
theorem Room.mono {j k:Nat} {A:Around} (r:Room k A) (h:j<=k):Room j A:=⟨r.hd,by have:=r.dp; omega,by have:=r.un; omega,r.gd⟩
theorem Room.deeper {k:Nat} {A:Around} (r:Room (k+1) A) (env:Env):Room k (A.deeper env) :=
 ⟨r.hd,by have:=r.dp; show A.depth+1+3 * k+5 < _; omega,by have:=r.un; show A.units+3+16 * k+200 < _; omega,r.gd⟩
theorem Room.depth {k:Nat} {A:Around} (r:Room k A):A.depth < recursionLimit:=by have:=r.dp; omega
theorem Room.units {k:Nat} {A:Around} (r:Room k A):A.units+64 < cLine:=by have:=r.un; omega
def a9:TA:=λ_ H Q=>Q [] H
def fk (ta:TE) (tr:TA):TA:=λσ H Q=>ta σ H λx H1=>tr σ H1 λxs H2=>Q (x::xs) H2
section
variable {X:Cx} {e:Expr} {es:List Expr} {te:TE} {t:TA} {pos:Pos}
theorem cC:PA X [] a9:=λ_ _ _ _ H Q I h=>Calls.spliced_nil ⟨[],H,I,.nil,h⟩
theorem bH (ha:PE X e te) (hr:PA X es t) (hs:starEach (e::es) X.env=(false,eval e X.env)::starEach es X.env:=by rfl):PA X (e::es) (fk te t):=by
 intro pos pins s σ H Q I h
 rw [hs]
 show wpAny _ _ (spliced ((false,eval e X.env)::backTo pos (starEach es X.env))) _ _ s
 refine Calls.spliced_cons (thn (ha pins s σ H _ I h) λu s1 hz0=>?_)
 obtain ⟨x,H1,I1,r1,q1⟩:=hz0
 exact thn (hr pos pins s1 σ H1 _ I1 q1) λus s2 hz0=>by
  obtain ⟨xs,H2,I2,r2,q2⟩:=hz0
  exact ⟨x::xs,H2,I2,.cons r1 r2,q2⟩
def ZjK (t:TA):TE:=λσ H Q=>t σ H λxs H1=>xs.length<=sizeLine/\∀ p,H1 p=none->Q (.ref p) (upd H1 p (.tup xs))
def ZjX (t:TA):TE:=λσ H Q=>t σ H λxs H1=>xs.length<=sizeLine/\∀ p,H1 p=none->Q (.ref p) (upd H1 p (.lst xs))
theorem ZcC {x1} (h:PA X es t):PE X (.Tuple es x1 pos) (ZjK t):=by
 intro pins s σ H Q I hq
 refine wpAny_Tuple_spliced (thn (h pos pins s σ H _ I hq) λus s1 ⟨xs,H1,I1,r,z,q⟩=>⟨by rw [<- r.length]; exact z,?_⟩)
 have hf:H1 s1.heap.objs.size=none:=I1.hok.fresh (vo _)
 refine ⟨.ref s1.heap.objs.size,upd H1 s1.heap.objs.size (.tup xs),I1.laid (t':=s1.toks) (λb u e=>vc _ e) (vo _) ?_,rfl,q _ hf⟩
 exact ⟨z,us,r,⟨_,vn _ rfl,rfl,_,rfl⟩⟩
theorem ZlJ (h:PA X es t):PE X (.List es pos) (ZjX t):=by
 intro pins s σ H Q I hq
 refine wpAny_List_spliced (thn (h pos pins s σ H _ I hq) λus s1 ⟨xs,H1,I1,r,z,q⟩=>⟨by rw [<- r.length]; exact z,?_⟩)
 have hf:H1 s1.heap.objs.size=none:=I1.hok.fresh (vo _)
 refine ⟨.ref s1.heap.objs.size,upd H1 s1.heap.objs.size (.lst xs),I1.laid (t':=s1.toks) (λb u e=>vc _ e) (vo _) ?_,rfl,q _ hf⟩
 exact ⟨z,us,0,r,vn _ rfl⟩
end
noncomputable abbrev Sp:=List V->Hp->VK->XK->Prop
noncomputable abbrev fh:=List Env->Hp->Shared->XK->Value->Shared->Prop
structure Env0 (P:Program) (w:World) (K:yY) (mg:zj) (base:Heap) (A:Around) (outer:List Env) (s:Shared) (H:Hp):Prop where
 frames:A.frames=some outer
 mod:Mod K mg base
 bs:∀ b o,base.get? b=some o->s.heap.get? b=some o/\H b=none
 bsz:base.objs.size<=s.heap.objs.size
 funs:s.heap.FunFrames base outer
 frf:∀ b∈frs outer,H b=none
 hok:HOk P w H s.heap
 bare:AllBare s.gens
noncomputable def CE (outer:List Env) (P:Program) (w:World) (H:Hp) (s:Shared) (Q:VK) (u:Value) (s':Shared):Prop :=
 ∃ v H',s'.os=s.os/\AllBare s'.gens/\Un (frs outer) [] H H' s.heap s'.heap/\HOk P w H' s'.heap/\RelV v u/\Q v H'
noncomputable def CR (CX:fh) (outer:List Env) (P:Program) (w:World) (H:Hp) (s:Shared) (Q:VK) (E:XK) (r:Result) (s':Shared):Prop :=
 match r with
 | .ok (.ret u)=>CE outer P w H s Q u s'
 | .ok _=>False
 | .error e=>CX outer H s E e s'
structure FnOk (P:Program) (w:World) (K:yY) (mg:zj) (base:Heap) (CX:fh) (k:Nat) (f:Addr) (fd:FuncData) (ps:zh) (sp:Sp):Prop where
 len:∀ vs H Q E,sp vs H Q E->vs.length=ps.length
 run:∀ (A:Around) (outer:List Env) (s:Shared) (H:Hp) (args:Args) (us:zg) (vs:zi) (Q:VK) (E:XK),Room k A->Env0 P w K mg base A outer s H->BindsTo s fd args (ps.zip us)->Vals vs us->sp vs H Q E ->
  codeAny (model P w) A (.call (.ref f) args) (CR CX outer P w H s Q E) s
theorem FnOk.imp {P:Program} {w:World} {K:yY} {mg:zj} {base:Heap} {CX:fh} {k:Nat} {f:Addr} {fd:FuncData} {ps:zh} {sp sp':Sp} (F:FnOk P w K mg base CX k f fd ps sp)
  (h:∀ vs H Q E,sp' vs H Q E->sp vs H Q E):FnOk P w K mg base CX k f fd ps sp' :=
 ⟨λvs H Q E q=>F.len vs H Q E (h _ _ _ _ q),λA outer s H args us vs Q E hr he hb hv hs=>F.run A outer s H args us vs Q E hr he hb hv (h _ _ _ _ hs)⟩
section
variable {X:Cx} {pins:List (Addr×Obj)} {σ:St} {H:Hp} {s s':Shared}
theorem Inv.env0 (I:Inv X pins σ H s):Env0 X.prog X.w X.K X.mg X.base X.A X.stack s H :=
 ⟨I.ok.frames,I.ok.mod,I.bs,vS I.ok.bsz I.sz,I.stack,I.stkFree,I.hok,I.bare⟩
theorem Inv.after {Q:VK} {u:Value} (I:Inv X pins σ H s) (h:CE X.stack X.prog X.w H s Q u s'):EP X pins σ Q u s':=by
 obtain ⟨v,H',os,bare,un,hok,r,q⟩:=h
 obtain ⟨hh,g,d,t,os'⟩:=s'
 obtain rfl:os'=s.os:=os
 exact ⟨v,H',I.call (h':=hh) (g':=g) (d':=d) (t':=t) (ch:=[]) un hok bare (λb z=>absurd z (by simp)),r,q⟩
end
def Zau (sp:Sp) (dvs:zi) (E:XK) (t:TA):TE:=λσ H Q=>t σ H λvs H1=>sp (vs++dvs) H1 Q E
noncomputable def Binds (K:yY) (fd:FuncData) (ps:zh) (ds:zg):Prop :=
 ∀ (s:Shared) (us:zg),K.In s.heap->(us++ds).length=ps.length->BindsTo s fd ⟨us,[]⟩ (ps.zip (us++ds))
theorem Binds.all {K:yY} {fd:FuncData} {ps:zh} (h:∀ us:zg,us.length=ps.length->bindArgs fd ⟨us,[]⟩=pure (ps.zip us)):Binds K fd ps []:=λs us _ hl=>by
 rw [wn] at hl ⊢
 exact .of_eq (h us hl)
def u3 (CX:fh) (X:Cx) (E:XK):Prop:=∀ (pins:List (Addr×Obj)) (σ:St) (H:Hp) (s:Shared) (e:Value) (s':Shared),Inv X pins σ H s->CX X.stack H s E e s'->X.xe e s'
section
variable {X:Cx} {CX:fh} {k:Nat} {f C:Addr} {fd:FuncData} {ps:zh} {sp:Sp} {dvs:zi} {ds:zg} {E:XK} {x m:Str} {p pos apos:Pos} {e o:Expr} {es:List Expr} {ta:TE} {t:TA}
theorem ZkY {pins:List (Addr×Obj)} {σ:St} {H:Hp} {s:Shared} {Q:VK} {us:zg} {vs:zi} (F:FnOk X.prog X.w X.K X.mg X.base CX k f fd ps sp) (hr:Room k X.A) (hb:Binds X.K fd ps ds) (hd:Vals dvs ds) (hx:u3 CX X E)
  (I:Inv X pins σ H s) (r:Vals vs us) (h:sp (vs++dvs) H Q E):wpAny (model X.prog X.w) X.A (call (.ref f) us) (EP X pins σ Q) X.xe s:=by
 have r2:Vals (vs++dvs) (us++ds):=r.append hd
 have hl:(us++ds).length=ps.length:=by rw [<- r2.length]; exact F.len _ _ _ _ h
 refine wpAny_call (codeAny_mono (F.run X.A X.stack s H ⟨us,[]⟩ (us++ds) (vs++dvs) Q E hr I.env0 (hb s us I.kIn hl) r2 h) λr s' hq=>?_)
 cases r with
 | error e=>exact hx pins σ H s e s' I hq
 | ok fl =>
  cases fl with
  | ret u=>exact I.after hq
  | next=>exact False.elim hq
  | brk=>exact False.elim hq
  | cont=>exact False.elim hq
theorem ZlR (F:FnOk X.prog X.w X.K X.mg X.base CX k f fd ps sp) (hr:Room k X.A) (hg:Gl X x) (hm:X.mg x=some (.ref f)) (hk:PySem.W.keepIn X.K (.ref f)=true) (hb:Binds X.K fd ps ds) (hd:Vals dvs ds) (hx:u3 CX X E)
  (ha:PA X (e::es) t) (hdb:(x == ("__debug__":Str))=false:=by decide) (he:starEach (e::es) X.env=(false,eval e X.env)::starEach es X.env:=by rfl) (hpl:(backTo pos (starEach es X.env)).any (·.1)=false:=by rfl) :
  PE X (.Call (.Name x p) (e::es) [] pos) (Zau sp dvs E t):=by
 intro pins s σ H Q I h
 refine wpAny_Call_Name_kw (Zdt I hg hm ?_ hdb)
 refine PySem.W.callWith_K (h₀:=X.base) I.ok.mod.kin hk (thn (ha pos pins s σ H _ I h) λus s1 ⟨vs,H1,I1,r,q⟩=>⟨I1.kIn,?_⟩) he hpl
 exact ZkY F hr hb hd hx I1 r q
end
noncomputable def PK (X:Cx) (kws:List Keyword) (t:TA):Prop :=
 ∀ (pos:Pos) (pins:List (Addr×Obj)) (s:Shared) (σ:St) (H:Hp) (Q:List V->Hp->Prop),Inv X pins σ H s->t σ H Q->wpAny (model X.prog X.w) X.A (evalAll ((backToKw pos (keywordEach kws X.env)).map (·.2))) (AP X pins σ Q) X.xe s
section
variable {X:Cx} {CX:fh} {k:Nat} {f C:Addr} {fd:FuncData} {ps ks:zh} {sp:Sp} {E:XK} {x m:Str} {p pos apos kpos:Pos} {e o:Expr} {es:List Expr} {kws:List Keyword} {te ta:TE} {t tk:TA} {nm:Option Str}
variable {g:List Value->List Value->List Value} {gV:List V->List V->List V}
end
structure FnScope (N P:zh) (sc:Scope):Prop where
 kind:sc.kind=.function
 co:sc.isCoroutine=false
 gen:sc.isGenerator=false
 nd:N.Nodup
 pre:N.take P.length=P
 par:∀ x∈P,sc.names.lookup x=some .local\/sc.names.lookup x=some .cell
 nofree:∀ y∈sc.names,y.2≠.free
theorem Ziu {kindOf:Str->Option NameKind} {x:Str}:∀ {binds:List (Str×Value)} {m:zj},(∀ v,(x,v) ∉ binds)->bindL kindOf binds m x=m x
 | [],_,_=>rfl
 | (n,v)::r,m,h=>by
  unfold bindL
  rw [Ziu λw hw=>h w (ve _ hw)]
  split
  ·have:x≠n:=by rintro rfl; exact h v wq
   simp [this]
  ·rfl
theorem Ziw {kindOf:Str->Option NameKind} {x:Str}:∀ {binds:List (Str×Value)} {m:zj},(∀ v,(x,v) ∉ binds)->bindC kindOf binds m x=m x
 | [],_,_=>rfl
 | (n,v)::r,m,h=>by
  unfold bindC
  rw [Ziw λw hw=>h w (ve _ hw)]
  split
  ·rfl
  ·have:x≠n:=by rintro rfl; exact h v wq
   simp [this]
theorem Ziv {kindOf:Str->Option NameKind} {x:Str} {v:Value}:∀ {P:zh} {vs:zg} {i:Nat} {m:zj},P.Nodup->P[i]?=some x->vs[i]?=some v->kindOf x=some .local ->
  bindL kindOf (P.zip vs) m x=some v
 | [],_,_,_,_,h,_,_=>by simp at h
 | _::_,[],_,_,_,_,h,_=>by simp at h
 | p::P,w::vs,0,m,nd,h1,h2,hk=>by
  simp at h1 h2; subst h1; subst h2
  show bindL kindOf ((p,w)::P.zip vs) m p=_
  unfold bindL
  rw [Ziu λv hv=>(ya.mp nd).1 (yC hv).1,if_pos hk]
  simp
 | p::P,w::vs,i+1,m,nd,h1,h2,hk=>by
  show bindL kindOf ((p,w)::P.zip vs) m x=_
  unfold bindL
  exact Ziv (i:=i) (ya.mp nd).2 (by simpa using h1) (by simpa using h2) hk
theorem Zix {kindOf:Str->Option NameKind} {x:Str} {v:Value}:∀ {P:zh} {vs:zg} {i:Nat} {m:zj},P.Nodup->P[i]?=some x->vs[i]?=some v->kindOf x≠some .local ->
  bindC kindOf (P.zip vs) m x=some v
 | [],_,_,_,_,h,_,_=>by simp at h
 | _::_,[],_,_,_,_,h,_=>by simp at h
 | p::P,w::vs,0,m,nd,h1,h2,hk=>by
  simp at h1 h2; subst h1; subst h2
  show bindC kindOf ((p,w)::P.zip vs) m p=_
  unfold bindC
  rw [Ziw λv hv=>(ya.mp nd).1 (yC hv).1,if_neg hk]
  simp
 | p::P,w::vs,i+1,m,nd,h1,h2,hk=>by
  show bindC kindOf ((p,w)::P.zip vs) m x=_
  unfold bindC
  exact Zix (i:=i) (ya.mp nd).2 (by simpa using h1) (by simpa using h2) hk
noncomputable def start (N:zh) (vs:zi):St:=vs.map some++List.replicate (N.length - vs.length) none
noncomputable def gR (CX:fh) (P:Program) (w:World) (K:yY) (mg:zj) (base:Heap) (N:zh) (qual:Str) (scope:Scope) (f:Addr) (cd:Value) (A:Around) (outer:List Env) (s:Shared) (H:Hp) (E:XK):Cx where
 prog:=P
 w:=w
 K:=K
 mg:=mg
 base:=base
 A:=A.deeper (envOfC qual scope s.heap.objs.size f cd)
 N:=N
 s₀:=s
 H₀:=H
 env:=envOfC qual scope s.heap.objs.size f cd
 outer:=outer
 stack:=envOfC qual scope s.heap.objs.size f cd::outer
 ex:=[]
 calm:=true
 fn:=λ_=>true
 pn:=[]
 xe:=λe s'=>wpAny (model P w) (A.deeper (envOfC qual scope s.heap.objs.size f cd)) (leaving (envOfC qual scope s.heap.objs.size f cd) e) (λ_ s''=>CX outer H s E e s'') (λe' s''=>CX outer H s E e' s'') s'
theorem Zh5 {sc:Scope} {n:Nat} {x:Str} (h:sc.names.lookup x=some .cell):∃ c,(cellsFrom n sc.names []).lookup x=some c:=by
 have q:=PySem.W.cellsFrom_some sc.names n [] (.inl h)
 exact Option.isSome_iff_exists.mp q
theorem Zny {CX:fh} {P:Program} {w:World} {K:yY} {mg:zj} {base:Heap} {N ps:zh} {qual:Str} {scope:Scope} {f:Addr} {cd:Value} {A:Around} {outer:List Env} {s s1:Shared} {H:Hp} {E:XK} {us:zg} {vs:zi}
  (S:FnScope N ps scope) (hd:A.handled=none) (e0:Env0 P w K mg base A outer s H) (hl:vs.length=ps.length) (r:Vals vs us)
  (x:InCallC s s.heap.objs.size (bindL (envOfC qual scope s.heap.objs.size f cd).kindOf (ps.zip us) λ_=>none) (cellsFrom (s.heap.objs.size+1) scope.names []) (bindC (envOfC qual scope s.heap.objs.size f cd).kindOf (ps.zip us) λ_=>none) s1) :
  Inv (gR CX P w K mg base N qual scope f cd A outer s H E) [] (start N vs) H s1:=by
 have hpl:ps.length<=N.length:=by have:=congrArg List.length S.pre; rw [xf] at this; omega
 obtain ⟨h1,tk,rfl,hk⟩:=x.done
 have noA:∀ b:Addr,b ∉ (gR CX P w K mg base N qual scope f cd A outer s H E).ex:=λb z=>absurd (show b∈([]:List Addr) from z) (by simp)
 refine ⟨⟨e0.mod,S.kind,rfl,rfl,vo _,λy z c h1 h2=>?_,λy hy=>?_,λy c _ h=>?_,λ_=>hd,Around.frames_deeper e0.frames,.inr ⟨rfl,rfl⟩,λb z=>absurd z (noA b),e0.bs,e0.bsz,λb _ _=>noA b,λb z=>absurd z (noA b),e0.funs,e0.frf⟩,
  rfl,e0.bare,Un.kept hk,⟨_,x.toInCall.ns,λi y v h1 h2 h3=>?_⟩,λy c h=>⟨_,x.cell y c h⟩,e0.hok.fresh (vo _),λy c h=>?_,λp hp=>absurd (show p∈([]:List (Addr×Obj)) from hp) (by simp),e0.hok.kept hk,?_⟩
 ·exact name_of_addr x.apart (wz h1) (wz h2)
 ·have hy:scope.names.lookup y=some .cell\/scope.names.lookup y=some .free:=hy
  rcases hy with hy | hy
  ·exact Zh5 hy
  ·exact absurd rfl (S.nofree _ (wz hy))
 ·exact xt (x.above y c (wz h))
 ·have hi:i < vs.length:=by
   unfold start at h2
   by_cases hi:i < vs.length
   ·exact hi
   ·rw [v5 (by simpa using hi)] at h2
    rw [vW] at h2
    split at h2 <;> cases h2
  have ha:vs[i]?=some v:=by
   unfold start at h2
   rw [v8 (by simpa using hi),vg] at h2
   cases e:vs[i]? with
   | none=>rw [e] at h2; cases h2
   | some a=>rw [e] at h2; cases h2; rfl
  obtain ⟨u,hu,rv⟩:=r.get ha
  have hp:ps[i]?=some y:=by
   rw [<- S.pre,List.getElem?_take_of_lt (by omega)]; exact h1
  have ndP:ps.Nodup:=by rw [<- S.pre]; exact S.nd.sublist (List.take_sublist _ _)
  refine ⟨u,rv,?_⟩
  rcases S.par y (wu hp) with k | k
  ·exact .inl ⟨k,Ziv ndP hp hu k⟩
  ·obtain ⟨c,e⟩:=Zh5 (n:=s.heap.objs.size+1) k
   refine .inr ⟨.inl k,c,e,?_⟩
   have q:=x.cell y c e
   rw [Zix ndP hp hu (by show scope.names.lookup y≠_; rw [k]; decide)] at q
   exact q
 ·exact e0.hok.fresh (xt (x.above y c (wz h)))
 ·unfold start
  show _=N.length
  rw [v6,vd,wX]
  omega
theorem ZnU {CX:fh} {P:Program} {w:World} {K:yY} {mg:zj} {base:Heap} {k:Nat} {f:Addr} {name qual:Str} {params:Arguments} {body:List Stmt} {scope:Scope} {dV kV doc pm cdv ct oc:Value} {an od:Option Addr}
  {osl:Array (Option Value)} {N ps:zh} {sp:Sp} (lk:K.lookup f=some ⟨oc,od,.func (PySem.W.fnOf name qual params body scope dV kV doc pm an cdv ct),osl⟩) (hcd:PySem.W.codeIn K cdv qual=true) (S:FnScope N ps scope)
  (len:∀ vs H Q E,sp vs H Q E->vs.length=ps.length)
  (hbody:∀ (A:Around) (outer:List Env) (s:Shared) (H:Hp) (vs:zi) (Q:VK) (E:XK),Room k (A.deeper (envOfC qual scope s.heap.objs.size f cdv))->sp vs H Q E ->
   ∃ t,PSs (gR CX P w K mg base N qual scope f cdv A outer s H E) body t/\t { nx:=λ_ H'=>Q .non H',rt:=Q } (start N vs) H) :
  FnOk P w K mg base CX (k+1) f (PySem.W.fnOf name qual params body scope dV kV doc pm an cdv ct) ps sp:=by
 refine ⟨len,λA outer s H args us vs Q E hr e0 hb r hsp=>?_⟩
 have hl:=len _ _ _ _ hsp
 have KX:K.In s.heap:=e0.mod.kin.keeps λb o e=>(e0.bs b o e).1
 have lim:s.heap.NoLimit:=e0.mod.nolimit.keeps λb o e=>(e0.bs b o e).1
 have hkind:∀ y∈ps.zip us,scope.names.lookup y.1=some .local\/(scope.names.lookup y.1=some .cell/\((cellsFrom (s.heap.objs.size+1) scope.names []).lookup y.1).isSome=true):=λ⟨n,v⟩ hy=>by
  rcases S.par n (yC hy).1 with q | q
  ·exact .inl q
  ·exact .inr ⟨q,PySem.W.cellsFrom_some _ _ _ (.inl q)⟩
 refine codeAny_call_function hr.depth (KX _ _ lk) rfl S.co S.gen rfl (PySem.W.codeRec_of KX hcd) (hb _ _ _ _ ?_)
 refine wpAny_newFunctionEnv_cells S.kind hkind λenv he s1 x=>?_
 subst he
 refine ⟨lim.keeps x.toInCall.keep,codeAny_func ?_⟩
 obtain ⟨t,ht,hq⟩:=hbody A outer s H vs Q E (hr.deeper _) hsp
 have I:Inv (gR CX P w K mg base N qual scope f cdv A outer s H E) [] (start N vs) H s1:=Zny S hr.hd e0 hl r x
 refine wpAny_mono (ht [] s1 (start N vs) H _ I hq) (λfl s' hs=>?_) λe s' hs=>hs
 have fin:∀ {σ':St} {H':Hp} {v:V} {u:Value},Inv (gR CX P w K mg base N qual scope f cdv A outer s H E) [] σ' H' s'->RelV v u->Q v H'->CE outer P w H s Q u s' :=
  λ{σ' H' v u} J rv q=>⟨v,H',J.os,J.bare,J.base,J.hok,rv,q⟩
 cases fl with
 | ret u =>
  obtain ⟨v,σ',H',J,rv,q⟩:=hs
  exact fin J rv q
 | next =>
  obtain ⟨σ',H',J,q⟩:=hs
  exact fin (v:=V.non) (u:=Value.none) J rfl q
 | brk =>
  obtain ⟨_,_,_,q⟩:=hs
  exact False.elim q
 | cont =>
  obtain ⟨_,_,_,q⟩:=hs
  exact False.elim q
section
variable {X:Cx} {x:Str} {p pos:Pos} {e:Expr} {es:List Expr} {t:TA} {id T:String} {r:List V->Hp->VK->Prop}
def fo (r:List V->Hp->VK->Prop) (t:TA):TE:=λσ H Q=>t σ H λvs H1=>r vs H1 Q
theorem bx (hc:dE X (.builtin id) r) (hg:Gl X x) (hm:X.mg x=none) (hv:bootBuiltins x=some (.builtin id)) (ha:PA X (e::es) t) (hn:x≠"__name__":=by decide) (hdb:(x == ("__debug__":Str))=false:=by decide)
  (he:starEach (e::es) X.env=(false,eval e X.env)::starEach es X.env:=by rfl) (hpl:(backTo pos (starEach es X.env)).any (·.1)=false:=by rfl):PE X (.Call (.Name x p) (e::es) [] pos) (fo r t):=by
 intro pins s σ H Q I h
 refine wpAny_Call_Name_kw (ir I hg hm hv ?_ hn hdb)
 exact PyProof.Rows.callWith_builtin1 (thn (ha pos pins s σ H _ I h) λus s1 ⟨vs,H1,I1,r1,q1⟩=>hc pins s1 σ H1 vs us Q I1 r1 q1) he hpl
theorem c7 (hc:dE X (.type T) r) (hg:Gl X x) (hm:X.mg x=none) (hv:bootBuiltins x=some (.type T)) (ha:PA X (e::es) t) (hn:x≠"__name__":=by decide) (hdb:(x == ("__debug__":Str))=false:=by decide)
  (he:starEach (e::es) X.env=(false,eval e X.env)::starEach es X.env:=by rfl) (hpl:(backTo pos (starEach es X.env)).any (·.1)=false:=by rfl):PE X (.Call (.Name x p) (e::es) [] pos) (fo r t):=by
 intro pins s σ H Q I h
 refine wpAny_Call_Name_kw (ir I hg hm hv ?_ hn hdb)
 exact wp (thn (ha pos pins s σ H _ I h) λus s1 ⟨vs,H1,I1,r1,q1⟩=>hc pins s1 σ H1 vs us Q I1 r1 q1) he hpl
end
end L2
namespace HT
noncomputable def cV:List Int->List Int->Bool
 | [],[]=>false
 | [],_::_=>true
 | _::_,[]=>false
 | x::xs,y::ys=>if x=y then cV xs ys else decide (x < y)
theorem Zdm (x y:Int) (xs ys:zf):cV (x::xs) (y::ys)=if x=y then cV xs ys else decide (x < y):=rfl
theorem Zdl:cV [] []=false:=rfl
theorem Zm3 (y:Int) (ys:zf):cV [] (y::ys)=true:=rfl
theorem Zm4 (x:Int) (xs:zf):cV (x::xs) []=false:=rfl
theorem Zn7 (A:Around) (s:Shared) (a:Int) (t:Tok) (c:Int) (u:Tok):∃ e,SeqAt.EqAt A s (.int a t) (.int c u) e/\(e=true ↔ a=c) :=
 ⟨(a == c),SeqAt.EqAt.int_int a t c u,by simp⟩
theorem Zk8 (A:Around) (s:Shared) (a:Int) (t:Tok) (c:Int) (u:Tok) (prog:Program) (w:World) (E:zd) (Q:zd) (h:Q (.bool (decide (a < c))) s) :
  wpAny (model prog w) A (richCompare .Lt (.int a t) (.int c u)) Q E s :=
 (PyProof.Rows.lt_int h:wpAny (model prog w) A (compareOp .Lt (.int a t) (.int c u)) Q E s)
section
open PySem.SeqAt
open PySem.AutoSeq1 (wpAny_loadPart')
open PySem.MeetsSeq PySem.MeetsSeq2 PySem.MeetsSeq3
theorem ZjC (l b:Addr) (items items2:Array Value) (n n2:Nat) (dd dd2:Option Addr) (sl fr:Array (Option Value)) (ns ms:zf) (hi:IntsAre items.toList ns) (hj:IntsAre items2.toList ms) :
  Meets (Builtin.«tuple.__lt__» ⟨[.ref l,.ref b],[]⟩)
   (λ_ R s=>s.heap.get? l=some { cls:=.type "tuple",dict:=dd,data:=.seq items n,slots:=sl }/\s.heap.get? b=some { cls:=.type "tuple",dict:=dd2,data:=.seq items2 n2,slots:=fr } /\
    R (.ok (.ret (.bool (cV ns ms)))) s) :=
 .of_wp λprog w A R s h=>by
  obtain ⟨hp,g,d,tk,os⟩:=s; obtain ⟨hl,hb,h⟩:=h
  have f2:=AutoSeq1.sub_tuple_tuple
  have z1:items.size=ns.length:=by rw [<- hi.length]; simp
  have z2:items2.size=ms.length:=by rw [<- hj.length]; simp
  wp_walk using wpAny_loadPart' hl,wpAny_loadPart' hb,wpAny_forIn_list _ (λrest b s'=>b.1=none/\s'=⟨hp,g,d,tk,os⟩/\∃ (vs ws:zg) (ns' ms':zf),rest=vs.zip ws /\
   IntsAre vs ns'/\IntsAre ws ms'/\ns'.length+items2.size=ms'.length+items.size/\R (.ok (.ret (.bool (cV ns' ms')))) ⟨hp,g,d,tk,os⟩) _
  case turn =>
   rintro ⟨y,x⟩ rest b s' ⟨hb',rfl,vs,ws,ns',ms',hz,hvi,hwi,hlen,hR⟩
   cases hvi with
   | nil=>rw [List.zip_nil_left] at hz; cases hz
   | cons a t hvi' =>
    cases hwi with
    | nil=>rw [List.zip_nil_right] at hz; cases hz
    | cons c u hwi' =>
     rw [yp] at hz
     injection hz with hyx hrest
     injection hyx with hy hx
     subst hy hx
     rw [Zdm] at hR
     simp only [vp] at hlen
     obtain ⟨e,he,hiff⟩:=Zn7 A.in1 ⟨hp,g,d,tk,os⟩ a t c u
     refine wpAny_bind (he prog w _ _ ?_)
     cases e with
     | true =>
      rw [if_pos (hiff.mp rfl)] at hR
      wp_walk
      exact ⟨rfl,rfl,_,_,_,_,hrest,hvi',hwi',by omega,hR⟩
     | false =>
      rw [if_neg (λq=>absurd (hiff.mpr q) vD)] at hR
      have hri:=Zk8 A.in1 ⟨hp,g,d,tk,os⟩ a t c u prog w
      wp_walk using hri
      exact ⟨_,rfl,by simpa using hR⟩
  case fin =>
   rintro ⟨b1,b2⟩ s' ⟨hb',rfl,vs,ws,ns',ms',hz,hvi,hwi,hlen,hR⟩
   simp only at hb'
   subst hb'
   have hv:cV ns' ms'=decide (items.size < items2.size):=by
    cases hvi with
    | nil =>
     cases hwi with
     | nil =>
      simp only [wG] at hlen
      rw [Zdl]
      exact (decide_eq_false (by omega)).symm
     | cons c u hw =>
      simp only [wG,vp] at hlen
      rw [Zm3]
      exact (decide_eq_true (by omega)).symm
    | cons a t hv =>
     cases hwi with
     | nil =>
      simp only [wG,vp] at hlen
      rw [Zm4]
      exact (decide_eq_false (by omega)).symm
     | cons c u hw =>
      rw [yp] at hz
      cases hz
   rw [hv] at hR
   wp_walk
   exact ⟨_,rfl,by simpa [Builtin.Tuple.tupleCompareSizes] using hR⟩
  case h =>
   exact ⟨rfl,rfl,items.toList,items2.toList,ns,ms,rfl,hi,hj,by omega,h⟩
end
section
variable {prog:Program} {w:World} {A:Around} {E:zd} {s:Shared}
theorem ZmP {l b:Addr} {items items2:Array Value} {ns ms:zf} {Q:zd} (hl:IsTup s.heap l items) (hb:IsTup s.heap b items2) (hi:IntsAre items.toList ns) (hj:IntsAre items2.toList ms)
  (hu:A.units < cLine) (h:Q (.bool (cV ns ms)) s):wpAny (model prog w) A (compareOp .Lt (.ref l) (.ref b)) Q E s:=by
 obtain ⟨⟨cls,dd,data,sl⟩,ho,hc,n,hd⟩:=id hl
 obtain ⟨⟨cls2,dd2,data2,fr⟩,ho2,hc2,n2,hd2⟩:=id hb
 simp only at hc hd hc2 hd2
 subst hc hd hc2 hd2
 exact richCompare_meets_room (op:=.Lt) ⟨_,ho,rfl⟩ ⟨_,ho2,rfl⟩ PySem.F.slot_tuple_lt PySem.F.entry_tuple_lt (PySem.F.args_tuple_lt_2 _ _) (ZjC l b items items2 n n2 dd dd2 sl fr ns ms hi hj)
  ⟨ho,ho2,show Value.bool (cV ns ms)≠Value.notImplemented/\Q (.bool (cV ns ms)) s from ⟨(λx=>nomatch x),h⟩⟩ hu
theorem ZpF {t b:Addr} {vs ws:zg} {Q:zd} (ht:IsTup s.heap t vs.toArray) (hb:IsTup s.heap b ws.toArray) (hv:vs≠[])
  (h1:ws=[]->Q (.ref t) s) (h2:ws≠[]->Q (.ref s.heap.objs.size) { s with heap:=s.heap.push { cls:=.type "tuple",data:=.seq (vs++ws).toArray } })
  (hsz:vs.length+ws.length<=sizeLine):wpAny (model prog w) A (binaryOp .Add (.ref t) (.ref b)) Q E s:=by
 obtain ⟨⟨cls,dd,data,sl⟩,ho,hc,n,hd⟩:=id ht
 obtain ⟨⟨cls2,dd2,data2,fr⟩,ho2,hc2,n2,hd2⟩:=id hb
 simp only at hc hd hc2 hd2
 subst hc hd hc2 hd2
 have e:vs.toArray++ws.toArray=(vs++ws).toArray:=by simp
 by_cases hw:ws=[]
 ·exact concat_meets ⟨_,ho,rfl⟩ ⟨_,ho2,rfl⟩ noFill_tuple_add seq_tuple_add xY xR (xM _ _)
   (tuple_addW1 t b vs.toArray ws.toArray n n2 dd dd2 sl fr (by simpa using hv) (by simp [hw])) ⟨ho,ho2,h1 hw⟩
 ·refine concat_meets ⟨_,ho,rfl⟩ ⟨_,ho2,rfl⟩ noFill_tuple_add seq_tuple_add xY xR (xM _ _)
   (tuple_addW2 t b vs.toArray ws.toArray n n2 dd dd2 sl fr (by simpa using hv) (by simpa using hw) (by rw [vq,vq]; exact hsz)) ⟨ho,ho2,?_⟩
  rw [e]
  exact h2 hw
noncomputable def aT (n d:Nat):Option Int->Nat
 | none=>d
 | some v=>if v < 0 then (v+(n:Int)).toNat else min v.toNat n
theorem ZkR (n d:Nat):aT n d none=d:=rfl
theorem ZbK (n d k:Nat):aT n d (some (k:Int))=min k n:=by
 show (if (k:Int) < 0 then ((k:Int)+(n:Int)).toNat else min (k:Int).toNat n)=min k n
 rw [if_neg (by omega),v3]
theorem ZkS (n d:Nat) (hd:d<=n) (o:Option Int):aT n d o<=n:=by
 cases o with
 | none=>exact hd
 | some v =>
  show (if v < 0 then (v+(n:Int)).toNat else min v.toNat n)<=n
  by_cases hv:v < 0
  ·rw [if_pos hv]; omega
  ·rw [if_neg hv]; exact yy _ _
theorem Zh2 (v:Int) (n d:Nat):(if v < 0 then max (v+(n:Int)) 0 else min v (n:Int))=((aT n d (some v):Nat):Int):=by
 show (if v < 0 then max (v+(n:Int)) 0 else min v (n:Int))=(((if v < 0 then (v+(n:Int)).toNat else min v.toNat n):Nat):Int)
 by_cases hv:v < 0
 ·rw [if_pos hv,if_pos hv,Int.ofNat_toNat]
 ·rw [if_neg hv,if_neg hv]
  obtain ⟨k,rfl⟩:=xV (Int.not_lt.mp hv)
  rw [v3,<- yS]
theorem ZqN (lo hi:Option Int) (n:Nat):Builtin.Slice.sliceAdjust lo hi 1 (n:Int)=(((aT n 0 lo:Nat):Int),((aT n n hi:Nat):Int)):=by
 have h1:¬ ((1:Int) < 0):=by omega
 unfold Builtin.Slice.sliceAdjust
 simp only [h1,if_false]
 refine Prod.ext ?_ ?_
 ·cases lo with
  | none=>rfl
  | some v=>exact Zh2 v n 0
 ·cases hi with
  | none=>rfl
  | some v=>exact Zh2 v n n
theorem Zlu (i j:Nat):Builtin.Slice.slicePlaces (i:Int) (j:Int) 1=j - i:=by
 unfold Builtin.Slice.slicePlaces
 have h1:(1:Int) > 0:=by omega
 simp only [h1,if_true,Int.ediv_one]
 split <;> omega
theorem ZaN {v:Value} {o:Option Int} {Q:Option Int->Shared->Prop} (p:IsPart v o) (h:Q o s):wpAny (model prog w) A (Builtin.Slice.slicePartIndex v) Q E s:=by
 cases p with
 | none=>exact slicePart_none h
 | int i t=>exact slicePart_int h
theorem ZaP {sl:Addr} {vl vu:Value} {lo hi:Option Int} {n:Nat} {Q:Int×Int×Nat->Shared->Prop} (hs:s.heap.IsSliceOf sl vl vu .none) (pl:IsPart vl lo) (pu:IsPart vu hi)
  (h:Q (((aT n 0 lo:Nat):Int),1,aT n n hi - aT n 0 lo) s):wpAny (model prog w) A (Builtin.Slice.sliceApplied (.ref sl) (pure (n:Int))) Q E s:=by
 obtain ⟨os,hos,hcs,hds⟩:=id hs
 unfold Builtin.Slice.sliceApplied Builtin.Slice.sliceFields
 refine wpAny_bind (wpAny_bind (wpAny_field hos hds (x:=vl) rfl (wpAny_bind (wpAny_field hos hds (x:=vu) rfl (wpAny_bind (wpAny_field hos hds (x:=.none) rfl (wpAny_pure ?_)))))))
 refine wpAny_bind (slicePart_none ?_)
 show wpAny _ _ (if ((1:Int) == 0)=true then _ else _) _ _ s
 rw [if_neg (by decide)]
 refine wpAny_bind (ZaN pl (wpAny_bind (ZaN pu (wpAny_bind (wpAny_pure ?_)))))
 show wpAny _ _ (match Builtin.Slice.sliceAdjust lo hi 1 (n:Int) with | (lo,hi)=>pure (lo,(1:Int),Builtin.Slice.slicePlaces lo hi 1)) _ _ s
 rw [ZqN lo hi n]
 show wpAny _ _ (pure (((aT n 0 lo:Nat):Int),(1:Int),Builtin.Slice.slicePlaces ((aT n 0 lo:Nat):Int) ((aT n n hi:Nat):Int) 1)) _ _ s
 rw [Zlu]
 exact wpAny_pure h
theorem Zlv (xs:Array Value) (i k:Nat):((List.range k).filterMap λ(m:Nat)=>xs[((i:Int)+(m:Int) * 1).toNat]?).toArray=((xs.toList.drop i).take k).toArray:=by
 have e:(λ(m:Nat)=>xs[((i:Int)+(m:Int) * 1).toNat]?)=λm=>xs[i+m]?:=by
  funext m
  have:((i:Int)+(m:Int) * 1).toNat=i+m:=by omega
  rw [this]
 rw [e]
 have:=pick_run xs i k
 rw [List.filterMap_map] at this
 have e2:((λx=>xs[x]?) ∘ λx=>i+x)=λm=>xs[i+m]?:=rfl
 rw [e2] at this
 rw [this]
theorem ZnF {t sl:Addr} {items:Array Value} {vl vu:Value} {lo hi:Option Int} {Q:zd} (ht:IsTup s.heap t items) (hs:s.heap.IsSliceOf sl vl vu .none) (pl:IsPart vl lo) (pu:IsPart vu hi)
  (hw:¬ (aT items.size 0 lo=0/\aT items.size items.size hi=items.size))
  (h:Q (.ref s.heap.objs.size) { s with heap:=s.heap.push { cls:=.type "tuple",data:=.seq ((items.toList.drop (aT items.size 0 lo)).take (aT items.size items.size hi - aT items.size 0 lo)).toArray } })
  (hsz:items.size<=sizeLine):wpAny (model prog w) A (getItem (.ref t) (.ref sl)) Q E s:=by
 have htake:sizeOk (.seq ((items.toList.drop (aT items.size 0 lo)).take (aT items.size items.size hi - aT items.size 0 lo)).toArray):=by
  show ((items.toList.drop (aT items.size 0 lo)).take (aT items.size items.size hi - aT items.size 0 lo)).toArray.size<=sizeLine
  rw [vq,xf,wK,yn]
  exact vS (yy _ _) (vS (Nat.sub_le _ _) hsz)
 have hj:aT items.size items.size hi<=items.size:=ZkS _ _ (vo _) hi
 obtain ⟨os,hos,hcs,hds⟩:=id hs
 have hTs:s.TypeIs (.ref sl) "slice":=⟨os,hos,hcs⟩
 unfold getItem
 try with_reducible refine wpAny_holding ?_
 first | refine wpAny_bind (wpAny_pure ?_) | skip
 refine wpAny_bind (wpAny_sequenceKey ht.typeIs (by decide) ?_)
 refine wpAny_bind (wpAny_callSpecial?_slot (name:=Str.ofString "__getitem__") ht.typeIs wQ
  (wpAny_call_entry wQ ht.typeIs entry_tuple_getitem ?_ (args_tuple_getitem _ _)))
 show wpAny _ _ (Builtin.Tuple.tupleItemsOf (.ref t) >>= _) _ _ s
 refine wpAny_bind (tupleItemsOf_ ht ?_)
 refine wpAny_bind (wpAny_typeOf hTs ?_)
 rw [if_pos (by decide)]
 refine wpAny_bind (ZaP hs pl pu ?_)
 have hno:¬ ((((aT items.size 0 lo:Nat):Int) == 0 && (1:Int) == 1 && (aT items.size items.size hi - aT items.size 0 lo) == items.size)=true):=by
  intro q
  rw [vU,vU] at q
  have q1:((aT items.size 0 lo:Nat):Int)=0:=eq_of_beq q.1.1
  have q2:aT items.size items.size hi - aT items.size 0 lo=items.size:=eq_of_beq q.2
  exact hw ⟨by omega,by omega⟩
 show wpAny _ _ (if (((aT items.size 0 lo:Nat):Int) == 0 && (1:Int) == 1 && (aT items.size items.size hi - aT items.size 0 lo) == items.size)=true then _ else _) _ _ s
 rw [if_neg hno,Zlv]
 first
  | exact wpAny_bind (m:=Builtin.Tuple.tupleExact _) (wpAny_newObj_type (wpAny_pure ⟨_,rfl,wpAny_pure h⟩) htake)
  | exact wpAny_bind (m:=Builtin.Tuple.tupleExact _) (wpAny_newObj_type (wpAny_bind (wpAny_pure (wpAny_pure ⟨_,rfl,wpAny_pure h⟩))) htake)
  | exact wpAny_bind (wpAny_bind (m:=Builtin.Tuple.tupleExact _) (wpAny_newObj_type (wpAny_pure (wpAny_pure ⟨_,rfl,wpAny_pure h⟩)) htake))
  | exact wpAny_bind (wpAny_bind (m:=Builtin.Tuple.tupleExact _) (wpAny_newObj_type (wpAny_pure ⟨_,rfl,wpAny_pure h⟩) htake))
end
end HT
namespace L2
noncomputable abbrev TO:=St->Hp->(Option Int->Hp->Prop)->Prop
noncomputable def PO (X:Cx) (e:Option Expr) (t:TO):Prop :=
 ∀ (pins:List (Addr×Obj)) (s:Shared) (σ:St) (H:Hp) (Q:Option Int->Hp->Prop),Inv X pins σ H s->t σ H Q ->
  wpAny (model X.prog X.w) X.A (evalPart e X.env) (λu s'=>∃ o H',Inv X pins σ H' s'/\IsPart u o/\Q o H') X.xe s
noncomputable def ZjV:TO:=λ_ H Q=>Q none H
noncomputable def ZjR (t:TE):TO:=λσ H Q=>t σ H λx H1=>∃ i,x=.int i/\Q (some i) H1
theorem ZdS {ns:zf}:∀ {us:zg},Vals (ns.map V.int) us->IntsAre us ns:=by
 induction ns with
 | nil=>intro us r; rw [xD] at r; cases r; exact .nil
 | cons n ns ih =>
  intro us r
  rw [vC] at r
  cases r with
  | cons r1 r2 =>
   obtain ⟨t,e⟩:=r1
   subst e
   exact .cons n t (ih r2)
section
variable {X:Cx} {e:Expr} {te:TE} {lo hi:Option Expr} {tl th:TO} {pos p2:Pos}
theorem Zcz:PO X none ZjV:=by
 intro pins s σ H Q I h
 rw [evalPart_none]
 exact wpAny_pure ⟨none,H,I,.none,h⟩
theorem Zcy (h:PE X e te):PO X (some e) (ZjR te):=by
 intro pins s σ H Q I hw
 rw [evalPart_some]
 refine thn (h pins s σ H _ I hw) λu s1 hz0=>?_
 obtain ⟨x,H1,I1,r1,q1⟩:=hz0
 obtain ⟨i,rfl,q⟩:=q1
 obtain ⟨t,rfl⟩:=r1
 exact ⟨some i,H1,I1,.int i t,q⟩
noncomputable def SlR (X:Cx) (r:V->Option Int->Option Int->Hp->VK->Prop):Prop :=
 ∀ (pins:List (Addr×Obj)) (s:Shared) (σ:St) (H:Hp) (x:V) (v vl vu:Value) (lo hi:Option Int) (sl:Addr) (Q:VK),Inv X pins σ H s->RelV x v->s.heap.IsSliceOf sl vl vu .none->IsPart vl lo->IsPart vu hi->r x lo hi H Q ->
  ∃ T id,typeLookup (.type T) "__getitem__"=pure (some (.builtin id))/\s.TypeIs v T/\wpAny (model X.prog X.w) X.A (getItem v (.ref sl)) (EP X pins σ Q) X.xe s
theorem SlR.or {r r':V->Option Int->Option Int->Hp->VK->Prop} (h:SlR X r) (h':SlR X r'):SlR X (λx lo hi H Q=>r x lo hi H Q\/r' x lo hi H Q):=by
 intro pins s σ H x v vl vu lo hi sl Q I rx hs pl pu q
 rcases q with q | q
 ·exact h pins s σ H x v vl vu lo hi sl Q I rx hs pl pu q
 ·exact h' pins s σ H x v vl vu lo hi sl Q I rx hs pl pu q
def tSl (r:V->Option Int->Option Int->Hp->VK->Prop) (te:TE) (tl th:TO):TE:=λσ H Q=>te σ H λx H1=>tl σ H1 λl H2=>th σ H2 λu H3=>r x l u H3 Q
theorem ZcD {r:V->Option Int->Option Int->Hp->VK->Prop} (hr:SlR X r) (he:PE X e te) (hl:PO X lo tl) (hu:PO X hi th):PE X (.Subscript e (.Slice lo hi none p2) pos) (tSl r te tl th):=by
 intro pins s σ H Q I h
 refine Subscript_ (thn (he pins s σ H _ I h) λv s1 hz0=>?_)
 obtain ⟨x,H1,I1,r1,q1⟩:=hz0
 refine wpAny_Slice (thn (hl pins s1 σ H1 _ I1 q1) λvl s2 ⟨l,H2,I2,pl,q2⟩=>thn (hu pins s2 σ H2 _ I2 q2) λvu s3 hz0=>?_)
 obtain ⟨u,H3,I3,pu,q3⟩:=hz0
 rw [evalPart_none]
 refine wpAny_pure ?_
 have I4:Inv X pins σ H3 { s3 with heap:=s3.heap.push { cls:=.type "slice",data:=.fields #[vl,vu,.none] } }:=I3.kept (t':=s3.toks) λb ob q=>vc _ q
 obtain ⟨T,id,hT,ht,hg⟩:=hr pins { s3 with heap:=s3.heap.push { cls:=.type "slice",data:=.fields #[vl,vu,.none] } } σ H3 x v vl vu l u s3.heap.objs.size Q I4 r1 (Heap.IsSliceOf.new ..) pl pu q3
 show wpAny (model X.prog X.w) X.A (subscriptTail e (.Slice lo hi none p2) v (.ref s3.heap.objs.size)) (EP X pins σ Q) X.xe { s3 with heap:=s3.heap.push { cls:=.type "slice",data:=.fields #[vl,vu,.none] } }
 exact tail_any (ops:=[.ref s3.heap.objs.size,v]) ht hT hg (by with_unfolding_all rfl)
noncomputable def fA (xs:zi) (lo hi:Option Int):zi:=(xs.drop (HT.aT xs.length 0 lo)).take (HT.aT xs.length xs.length hi - HT.aT xs.length 0 lo)
theorem ZhX (xs:zi) (lo hi:Option Int):(fA xs lo hi).length<=xs.length:=by
 unfold fA
 rw [xf,wK]
 exact vS (yy _ _) (Nat.sub_le _ _)
noncomputable def Zb5 (K:yY):V->Option Int->Option Int->Hp->VK->Prop:=λx lo hi H Q=>∃ a xs,x=.ref a/\SqT K H a xs /\
 ¬ (HT.aT xs.length 0 lo=0/\HT.aT xs.length xs.length hi=xs.length)/\∀ p,H p=none->Q (.ref p) (upd H p (.tup (fA xs lo hi)))
theorem Zkp:SlR X (Zb5 X.K):=by
 intro pins s σ H x v vl vu lo hi sl Q I rx hs pl pu h
 obtain ⟨a,xs,rfl,hx,hw,q⟩:=h
 cases rx
 obtain ⟨its,r,ht,hz⟩:=I.tuple hx
 have hlen:its.toArray.size=xs.length:=by rw [vq]; exact r.length.symm
 refine ⟨"tuple",_,PyProof.Rows.slot_tuple_getitem.lookup,ht.typeIs,?_⟩
 refine HT.ZnF ht hs pl pu (by rw [hlen]; exact hw) ?_ (by rw [hlen]; exact hz)
 rw [hlen]
 refine ⟨.ref s.heap.objs.size,_,I.laid (t':=s.toks) (o:=.tup (fA xs lo hi)) (λb ob q=>vc _ q) (vo _) ?_,rfl,q _ (I.hok.fresh (vo _))⟩
 exact ⟨vS (ZhX xs lo hi) hz,_,(r.drop (HT.aT xs.length 0 lo)).take (HT.aT xs.length xs.length hi - HT.aT xs.length 0 lo),IsTup.new _ _⟩
noncomputable def Zcl (K:yY):R2:=λx y H Q=>∃ a b xs ys,x=.ref a/\y=.ref b/\SqT K H a xs/\SqT K H b ys/\xs≠[]/\xs.length+ys.length<=sizeLine /\
 (ys=[]->Q (.ref a) H)/\(ys≠[]->∀ p,H p=none->Q (.ref p) (upd H p (.tup (xs++ys))))
theorem Vals.nil_iff {xs:zi} {us:zg} (r:Vals xs us):us=[] ↔ xs=[]:=by
 cases r with
 | nil=>simp
 | cons _ _=>simp
theorem Zl5:OpR X (binaryOp .Add) (Zcl X.K):=by
 intro pins s σ H x y v u Q I rx ry h
 obtain ⟨a,b,xs,ys,rfl,rfl,ha,hb,hx,hz,q1,q2⟩:=h
 cases rx
 cases ry
 obtain ⟨its,r1,p1,_⟩:=I.tuple ha
 obtain ⟨its2,r2,p2,_⟩:=I.tuple hb
 refine HT.ZpF p1 p2 (λz=>hx (r1.nil_iff.mp z)) (λz=>⟨.ref a,H,I,rfl,q1 (r2.nil_iff.mp z)⟩) (λz=>?_) (by rw [<- r1.length,<- r2.length]; exact hz)
 refine ⟨.ref s.heap.objs.size,_,I.laid (t':=s.toks) (o:=.tup (xs++ys)) (λb ob q=>vc _ q) (vo _) ?_,rfl,q2 (λw=>z (r2.nil_iff.mpr w)) _ (I.hok.fresh (vo _))⟩
 exact ⟨by rw [v6]; exact hz,_,r1.append r2,IsTup.new _ _⟩
end
noncomputable def cR (n:Nat) (i:Int):Option Nat:=if 0<=i then (if i < n then some i.toNat else none) else if -(n:Int)<=i then some (i+n).toNat else none
noncomputable def bw {α:Type} (xs:List α) (i:Int):Option α:=(cR xs.length i).bind λj=>xs[j]?
theorem ZdJ {n:Nat} {i:Int} {j:Nat} (h:cR n i=some j):seqIndex? i n=some j/\j < n/\-(n:Int)<=i/\i < n:=by
 unfold cR at h
 by_cases h0:0<=i
 ·rw [if_pos h0] at h
  by_cases h1:i < n
  ·rw [if_pos h1] at h
   have e:i.toNat=j:=vX h
   exact ⟨by rw [seqIndex_of h0 h1,e],by omega,by omega,h1⟩
  ·rw [if_neg h1] at h; cases h
 ·rw [if_neg h0] at h
  by_cases h1:-(n:Int)<=i
  ·rw [if_pos h1] at h
   have e:(i+n).toNat=j:=vX h
   exact ⟨by rw [seqIndex_neg (by omega) h1,e],by omega,h1,by omega⟩
  ·rw [if_neg h1] at h; cases h
theorem pG {α:Type} {xs:List α} {i:Int} {v:α} (h:bw xs i=some v):∃ j,seqIndex? i xs.length=some j/\xs[j]?=some v/\j < xs.length/\-(xs.length:Int)<=i/\i < xs.length:=by
 unfold bw at h
 cases e:cR xs.length i with
 | none=>rw [e] at h; cases h
 | some j =>
  rw [e] at h
  obtain ⟨h1,h2,h3,h4⟩:=ZdJ e
  exact ⟨j,h1,h,h2,h3,h4⟩
theorem fP {α:Type} {xs:List α} {j:Nat} {v:α} (h:xs[j]?=some v):bw xs (j:Int)=some v:=by
 have hj:j < xs.length:=(vf.mp h).1
 have e:cR xs.length (j:Int)=some j:=by
  unfold cR
  rw [if_pos (by omega),if_pos (by omega)]; simp
 unfold bw; rw [e]; exact h
def qa (b:Expr):Prop:=∀ o i,subscripted b false o i=operate [o,i] (getItem o i)
noncomputable def IxR (X:Cx) (r:R2):Prop :=
 ∀ (value slice:Expr) (pins:List (Addr×Obj)) (s:Shared) (σ:St) (H:Hp) (x y:V) (v u:Value) (Q:VK),Inv X pins σ H s->RelV x v->RelV y u->r x y H Q ->
  subscripted slice false v u=operate [v,u] (getItem v u)->wpAny (model X.prog X.w) X.A (subscriptTail value slice v u) (EP X pins σ Q) X.xe s
noncomputable def MtR (X:Cx) (id:String) (r:V->List V->Hp->VK->Prop):Prop :=
 ∀ (pins:List (Addr×Obj)) (s:Shared) (σ:St) (H:Hp) (x:V) (xs:zi) (v:Value) (us:zg) (Q:VK),Inv X pins σ H s->RelV x v->Vals xs us->r x xs H Q ->
  wpAny (model X.prog X.w) X.A (call (.builtin id) (v::us)) (EP X pins σ Q) X.xe s
section
variable {X:Cx} {a b:Expr} {ta tb:TE} {pos:Pos}
theorem IxR.or {r r':R2} (h:IxR X r) (h':IxR X r'):IxR X (λx y H Q=>r x y H Q\/r' x y H Q):=by
 intro value slice pins s σ H x y v u Q I rx ry q hs
 rcases q with q | q
 ·exact h value slice pins s σ H x y v u Q I rx ry q hs
 ·exact h' value slice pins s σ H x y v u Q I rx ry q hs
theorem nK {r:R2} (hr:IxR X r) (ha:PE X a ta) (hb:PE X b tb) (hs:qa b):PE X (.Subscript a b pos) (iL r ta tb):=by
 intro pins s σ H Q I h
 exact Subscript_ (uq ha hb I h λv u s2 x y H2 I2 rx ry q=>hr a b pins s2 σ H2 x y v u Q I2 rx ry q (hs _ _))
noncomputable def rO (K:yY):R2:=λx y H Q=>∃ p xs i v,x=.ref p/\y=.int i/\SqL K H p xs/\bw xs i=some v/\Q v H
noncomputable def Zcf (K:yY):R2:=λx y H Q=>∃ p xs i v,x=.ref p/\y=.int i/\SqT K H p xs/\bw xs i=some v/\Q v H
noncomputable def Zcg:R2:=λx y H Q=>∃ z i c,x=.str z/\y=.int i/\z.length<=sizeLine/\bw z.cps.toList i=some c/\Q (.str ⟨#[c]⟩) H
theorem tt:IxR X (rO X.K):=by
 intro value slice pins s σ H x y v u Q I rx ry h hs
 obtain ⟨p,xs,i,z,rfl,rfl,hq,he,q⟩:=h
 cases rx
 obtain ⟨t,rfl⟩:=ry
 obtain ⟨its,r,pl,hz⟩:=I.list hq
 obtain ⟨j,h1,h2,h3,h4,h5⟩:=pG he
 obtain ⟨w,ew,rw'⟩:=r.get h2
 have hl:=r.length
 have hn:=iq
 have fin:EP X pins σ Q w s:=⟨z,H,I,rw',q⟩
 by_cases h0:0<=i
 ·have hj:i.toNat=j:=by
   rw [seqIndex_of h0 h5] at h1
   exact vX h1
  exact item_listR pl.isList h0 (by omega) (by rw [hj]; simpa using ew) fin hs
 ·have hj:(i+(its.toArray.size:Int)).toNat=j:=by
   rw [seqIndex_neg (by omega) h4] at h1
   rw [vq,<- hl]
   exact vX h1
  exact subscriptTail_builtinR (x:=w) pl.isList.typeIs slot_list_getitem.lookup
   (wpAny_getItem_list_neg (Q:=λr s'=>r=w/\EP X pins σ Q r s') pl.isList (by omega) (by rw [vq] <;> omega) (by omega) (by rw [hj]; simpa using ew) ⟨rfl,fin⟩) hs
theorem ZdI:IxR X (Zcf X.K):=by
 intro value slice pins s σ H x y v u Q I rx ry h hs
 obtain ⟨p,xs,i,z,rfl,rfl,hq,he,q⟩:=h
 cases rx
 obtain ⟨t,rfl⟩:=ry
 obtain ⟨its,r,pl,hz⟩:=I.tuple hq
 obtain ⟨j,h1,h2,h3,h4,h5⟩:=pG he
 obtain ⟨w,ew,rw'⟩:=r.get h2
 have hl:=r.length
 have hn:=iq
 have fin:EP X pins σ Q w s:=⟨z,H,I,rw',q⟩
 exact subscriptTail_builtinR (x:=w) pl.typeIs slot_tuple_getitem.lookup
  (getItem_tuple (j:=j) (Q:=λr s'=>r=w/\EP X pins σ Q r s') pl (by omega) (by omega) (by rw [vq,<- hl]; exact h1) (by simpa using ew) ⟨rfl,fin⟩) hs
theorem Zns:IxR X Zcg:=by
 intro value slice pins s σ H x y v u Q I rx ry h hs
 obtain ⟨z,i,c,rfl,rfl,hz,he,q⟩:=h
 obtain ⟨t,rfl⟩:=rx
 obtain ⟨t',rfl⟩:=ry
 obtain ⟨j,h1,h2,h3,h4,h5⟩:=pG he
 have hl:z.cps.toList.length=z.length:=by simp [Str.length]
 rw [hl] at h1 h4 h5
 have hn:=iq
 exact tail_any (typeIs_str s z t) slot_str_getitem.lookup (getItem_str (c:=c) (by
  have e1:decide (i < -(2 ^ 63:Int))=false:=decide_eq_false (by omega)
  have e2:decide (i ≥ 2 ^ 63)=false:=decide_eq_false (by omega)
  rw [e1,e2,Bool.or_false]) (by rw [h1]; simpa using h2) ⟨.str ⟨#[c]⟩,H,I.tok _,⟨_,rfl⟩,q⟩) hs
noncomputable def rIx (K:yY):R2:=λx y H Q=>rO K x y H Q\/Zcf K x y H Q\/Zcg x y H Q
theorem aJ:IxR X (rIx X.K):=tt.or (ZdI.or Zns)
theorem ZmN (its:zg) (n j:Nat) (u:Value):Obj.mapSeq (·.setIfInBounds j u) { cls:=.type "list",data:=.seq its.toArray n }={ cls:=.type "list",data:=.seq (its.set j u).toArray n }:=by
 simp [Obj.mapSeq]
theorem Inv.lst {pins:List (Addr×Obj)} {σ:St} {H:Hp} {s:Shared} {p:Addr} {xs:zi} (I:Inv X pins σ H s) (h:H p=some (.lst xs)) :
  ∃ (its:zg) (n:Nat),Vals xs its/\s.heap.get? p=some { cls:=.type "list",data:=.seq its.toArray n }/\xs.length<=sizeLine:=by
 obtain ⟨z,its,n,r,e⟩:=I.hok p _ h
 exact ⟨its,n,r,e,z⟩
theorem Inv.lstUpd {pins:List (Addr×Obj)} {σ:St} {H:Hp} {s:Shared} {p:Addr} {xs ys:zi} {its its':zg} {n n':Nat} {f:Obj->Obj} (I:Inv X pins σ H s) (h:H p=some (.lst xs))
  (ho:s.heap.get? p=some { cls:=.type "list",data:=.seq its.toArray n }) (hf:f { cls:=.type "list",data:=.seq its.toArray n }={ cls:=.type "list",data:=.seq its'.toArray n' }) (r:Vals ys its') (hz:ys.length<=sizeLine) (t:Nat) :
  Inv X pins σ (upd H p (.lst ys)) { s with heap:=s.heap.update p f,toks:=t }:=by
 have e:(s.heap.update p f).get? p=some { cls:=.type "list",data:=.seq its'.toArray n' }:=by
  rw [wU f ho (by rw [hf] <;> rfl),hf]
 refine I.write (x:=p) (e:=p) (by rw [h]; trivial) (.inl rfl) (λb u hb q=>(wf _ _ (Ne.symm hb)).trans q) ⟨_,e⟩ ?_
 exact ⟨hz,its',n',r,e⟩
noncomputable def rL:V->V->V->Hp->(Hp->Prop)->Prop:=λo i v H Q=>∃ p xs k j,o=.ref p/\i=.int k/\H p=some (.lst xs)/\cR xs.length k=some j/\Q (upd H p (.lst (xs.set j v)))
theorem kY:u4 X rL:=by
 intro pins s σ H o i v ov iv u Q I ro ri rv h
 obtain ⟨p,xs,k,j,rfl,rfl,hp,hj,q⟩:=h
 cases ro
 obtain ⟨t,rfl⟩:=ri
 obtain ⟨its,n,r,ho,hz⟩:=I.lst hp
 obtain ⟨h1,h2,h3,h4⟩:=ZdJ hj
 have hl:=r.length
 have hn:=iq
 have I':Inv X pins σ (upd H p (.lst (xs.set j v))) { s with heap:=s.heap.update p (Obj.mapSeq (·.setIfInBounds j u)) } :=
  I.lstUpd hp ho (ZmN its n j u) (r.set rv j) (by rw [wc]; exact hz) s.toks
 by_cases h0:0<=k
 ·have hk:k.toNat=j:=by
   rw [seqIndex_of h0 h4] at h1
   exact vX h1
  exact PySem.W.ki_setAt ho h0 (by omega) (by rw [vq,<- hl]; exact h4) (by rw [hk]; exact ⟨_,I',q⟩)
 ·have hk:(k+(its.toArray.size:Int)).toNat=j:=by
   rw [seqIndex_neg (by omega) h3] at h1
   rw [vq,<- hl]
   exact vX h1
  exact PySem.W.ki_setBack ho (by omega) (by rw [vq,<- hl]; exact h3) (by omega) (by rw [hk]; exact ⟨_,I',q⟩)
theorem ZhV {n:Nat} {i:Int} (h:i < 0):max 0 (min (i+(n:Int)) n)=(((i+n).toNat:Nat):Int):=by
 rw [Int.min_eq_left (by omega),Int.ofNat_toNat,Int.max_comm]
theorem ZhW {n:Nat} {i:Int} (h:¬ i < 0):max 0 (min i (n:Int))=((min i.toNat n:Nat):Int):=by
 obtain ⟨k,rfl⟩:=xV (Int.not_lt.mp h)
 rw [v3,<- yS]
 exact Int.max_eq_right (Int.natCast_nonneg _)
theorem Zkm (lo hi:Option Int) (n:Nat):(sliceBounds lo hi none n).1=((HT.aT n 0 lo:Nat):Int)/\(sliceBounds lo hi none n).2.1=((HT.aT n n hi:Nat):Int)/\(sliceBounds lo hi none n).2.2=1:=by
 refine ⟨?_,?_,rfl⟩
 ·cases lo with
  | none=>simp [sliceBounds,HT.aT]
  | some i =>
   simp only [sliceBounds,HT.aT,Option.getD_none,show (1:Int) > 0 by decide,if_true]
   by_cases h:i < 0
   ·simp only [h,if_true]
    exact ZhV h
   ·simp only [h,if_false]
    exact ZhW h
 ·cases hi with
  | none=>simp [sliceBounds,HT.aT]
  | some i =>
   simp only [sliceBounds,HT.aT,Option.getD_none,show (1:Int) > 0 by decide,if_true]
   by_cases h:i < 0
   ·simp only [h,if_true]
    exact ZhV h
   ·simp only [h,if_false]
    exact ZhW h
theorem Zkn (its:zg) (lo hi:Option Int):slicePick its.toArray lo hi none=((its.drop (HT.aT its.length 0 lo)).take (HT.aT its.length its.length hi - HT.aT its.length 0 lo)).toArray:=by
 obtain ⟨h1,h2,h3⟩:=Zkm lo hi its.toArray.size
 unfold slicePick
 rw [h1,h2,h3]
 simp only [sliceRange_one,pick_run,vq] <;> rfl
noncomputable def Zb6 (K:yY):V->Option Int->Option Int->Hp->VK->Prop:=λx lo hi H Q=>∃ a xs,x=.ref a/\SqL K H a xs/\∀ p,H p=none->Q (.ref p) (upd H p (.lst (fA xs lo hi)))
theorem ZaQ:SlR X (Zb6 X.K):=by
 intro pins s σ H x v vl vu lo hi sl Q I rx hs pl pu h
 obtain ⟨a,xs,rfl,hx,q⟩:=h
 cases rx
 obtain ⟨its,r,ht,hz⟩:=I.list hx
 have hlen:=r.length
 refine ⟨"list",_,slot_list_getitem.lookup,ht.isList.typeIs,?_⟩
 refine wpAny_getItem_list_slice ht.isList hs pl pu .none (by simp) ?_ (by rw [vq] <;> omega)
 rw [Zkn,<- hlen]
 refine ⟨.ref s.heap.objs.size,_,I.laid (t':=s.toks) (o:=.lst (fA xs lo hi)) (λb ob q=>vc _ q) (vo _) ?_,rfl,q _ (I.hok.fresh (vo _))⟩
 exact ⟨vS (ZhX xs lo hi) hz,_,0,(r.drop (HT.aT xs.length 0 lo)).take (HT.aT xs.length xs.length hi - HT.aT xs.length 0 lo),vn _ rfl⟩
theorem eI:dE X (.builtin "len") (λxs H Q=>∃ p ys,xs=[.ref p]/\(SqL X.K H p ys\/SqT X.K H p ys)/\Q (.int ys.length) H):=by
 intro pins s σ H xs us Q I r h
 obtain ⟨p,ys,rfl,hq,q⟩:=h
 obtain ⟨u,rfl,rx⟩:=fi r
 cases rx
 have hn:=iq
 rcases hq with hq | hq
 ·obtain ⟨its,r',pl,hz⟩:=I.list hq
  have hlen:=r'.length
  exact Calls.call_len_list pl.isList (by simp only [vq] <;> omega) ⟨.int ys.length,H,I.tok _,⟨s.toks+1,by rw [vq,hlen]⟩,q⟩
 ·obtain ⟨its,r',pl,hz⟩:=I.tuple hq
  have hlen:=r'.length
  exact len_tuple pl (by simp only [vq] <;> omega) ⟨.int ys.length,H,I.tok _,⟨s.toks+1,by rw [vq,hlen]⟩,q⟩
theorem Zia:dE X (.type "list") (λxs H Q=>∃ p ys,xs=[.ref p]/\(SqL X.K H p ys\/SqT X.K H p ys)/\∀ l,H l=none->Q (.ref l) (upd H l (.lst ys))):=by
 intro pins s σ H xs us Q I r h
 obtain ⟨p,ys,rfl,hq,q⟩:=h
 obtain ⟨u,rfl,rx⟩:=fi r
 cases rx
 have fin:∀ (its:zg),Vals ys its->ys.length<=sizeLine->∀ (h':Heap) (c':Nat),(∀ b o',s.heap.get? b=some o'->h'.get? b=some o') ->
   h'.get? s.heap.objs.size=some { cls:=.type "list",dict:=none,data:=.seq its.toArray c',slots:=#[] }->EP X pins σ Q (.ref s.heap.objs.size) { s with heap:=h' }:=λits r' hz h' c' kp e =>
  ⟨.ref s.heap.objs.size,_,I.laid (t':=s.toks) kp (vo _) (show ObjOk X.prog X.w _ h' _ (.lst ys) from ⟨hz,its,c',r',e⟩),rfl,q _ (I.hok.fresh (vo _))⟩
 rcases hq with hq | hq
 ·obtain ⟨its,r',pl,hz⟩:=I.list hq
  have hlen:=r'.length
  obtain ⟨o,ho,hc,n,hd⟩:=pl.isList
  exact call_list_seq p (.inl rfl) ho hc hd (λh' c' kp e=>fin its r' hz h' c' kp e) (by simp only [vq] <;> omega)
 ·obtain ⟨its,r',pl,hz⟩:=I.tuple hq
  have hlen:=r'.length
  obtain ⟨o,ho,hc,n,hd⟩:=pl
  exact call_list_seq p (.inr rfl) ho hc hd (λh' c' kp e=>fin its r' hz h' c' kp e) (by simp only [vq] <;> omega)
theorem gS:dE X (.type "tuple") (λxs H Q=>∃ p ys,xs=[.ref p]/\((SqL X.K H p ys/\∀ l,H l=none->Q (.ref l) (upd H l (.tup ys)))\/(SqT X.K H p ys/\Q (.ref p) H))):=by
 intro pins s σ H xs us Q I r h
 obtain ⟨p,ys,rfl,h⟩:=h
 obtain ⟨u,rfl,rx⟩:=fi r
 cases rx
 rcases h with ⟨hq,q⟩ | ⟨hq,q⟩
 ·obtain ⟨its,r',pl,hz⟩:=I.list hq
  have hlen:=r'.length
  refine call_tuple_list pl.isList (λh' kp=>?_) (by simp only [vq] <;> omega)
  have I1:Inv X pins σ H { s with heap:=h' }:=I.kept (t':=s.toks) kp
  have I2:Inv X pins σ (upd H h'.objs.size (.tup ys)) { s with heap:=h'.push { cls:=.type "tuple",data:=.seq its.toArray } } :=
   I1.laid (t':=s.toks) (λb o e=>vc _ e) (vo _) (show ObjOk X.prog X.w _ _ _ (.tup ys) from ⟨hz,its,r',IsTup.new _ _⟩)
  exact ⟨.ref h'.objs.size,_,I2,rfl,q _ (I1.hok.fresh (vo _))⟩
 ·obtain ⟨its,r',pl,hz⟩:=I.tuple hq
  exact call_tuple_same pl ⟨.ref p,H,I,rfl,q⟩
def qB (K:yY) (T:String) (x:V) (H:Hp):Prop:=match x with
 | .str _=>T="str"
 | .int _=>T="int"
 | .ref p=>(T="list"/\∃ xs,SqL K H p xs)\/(T="tuple"/\∃ o,K.lookup p=some o/\o.cls=.type "tuple"/\o.dict=none) \/
   (T="dict"/\((∃ kvs,H p=some (.dK kvs))\/∃ kvs,H p=some (.dT kvs)))\/(T="set"/\∃ S n,H p=some (.set S n))
 | _=>False
theorem Zan {pins:List (Addr×Obj)} {σ:St} {H:Hp} {s:Shared} {T:String} {x:V} {v:Value} (I:Inv X pins σ H s) (r:RelV x v) (ty:qB X.K T x H) :
  s.TypeIs v T/\∀ a,v=.ref a->∃ ob,s.heap.get? a=some ob/\ob.dict=none:=by
 cases x with
 | str z =>
  obtain ⟨t,rfl⟩:=r
  cases (show T="str" from ty)
  exact ⟨typeIs_str s z t,λ_ e=>nomatch e⟩
 | int i =>
  obtain ⟨t,rfl⟩:=r
  cases (show T="int" from ty)
  exact ⟨typeIs_int s i t,λ_ e=>nomatch e⟩
 | ref p =>
  cases r
  rcases ty with ⟨rfl,xs,hq⟩ | ⟨rfl,o,hk,hc,hd⟩ | ⟨rfl,hk⟩ | ⟨rfl,S,n,hk⟩
  ·obtain ⟨its,_,pl,_⟩:=I.list hq
   refine ⟨pl.isList.typeIs,λa e=>?_⟩
   cases e
   obtain ⟨o,n,e,c,hd,_⟩:=pl
   exact ⟨o,e,hd⟩
  ·refine ⟨⟨o,I.kIn p o hk,hc⟩,λa e=>?_⟩
   cases e
   exact ⟨o,I.kIn _ o hk,hd⟩
  ·have z:∃ o,s.heap.get? p=some o/\o.ExactDict:=by
    rcases hk with ⟨kvs,hk⟩ | ⟨kvs,hk⟩
    ·obtain ⟨_,_,_,_,o,_,_,e,ex,_⟩:=I.hok p _ hk
     exact ⟨o,e,ex⟩
    ·obtain ⟨_,_,_,_,o,_,_,e,ex,_⟩:=I.hok p _ hk
     exact ⟨o,e,ex⟩
   obtain ⟨o,e,ex⟩:=z
   refine ⟨⟨o,e,ex.1⟩,λa e2=>?_⟩
   cases e2
   exact ⟨o,e,ex.2.1⟩
  ·obtain ⟨o,_,_,_,e,ex,_⟩:=I.hok p _ hk
   refine ⟨⟨o,e,ex.1⟩,λa e2=>?_⟩
   cases e2
   exact ⟨o,e,ex.2.1⟩
 | _=>exact False.elim ty
def Zav (K:yY) (T:String) (r:V->List V->Hp->VK->Prop) (to:TE):TE:=λσ H Q=>to σ H λx H1=>qB K T x H1/\r x [] H1 Q
def tBM (K:yY) (T:String) (r:V->List V->Hp->VK->Prop) (to:TE) (t:TA):TE:=λσ H Q=>to σ H λx H1=>qB K T x H1/\t σ H1 λxs H2=>r x xs H2 Q
variable {o e:Expr} {es:List Expr} {to:TE} {t:TA} {name:Str} {apos cpos:Pos} {T id:String} {r:V->List V->Hp->VK->Prop}
theorem ZcE (pa:PlainAttrs T) (slot:Slot T name id) (hty:typeOf (.builtin id)=pure (.type "method_descriptor")) (hm:MtR X id r) (ho:PE X o to)
  (hbase:attributeBase o name X.env (eval o X.env)=eval o X.env:=by rfl) (hline:(apos.endLine == cpos.line)=true:=by rfl):PE X (.Call (.Attribute o name apos) [] [] cpos) (Zav X.K T r to):=by
 intro pins s σ H Q I h
 refine wpAny_Call_method0_late hbase hline (thn (ho pins s σ H _ I h) λv s1 hz0=>?_)
 obtain ⟨x,H1,I1,r1,ty,q1⟩:=hz0
 obtain ⟨h1,h2⟩:=Zan I1 r1 ty
 exact ⟨T,id,pa,slot,hty,h1,h2,Calls.callWith_builtin rfl (PySem.evalArgs_none (hm pins s1 σ H1 x [] v [] Q I1 r1 .nil q1))⟩
theorem nM (pa:PlainAttrs T) (slot:Slot T name id) (hty:typeOf (.builtin id)=pure (.type "method_descriptor")) (hm:MtR X id r) (ho:PE X o to) (ha:PA X (e::es) t)
  (hbase:attributeBase o name X.env (eval o X.env)=eval o X.env:=by rfl)
  (hfew:((backTo cpos (starEach (e::es) X.env)).all (λx=>!x.1) && (backToKw cpos (keywordEach [] X.env)).all (λx=>x.1.isSome)
   && decide ((e::es).length+([]:List Keyword).length+(if ([]:List Keyword).isEmpty then 0 else 1) < 30))=true:=by rfl)
  (hline:(apos.endLine == cpos.line)=true:=by rfl) (hs:starEach (e::es) X.env=(false,eval e X.env)::starEach es X.env:=by rfl) (hplain:(backTo cpos (starEach es X.env)).any (·.1)=false:=by rfl) :
  PE X (.Call (.Attribute o name apos) (e::es) [] cpos) (tBM X.K T r to t):=by
 intro pins s σ H Q I h
 refine wpAny_Call_method_late hbase hfew hline rfl (thn (ho pins s σ H _ I h) λv s1 hz0=>?_)
 obtain ⟨x,H1,I1,r1,ty,q1⟩:=hz0
 obtain ⟨h1,h2⟩:=Zan I1 r1 ty
 refine ⟨T,id,pa,slot,hty,h1,h2,?_⟩
 have hA:=ha cpos pins s1 σ H1 _ I1 q1
 rw [hs] at hA ⊢
 refine Calls.callWith_builtin (by show (false || (backTo cpos (starEach es X.env)).any (·.1))=false; rw [hplain] <;> rfl) (Calls.evalArgs_plain ?_)
 exact thn hA λus s2 hz0=>by
  obtain ⟨vs,H2,I2,r2,q2⟩:=hz0
  exact hm pins s2 σ H2 x vs v us Q I2 r1 r2 q2
end
noncomputable def MtM (X:Cx) (id:String) (r:V->List V->Hp->VK->Prop):Prop :=
 ∀ (pins:List (Addr×Obj)) (s:Shared) (σ:St) (H:Hp) (x:V) (xs:zi) (v:Value) (us:zg) (Q:VK),Inv X pins σ H s->RelV x v->Vals xs us->r x xs H Q ->
  wpAny (model X.prog X.w) X.A (call (.builtin id) (v::us)) (EP X pins σ Q) X.xe s
theorem Vals.one {x:V} {us:zg} (h:Vals [x] us):∃ u,us=[u]/\RelV x u:=by
 cases h with
 | cons r t=>cases t; exact ⟨_,rfl,r⟩
theorem Vals.zero:∀ {us:zg},Vals [] us->us=[]
 | _,.nil=>rfl
theorem Vals.reverse {xs:zi} {us:zg} (h:Vals xs us):Vals xs.reverse us.reverse:=by
 induction h with
 | nil=>exact .nil
 | cons r t ih=>rw [xq,xq]; exact Vals.append ih (.cons r .nil)
theorem Vals.rep {xs:zi} {us:zg} (h:Vals xs us):∀ k:Nat,Vals (List.replicate k xs).flatten (List.replicate k us).flatten
 | 0=>.nil
 | k+1=>by
  rw [vP,vP,wa,wa]
  exact Vals.append h (Vals.rep h k)
theorem Zeg (its:zg):∀ (k:Nat) (acc:zg),
  List.foldl (λx1 x2=>x1++x2) acc.toArray (List.replicate k its.toArray)=(acc++(List.replicate k its).flatten).toArray
 | 0,acc=>by simp
 | k+1,acc=>by
  have e:acc.toArray++its.toArray=(acc++its).toArray:=by simp
  have e2:(acc++its)++(List.replicate k its).flatten=acc++(List.replicate (k+1) its).flatten:=by
   rw [vP,wa,xa]
  rw [<- e2,<- Zeg its k (acc++its),<- e,vP,yD]
section
variable {X:Cx} {pins:List (Addr×Obj)} {σ:St} {H:Hp} {s:Shared} {l b:Addr} {xs ys zs:zi}
theorem Inv.lset {its its':zg} {n:Nat} {f:Array Value->Array Value} {t':Nat} (I:Inv X pins σ H s) (hH:H l=some (.lst xs))
  (e:s.heap.get? l=some { cls:=.type "list",data:=.seq its.toArray n }) (hf:f its.toArray=its'.toArray) (hv:Vals ys its') (hz:ys.length<=sizeLine) :
  Inv X pins σ (upd H l (.lst ys)) { s with heap:=s.heap.update l (Obj.mapSeq f),toks:=t' }:=by
 have q:=PySem.IsL.update e f
 rw [hf] at q
 refine I.write (x:=l) (e:=l) (by rw [hH]; exact trivial) (.inl rfl) (λb' u hb hu=>(wf s.heap (Obj.mapSeq f) (Ne.symm hb)).trans hu) ⟨_,q⟩ ?_
 exact ⟨hz,its',_,hv,q⟩
theorem Inv.lnew {its:zg} {t':Nat} (I:Inv X pins σ H s) (hv:Vals ys its) (hz:ys.length<=sizeLine) :
  Inv X pins σ (upd H s.heap.objs.size (.lst ys)) { s with heap:=s.heap.push { cls:=.type "list",data:=.seq its.toArray },toks:=t' } :=
 I.laid (λ_ _ q=>vc _ q) (vo _) ⟨hz,its,0,hv,vn _ rfl⟩
theorem Inv.fresh (I:Inv X pins σ H s):H s.heap.objs.size=none:=I.hok.fresh (vo _)
theorem Inv.lstM (I:Inv X pins σ H s) (hH:H l=some (.lst xs)):xs.length<=sizeLine/\∃ (its:zg) (n:Nat),Vals xs its/\xs.length=its.length/\s.heap.get? l=some { cls:=.type "list",data:=.seq its.toArray n }:=by
 obtain ⟨z,its,n,r,e⟩:=I.hok l _ hH
 exact ⟨z,its,n,r,r.length,e⟩
theorem Zmo {n:Nat} (h:n<=sizeLine):Builtin.List.listTooLong n=false:=by
 unfold Builtin.List.listTooLong
 exact decide_eq_false (by omega)
end
section
variable {X:Cx}
noncomputable def Zco:V->List V->Hp->VK->Prop:=λx vs H Q=>∃ l xs y,x=.ref l/\vs=[y]/\H l=some (.lst xs)/\xs.length < sizeLine/\Q .non (upd H l (.lst (xs++[y])))
theorem nX:MtM X "list.append" Zco:=by
 intro pins s σ H x vs v us Q I rx rv h
 obtain ⟨l,xs,y,rfl,rfl,hH,hz,q⟩:=h
 cases rx
 obtain ⟨u,rfl,ru⟩:=rv.one
 obtain ⟨z,its,n,r,hl,e⟩:=I.lstM hH
 refine call_meets F.slot_list_append ⟨_,e,rfl⟩ F.entry_list_append (F.args_list_append_2 _ _) (PySem.list_append l its.toArray n u (by rw [vq]; omega)) ⟨e,?_⟩
 refine ⟨.non,_,I.lset (its':=its++[u]) hH e (by simp) (r.append (.cons ru .nil)) ?_,rfl,q⟩
 rw [v6,List.length_singleton]
 omega
noncomputable def Zb7:V->List V->Hp->VK->Prop:=λx vs H Q=>∃ l xs,x=.ref l/\vs=[]/\H l=some (.lst xs)/\Q .non (upd H l (.lst xs.reverse))
theorem Zc5:MtM X "list.reverse" Zb7:=by
 intro pins s σ H x vs v us Q I rx rv h
 obtain ⟨l,xs,rfl,rfl,hH,q⟩:=h
 cases rx
 have hus:=rv.zero
 subst hus
 obtain ⟨z,its,n,r,hl,e⟩:=I.lstM hH
 refine call_meets F.slot_list_reverse ⟨_,e,rfl⟩ F.entry_list_reverse (F.args_list_reverse_1 _) (AutoSeq1.list_reverse_list_0 l its.toArray n (by rw [vq]; omega)) ⟨e,?_⟩
 refine ⟨.non,_,I.lset (its':=its.reverse) hH e (by simp) r.reverse ?_,rfl,q⟩
 rw [wb]
 omega
noncomputable def Zcn:R2:=λx y H Q=>∃ l b xs zs,x=.ref l/\y=.ref b/\H l=some (.lst xs)/\H b=some (.lst zs)/\xs.length+zs.length<=sizeLine/\∀ p,H p=none->Q (.ref p) (upd H p (.lst (xs++zs)))
theorem Zl7:OpR X (binaryOp .Add) Zcn:=by
 intro pins s σ H x y v u Q I rx ry h
 obtain ⟨l,b,xs,zs,rfl,rfl,hH,hB,hz,q⟩:=h
 cases rx
 cases ry
 obtain ⟨z,its,n,r,hl,e⟩:=I.lstM hH
 obtain ⟨z2,its2,n2,r2,hl2,e2⟩:=I.lstM hB
 refine PySem.P.add_list e e2 ?_ (by rw [vq,vq]; omega)
 have ea:its.toArray++its2.toArray=(its++its2).toArray:=by simp
 rw [ea]
 exact ⟨.ref _,_,I.lnew (t':=s.toks) (r.append r2) (by rw [v6]; omega),rfl,q _ I.fresh⟩
noncomputable def rN:R2:=λx y H Q=>∃ l k xs,x=.ref l/\y=.int k/\H l=some (.lst xs)/\-(2 ^ 63)<=k/\k < 2 ^ 63/\xs.length * k.toNat<=sizeLine /\
 ∀ p,H p=none->Q (.ref p) (upd H p (.lst (List.replicate k.toNat xs).flatten))
theorem Zm7 {α:Type} (xs:List α) (k:Nat):(List.replicate k xs).flatten.length=k * xs.length:=by
 induction k with
 | zero=>simp
 | succ k ih=>rw [vP,wa,v6,ih,x6,xC]
theorem ZcP:OpR X (binaryOp .Mult) rN:=by
 intro pins s σ H x y v u Q I rx ry h
 obtain ⟨l,k,xs,rfl,rfl,hH,h1,h2,hz,q⟩:=h
 cases rx
 obtain ⟨t,rfl⟩:=ry
 obtain ⟨z,its,n,r,hl,e⟩:=I.lstM hH
 have hlen:its.toArray.size * k.toNat<=sizeLine:=by rw [vq,<- hl]; exact hz
 have hcap:¬ its.toArray.size * k.toNat > (2 ^ 63 - 1) / 8:=by
  have:(sizeLine:Nat)<=(2 ^ 63 - 1) / 8:=by decide
  omega
 have hfit:¬ (!Builtin.List.listFitsIndex k)=true:=by
  rw [fitsIndex_both h1 h2]
  exact vD
 have hlong:¬ Builtin.List.listTooLong (its.toArray.size * k.toNat)=true:=by
  rw [Zmo hlen]
  exact vD
 have hnew:List.foldl (λx1 x2=>x1++x2) #[] (List.replicate (if its.toArray.isEmpty=true then 0 else k.toNat) its.toArray)=(List.replicate k.toNat its).flatten.toArray:=by
  have f0:∀ m:Nat,List.foldl (λx1 x2=>x1++x2) #[] (List.replicate m its.toArray)=(List.replicate m its).flatten.toArray:=λm=>by
   have:=Zeg its m []
   rw [yb] at this
   exact this
  rw [f0]
  cases its with
  | nil=>simp
  | cons a r'=>rw [if_neg (by simp)]
 refine wpAny_binaryOp_repeat_ref (T:="list") (U:="int") (by decide) ⟨_,e,rfl⟩ (λs'=>typeIs_int s' k t) noFill_list_mul F.fills_int_mul F.slot_int_rmul repeat_list F.slot_int_index.lookup
  (call_meets F.slot_int_rmul (typeIs_int s k t) F.entry_int_rmul (F.args_int_rmul_2 _ _) (int___rmul___int_list k t l its.toArray n)
   ⟨e,rfl,⟨_,e,rfl⟩,call_meets F.slot_list_mul ⟨_,e,rfl⟩ F.entry_list_mul (F.args_list_mul_2 _ _) (AutoListH.list___mul___list_int_3 l its.toArray n k t hfit hcap hlong) ⟨e,?_⟩⟩)
 rw [hnew]
 exact ⟨.ref _,_,I.lnew (t':=s.toks) (r.rep k.toNat) (by rw [Zm7,Nat.mul_comm]; exact hz),rfl,q _ I.fresh⟩
end
section
variable {prog:Program} {w:World} {A:Around} {E:zd} {s:Shared}
end
section
variable {X:Cx}
end
section
variable {κ:Type} [DecidableEq κ]
noncomputable def dO (kvs:List (κ×V)) (k:κ):Option V:=(kvs.find? λkv=>decide (kv.1=k)).map (·.2)
noncomputable def cX (kvs:List (κ×V)) (k:κ) (v:V):List (κ×V) :=
 if (kvs.any λkv=>decide (kv.1=k))=true then kvs.map (λkv=>if kv.1=k then (kv.1,v) else kv) else kvs++[(k,v)]
theorem jF {p:κ×V} {r:List (κ×V)} {k:κ} (e:p.1=k):dO (p::r) k=some p.2:=by simp [dO,xk,e]
theorem jG {p:κ×V} {r:List (κ×V)} {k:κ} (e:¬ p.1=k):dO (p::r) k=dO r k:=by simp [dO,xk,e]
theorem mU (k:κ):∀ kvs:List (κ×V),(kvs.any λkv=>decide (kv.1=k))=(dO kvs k).isSome
 | []=>rfl
 | p::r=>by
  rw [yV]
  by_cases e:p.1=k
  ·simp only [jF e,decide_eq_true e,Bool.true_or,Option.isSome_some]
  ·rw [jG e,decide_eq_false e,Bool.false_or]; exact mU k r
theorem sR (kvs:List (κ×V)) (k:κ) (v:V):(cX kvs k v).length<=kvs.length+1:=by
 unfold cX
 split
 ·rw [vd]; omega
 ·rw [v6,vp,wG]; omega
theorem RelO.isSome_eq {o:Option V} {u:Option Value} (r:RelO o u):o.isSome=u.isSome:=by
 cases o with
 | none=>cases u with
  | none=>rfl
  | some _=>exact (show False from r).elim
 | some _=>cases u with
  | none=>exact (show False from r).elim
  | some _=>rfl
theorem KV.val {kvs:List (κ×V)} {vs:List (κ×Value)} (r:KV kvs vs) (k:κ):RelO (dO kvs k) (valueAt vs k):=by
 unfold KV at r
 induction r with
 | nil=>exact True.intro
 | @cons p q ps qs h t ih =>
  obtain ⟨h1,h2⟩:=h
  by_cases e:p.1=k
  ·have e':q.1=k:=h1.symm.trans e
   have b:valueAt (q::qs) k=some q.2:=by simp [valueAt,xk,e']
   rw [jF e,b]; exact h2
  ·have e':¬ q.1=k:=λz=>e (h1.trans z)
   have b:valueAt (q::qs) k=valueAt qs k:=by simp [valueAt,xk,e']
   rw [jG e,b]; exact ih
theorem KV.any {kvs:List (κ×V)} {vs:List (κ×Value)} (r:KV kvs vs) (k:κ):(kvs.any λkv=>decide (kv.1=k))=vs.any λkv=>decide (kv.1=k):=by
 unfold KV at r
 induction r with
 | nil=>rfl
 | cons h t ih=>rw [yV,yV,ih,h.1]
theorem KV.repl {kvs:List (κ×V)} {vs:List (κ×Value)} (r:KV kvs vs) (k:κ) {y:V} {u:Value} (ry:RelV y u) :
  KV (kvs.map λkv=>if kv.1=k then (kv.1,y) else kv) (vs.map λkv=>if kv.1=k then (kv.1,u) else kv):=by
 unfold KV at r ⊢
 induction r with
 | nil=>exact .nil
 | @cons p q ps qs h t ih =>
  rw [vC,vC]
  refine .cons ?_ ih
  obtain ⟨h1,h2⟩:=h
  by_cases e:p.1=k
  ·rw [if_pos e,if_pos (h1.symm.trans e)]; exact ⟨h1,ry⟩
  ·rw [if_neg e,if_neg (λz=>e (h1.trans z))]; exact ⟨h1,h2⟩
theorem KV.put {kvs:List (κ×V)} {vs:List (κ×Value)} (r:KV kvs vs) (k:κ) {y:V} {u:Value} (ry:RelV y u):KV (cX kvs k y) (stored vs k u):=by
 unfold cX stored
 rw [r.any k]
 by_cases e:(vs.any λkv=>decide (kv.1=k))=true
 ·rw [if_pos e,if_pos e]; exact r.repl k ry
 ·rw [if_neg e,if_neg e]; exact Paired.snoc r ⟨rfl,ry⟩
theorem KV.length {kvs:List (κ×V)} {vs:List (κ×Value)} (r:KV kvs vs):kvs.length=vs.length:=yB r
end
theorem oM {P:Program} {w:World} {k:aM} {u:Value} (r:RelV (kV k) u):(dw P w).is k u=true:=by
 cases k with
 | inl i=>obtain ⟨t,e⟩:=(show ∃ t,u=Value.int i t from r); subst e; exact ZmD P w i t
 | inr x=>obtain ⟨t,e⟩:=(show ∃ t,u=Value.str x t from r); subst e; exact ZmC P w x t
theorem ZdK {P:Program} {w:World}:∀ {ks:List aM} {us:zg},Vals (ks.map kV) us->ItemsAre (dw P w) ks us
 | [],_,r=>by rw [xD] at r; cases r; exact .nil
 | k::ks,_,r=>by
  rw [vC] at r
  cases r with
  | cons h t=>exact .cons (oM h) (ZdK t)
noncomputable abbrev KT (H:Hp):List (List aM×V)->List (List aM×Addr×Value)->Prop:=Paired λp q=>p.1=q.1/\H q.2.1=some (.tup (p.1.map kV))/\RelV p.2 q.2.2
theorem KT.val {H:Hp} {kvs:List (List aM×V)} {xs:List (List aM×Addr×Value)} (r:KT H kvs xs) (k:List aM):RelO (dO kvs k) ((atKey xs k).map (·.2)):=by
 induction r with
 | nil=>exact True.intro
 | @cons p q ps qs h t ih =>
  obtain ⟨h1,_,h2⟩:=h
  by_cases e:p.1=k
  ·have e':q.1=k:=h1.symm.trans e
   have b:atKey (q::qs) k=some q.2:=by simp [atKey,xk,e']
   rw [jF e,b]; exact h2
  ·have e':¬ q.1=k:=λz=>e (h1.trans z)
   have b:atKey (q::qs) k=atKey qs k:=by simp [atKey,xk,e']
   rw [jG e,b]; exact ih
theorem KT.repl {H:Hp} {kvs:List (List aM×V)} {xs:List (List aM×Addr×Value)} (r:KT H kvs xs) (k:List aM) {y:V} {u:Value} (ry:RelV y u) :
  KT H (kvs.map λkv=>if kv.1=k then (kv.1,y) else kv) (xs.map (putAt k u)):=by
 induction r with
 | nil=>exact .nil
 | @cons p q ps qs h t ih =>
  rw [vC,vC]
  refine .cons ?_ ih
  obtain ⟨h1,h2,h3⟩:=h
  unfold putAt
  by_cases e:p.1=k
  ·rw [if_pos e,if_pos (h1.symm.trans e)]; exact ⟨h1,h2,ry⟩
  ·rw [if_neg e,if_neg (λz=>e (h1.trans z))]; exact ⟨h1,h2,h3⟩
theorem KT.put {H:Hp} {kvs:List (List aM×V)} {xs:List (List aM×Addr×Value)} (r:KT H kvs xs) (k:List aM) {b:Addr} {y:V} {u:Value} (hb:H b=some (.tup (k.map kV))) (ry:RelV y u) :
  KT H (cX kvs k y) (storedH xs k b u):=by
 have e:(kvs.any λkv=>decide (kv.1=k))=(atKey xs k).isSome:=by
  rw [mU,(r.val k).isSome_eq,Option.isSome_map]
 unfold cX storedH
 rw [e]
 by_cases q:(atKey xs k).isSome=true
 ·rw [if_pos q,if_pos q]; exact r.repl k ry
 ·rw [if_neg q,if_neg q]; exact Paired.snoc r ⟨rfl,hb,ry⟩
theorem KT.keeps {H H':Hp} {kvs:List (List aM×V)} {xs:List (List aM×Addr×Value)} (r:KT H kvs xs) (ht:∀ b ys,H b=some (.tup ys)->H' b=some (.tup ys)):KT H' kvs xs :=
 Paired.mapP r λ_ _ z=>⟨z.1,ht _ _ z.2.1,z.2.2⟩
section
variable {P:Program} {w:World} {H:Hp} {h:Heap} {a:Addr}
theorem ZbZ {u:HO} (ok:HOk P w H h) (e:Rd H a u):ObjOk P w H h a u:=e.ok ok
theorem t3 {kvs:List (aM×V)} (ok:HOk P w H h) (e:Rd H a (.dK kvs)):kvs.length<=sizeLine/\(a == sysModules)=false/\∃ vs,KV kvs vs/\h.DictOf (dw P w) a vs :=
 show ObjOk P w H h a (.dK kvs) from ZbZ ok e
theorem ZhM {kvs:List (aM×V)} (ok:HOk P w H h) (e:H a=some (.dK kvs)):kvs.length<=sizeLine/\(a == sysModules)=false/\∃ vs,KV kvs vs/\h.DictOf (dw P w) a vs:=t3 ok (.inl e)
theorem tq {ks:List aM} (ok:HOk P w H h) (e:H a=some (.tup (ks.map kV))):(tupleKind (dw P w)).is h ks a:=by
 obtain ⟨_,its,r,o,h1,h2,n,h3⟩:=(show ObjOk P w H h a (.tup (ks.map kV)) from ok a _ e)
 exact ⟨o,its.toArray,n,h1,h2,h3,by simpa using ZdK r⟩
theorem tZ {kvs:List (List aM×V)} (ok:HOk P w H h) (e:Rd H a (.dT kvs)):kvs.length<=sizeLine/\(a == sysModules)=false /\
  ∃ xs,KT H kvs xs/\h.DictOfH (tupleKind (dw P w)) a xs:=by
 obtain ⟨z,y,xs,r,o,es,ep,h1,h2,h3,h4,h5⟩:=(show ObjOk P w H h a (.dT kvs) from ZbZ ok e)
 refine ⟨z,y,xs,r,o,es,ep,h1,h2,h3,h4,λx hx=>?_,h5⟩
 have all:∀ {l:List (List aM×V)} {m:List (List aM×Addr×Value)},KT H l m->∀ x∈m,(tupleKind (dw P w)).is h x.1 x.2.1:=by
  intro l m q
  induction q with
  | nil=>intro x hx; exact nomatch hx
  | @cons p q ps qs hq t ih =>
   intro x hx
   rcases vJ.mp hx with e | hx
   ·subst e
    exact tq ok (by rw [<- hq.1]; exact hq.2.1)
   ·exact ih x hx
 exact all r x hx
theorem Zov {kvs:List (List aM×V)} (ok:HOk P w H h) (e:H a=some (.dT kvs)):kvs.length<=sizeLine/\(a == sysModules)=false /\
  ∃ xs,KT H kvs xs/\h.DictOfH (tupleKind (dw P w)) a xs:=tZ ok (.inl e)
end
noncomputable def DGet (H:Hp) (a:Addr) (y:V) (r:Option V):Prop :=
 (∃ kvs k,Rd H a (.dK kvs)/\y=kV k/\r=dO kvs k)\/∃ kvs k b,Rd H a (.dT kvs)/\y=.ref b/\H b=some (.tup (k.map kV))/\r=dO kvs k
noncomputable def DPut (H:Hp) (a:Addr) (y v:V) (H':Hp):Prop :=
 (∃ kvs k,H a=some (.dK kvs)/\y=kV k/\kvs.length < sizeLine/\H'=upd H a (.dK (cX kvs k v))) \/
 ∃ kvs k b,H a=some (.dT kvs)/\y=.ref b/\H b=some (.tup (k.map kV))/\kvs.length < sizeLine/\H'=upd H a (.dT (cX kvs k v))
theorem DGet.k {H:Hp} {a:Addr} {kvs:List (aM×V)} {k:aM} (e:H a=some (.dK kvs)):DGet H a (kV k) (dO kvs k):=.inl ⟨kvs,k,.inl e,rfl,rfl⟩
theorem DPut.k {H:Hp} {a:Addr} {kvs:List (aM×V)} {k:aM} {v:V} (e:H a=some (.dK kvs)) (hl:kvs.length < sizeLine):DPut H a (kV k) v (upd H a (.dK (cX kvs k v))):=.inl ⟨kvs,k,e,rfl,hl,rfl⟩
section
variable {X:Cx} {pins:List (Addr×Obj)} {σ:St} {H:Hp} {s:Shared} {a:Addr} {y v:V} {u r:Value} {o:Option V} {A:Around} {E:zd}
theorem Inv.big (I:Inv X pins σ H s):sysModules < s.heap.objs.size:=by
 have h:mainGlobals < s.heap.objs.size:=(I.mod.glob.keeps I.bk).lt
 exact Nat.lt_trans (by decide) h
theorem Zo4 {Q:zd} (hu:A.units+1 < cLine) (I:Inv X pins σ H s) (g:DGet H a y (some v)) (ry:RelV y u) (h:∀ w' s',Inv X pins σ H s'->RelV v w'->Q w' s') :
  wpAny (model X.prog X.w) A (getItem (.ref a) u) Q E s:=by
 rcases g with ⟨kvs,k,e,ey,l⟩ | ⟨kvs,k,b,e,ey,eb,l⟩
 ·subst ey
  obtain ⟨z,hd,vs,rel,dd⟩:=t3 I.hok e
  obtain ⟨w',hw,rw'⟩:=RelO.some_of (v:=v) (o:=valueAt vs k) (by rw [l]; exact rel.val k)
  exact wpAny_getItem_of (oM ry) dd.mapOf hw (h w' _ (I.tok _) rw')
 ·subst ey
  cases (show u=Value.ref b from ry)
  obtain ⟨z,hd,xs,rel,dd⟩:=tZ I.hok e
  obtain ⟨w',hw,rw'⟩:=RelO.some_of (v:=v) (o:=(atKey xs k).map (·.2)) (by rw [l]; exact rel.val k)
  obtain ⟨p,hp,hp2⟩:=xo.mp hw
  refine wpAny_getItem_heap (tupleKind_room_in1 hu) (tq I.hok eb) dd hp ?_
  rw [hp2]
  exact h w' _ (I.tok _) rw'
theorem t6 {h':Heap} {t':Nat} {ob:HO} (I:Inv X pins σ H s) (mu:mM (H a)) (hs:Heap.SameBut a s.heap h') (he:∃ q,h'.get? a=some q) (new:ObjOk X.prog X.w (upd H a ob) h' a ob) :
  Inv X pins σ (upd H a ob) { s with heap:=h',toks:=t' } :=
 I.write (x:=a) (e:=a) mu (.inl rfl) (λb q hb z=>(hs.2 b hb).trans z) he new
theorem ZhN {P:Program} {w:World} {H':Hp} {h':Heap} {kvs:List (aM×V)} {vs:List (aM×Value)} (z:kvs.length<=sizeLine) (hd:(a == sysModules)=false) (rel:KV kvs vs) (dd:h'.DictOf (dw P w) a vs) :
  ObjOk P w H' h' a (.dK kvs):=⟨z,hd,vs,rel,dd⟩
theorem ZoK {H':Hp} {Q:Unit->Shared->Prop} (hu:A.units+1 < cLine) (I:Inv X pins σ H s) (g:DPut H a y v H') (ry:RelV y u) (rv:RelV v r) (h:∀ s',Inv X pins σ H' s'->Q () s') :
  wpAny (model X.prog X.w) A (setItem (.ref a) u r) Q E s:=by
 rcases g with ⟨kvs,k,e,ey,l,eH⟩ | ⟨kvs,k,b,e,ey,eb,l,eH⟩
 ·subst ey eH
  obtain ⟨z,hd,vs,rel,dd⟩:=ZhM I.hok e
  have hz:vs.length<=sizeLine:=by rw [<- rel.length]; exact z
  have hl:(cX kvs k v).length<=sizeLine:=by have:=sR kvs k v; omega
  refine wpAny_setItem_pairs (hsz:=hz) (oM ry) dd λh' dd' hs=>h _ ?_
  have he:∃ q,h'.get? a=some q:=let ⟨q,_,_,hq,_⟩:=dd'; ⟨q,hq⟩
  exact t6 I (by rw [e]; exact True.intro) hs he (ZhN hl hd (rel.put k rv) dd')
 ·subst ey eH
  cases (show u=Value.ref b from ry)
  obtain ⟨z,hd,xs,rel,dd⟩:=Zov I.hok e
  have hz:xs.length<=sizeLine:=by rw [<- yB rel]; exact z
  have hl:(cX kvs k v).length<=sizeLine:=by have:=sR kvs k v; omega
  refine wpAny_setItem_heap (hsz:=hz) (tupleKind_room_in1 hu) (tq I.hok eb) dd λh' dd' hs=>h _ ?_
  obtain ⟨q,es,ep,hq,h2,h3,h4,_,h5⟩:=dd'
  refine t6 I (by rw [e]; exact True.intro) hs ⟨q,hq⟩ ⟨hl,hd,_,(rel.put k eb rv).keeps λc ys ec=>?_,q,es,ep,hq,h2,h3,h4,h5⟩
  rw [aV (lC ec e (λz=>nomatch z))]
  exact ec
end
section
variable {X:Cx} {pins:List (Addr×Obj)} {σ:St} {H:Hp} {s:Shared} {a:Addr} {kvs:List (aM×V)} {k:aM} {u:Value} {A:Around} {E:zd}
end
def Zi0 (i:Expr):Prop:=∀ ov iv,subscripted i false ov iv=operate [ov,iv] (getItem ov iv)
theorem Zkg {prog:Program} {w:World} {A:Around} {E:zd} {s:Shared} {env:Env} {value slice:Expr} {pos:Pos} {T id:String} {Q:zd}
  (hl:typeLookup (.type T) "__getitem__"=pure (some (.builtin id))) (hs:Zi0 slice)
  (h:wpAny (model prog w) A (eval value env) (λo s₁=>wpAny (model prog w) A (eval slice env) (λi s₂=>s₂.TypeIs o T/\wpAny (model prog w) A (getItem o i) Q E s₂) E s₁) E s) :
  wpAny (model prog w) A (eval (.Subscript value slice pos) env) Q E s:=by
 refine Subscript_ (wpAny_mono h (λo s₁ h₁=>wpAny_mono h₁ (λi s₂ h₂=>?_) λ_ _ x=>x) λ_ _ x=>x)
 obtain ⟨hT,h₂⟩:=h₂
 unfold subscriptTail
 refine wpAny_bind ?_
 rw [getitemInPython_of_ne hT.not_modules]
 refine wpAny_bind (wpAny_specialOf hT hl ?_)
 have fin:wpAny (model prog w) A (subscripted slice false o i) (λr s₃=>wpAny (model prog w) A (letTemporaryGo value o r >>= λ_=>pure r) Q E s₃) E s₂:=by
  rw [hs o i]
  exact wpAny_operating (wpAny_mono h₂ (λr s₃ h₃=>wpAny_bind (wpAny_letTemporaryGo (wpAny_pure h₃))) λ_ _ x=>x)
 first
  | exact wpAny_pure (wpAny_bind fin)
  | exact wpAny_bind (wpAny_pure (wpAny_bind fin))
  | exact wpAny_bind fin
theorem ZoA {X:Cx} {pins:List (Addr×Obj)} {σ:St} {H:Hp} {s:Shared} {a:Addr} {y:V} {o:Option V} (I:Inv X pins σ H s) (g:DGet H a y o):s.TypeIs (.ref a) "dict":=by
 rcases g with ⟨kvs,k,e,_,_⟩ | ⟨kvs,k,b,e,_,_,_⟩
 ·obtain ⟨_,_,vs,_,dd⟩:=t3 I.hok e
  exact dd.typeIs
 ·obtain ⟨_,_,xs,_,dd⟩:=tZ I.hok e
  exact dd.typeIs
def Zj4 (td ty:TE):TE:=λσ H Q=>td σ H λx H1=>ty σ H1 λy H2=>∃ a v,x=.ref a/\DGet H2 a y (some v)/\Q v H2
def ZkT (td ty tv:TE):TS:=λD σ H=>tv σ H λv H1=>td σ H1 λx H2=>ty σ H2 λy H3=>∃ a H4,x=.ref a/\DPut H3 a y v H4/\D.nx σ H4
section
variable {X:Cx} {o i e value:Expr} {pos pos' tpos:Pos} {td ty tv:TE}
theorem ic (hu:X.A.units+1 < cLine) (ho:PE X o td) (hi:PE X i ty) (hs:Zi0 i):PE X (.Subscript o i pos) (Zj4 td ty):=by
 intro pins s σ H Q I h
 refine Zkg PySem.F.slot_dict_getitem.lookup hs (thn (ho pins s σ H _ I h) λu s1 ⟨x,H1,I1,rx,q1⟩=>thn (hi pins s1 σ H1 _ I1 q1) λiv s2 hz0=>?_)
 obtain ⟨y,H2,I2,ry,a,v,ex,g,q2⟩:=hz0
 subst ex
 obtain rfl:u=Value.ref a:=rx
 exact ⟨ZoA I2 g,Zo4 hu I2 g ry λw' s3 I3 rw'=>⟨v,H2,I3,rw',q2⟩⟩
theorem r6 (hu:X.A.units+1 < cLine) (ho:PE X o td) (hi:PE X i ty) (hv:PE X value tv) (hs:swapsWith value (some (.Subscript o i pos')) pos.line X.env=pure false) :
  PS X (.Assign [.Subscript o i pos'] value pos) (ZkT td ty tv):=by
 intro pins s σ H D I h
 refine wpAny_Assign_Subscript (thn (hv pins s σ H _ I h) λr s1 ⟨v,H1,I1,rv,q1⟩=>thn (ho pins s1 σ H1 _ I1 q1) λu s2 ⟨x,H2,I2,rx,q2⟩=>thn (hi pins s2 σ H2 _ I2 q2) λiv s3 hz0=>?_) hs
 obtain ⟨y,H3,I3,ry,a,H4,ex,g,q3⟩:=hz0
 subst ex
 obtain rfl:u=Value.ref a:=rx
 exact ZoK hu I3 g ry rv λs4 I4=>⟨σ,H4,I4,q3⟩
end
theorem Zoz {P:Program} {w:World} {H:Hp} (h:Heap) (hb:sysModules < h.objs.size):ObjOk P w H (h.push { cls:=.type "dict",data:=.dict #[] }) h.objs.size (.dK []) :=
 ⟨xg _,beq_eq_false_iff_ne.mpr (Ne.symm (vM hb)),[],.nil,Heap.DictOf.new h⟩
section
variable {X:Cx} {pos:Pos}
end
noncomputable def qG:List (TE×TE)->St->Hp->(List (V×V)->Hp->Prop)->Prop
 | [],_,H,Q=>Q [] H
 | (tk,tv)::r,σ,H,Q=>tk σ H λx H1=>tv σ H1 λy H2=>qG r σ H2 λps H3=>Q ((x,y)::ps) H3
noncomputable abbrev VV:List (V×V)->List (Value×Value)->Prop:=Paired λp q=>RelV p.1 q.1/\RelV p.2 q.2
noncomputable def qb (X:Cx) (pos:Pos) (keys:List (Option Expr)) (values:List Expr) (trs:List (TE×TE)):Prop :=
 ∀ (pins:List (Addr×Obj)) (s:Shared) (σ:St) (H:Hp) (Q:List (V×V)->Hp->Prop),Inv X pins σ H s->qG trs σ H Q ->
  wpAny (model X.prog X.w) X.A (evalPairs (pairTrees keys values X.env pos)) (λvs s'=>∃ ps H',Inv X pins σ H' s'/\VV ps vs/\Q ps H') X.xe s
theorem Zlt {X:Cx} {pos:Pos}:qb X pos [] [] []:=λpins s σ H Q I h=>pairTrees_nil_walk ⟨[],H,I,.nil,h⟩
theorem sf {X:Cx} {pos:Pos} {k v:Expr} {ks:List (Option Expr)} {vs:List Expr} {tk tv:TE} {trs:List (TE×TE)} (hk:PE X k tk) (hv:PE X v tv) (hr:qb X pos ks vs trs) :
  qb X pos (some k::ks) (v::vs) ((tk,tv)::trs):=λpins s σ H Q I h =>
 pairTrees_cons_walk (thn (hk pins s σ H _ I h) λu s1 ⟨x,H1,I1,rx,q1⟩=>thn (hv pins s1 σ H1 _ I1 q1) λw2 s2 ⟨y,H2,I2,ry,q2⟩ =>
  thn (hr pins s2 σ H2 _ I2 q2) λws s3 ⟨ps,H3,I3,rel,q3⟩=>⟨(x,y)::ps,H3,I3,.cons ⟨rx,ry⟩ rel,q3⟩)
noncomputable def lJ (kvs more:List (aM×V)):List (aM×V):=more.foldl (λacc kv=>cX acc kv.1 kv.2) kvs
theorem KV.merge:∀ {more:List (aM×V)} {rs:List (aM×Value)} {kvs:List (aM×V)} {vs:List (aM×Value)},KV more rs->KV kvs vs->KV (lJ kvs more) (merged vs rs):=by
 intro more rs kvs vs r
 unfold KV at r
 induction r generalizing kvs vs with
 | nil=>intro q; exact q
 | @cons p q ps qs h t ih =>
  intro r0
  have e:KV (cX kvs p.1 p.2) (stored vs q.1 q.2):=by
   have:=r0.put p.1 h.2
   rw [<- h.1]; exact this
  exact ih e
theorem Zdo:∀ (more kvs:List (aM×V)),(lJ kvs more).length<=kvs.length+more.length
 | [],kvs=>by show kvs.length<=kvs.length+0; omega
 | p::r,kvs=>by
  have h1:=Zdo r (cX kvs p.1 p.2)
  have h2:=sR kvs p.1 p.2
  show (lJ (cX kvs p.1 p.2) r).length<=_
  rw [vp]; omega
theorem Zh7 {P:Program} {w:World}:∀ {kvs:List (aM×V)} {ws:List (Value×Value)},VV (kvs.map λkv=>(kV kv.1,kv.2)) ws->∃ rs,Carries (dw P w) ws rs/\KV kvs rs
 | [],_,r=>by rw [xD] at r; cases r; exact ⟨[],True.intro,.nil⟩
 | p::kvs,_,r=>by
  rw [vC] at r
  cases r with
  | @cons a b as bs h t =>
   obtain ⟨rs,c,q⟩:=Zh7 (P:=P) (w:=w) t
   obtain ⟨b1,b2⟩:=b
   exact ⟨(p.1,b2)::rs,⟨oM h.1,rfl,c⟩,.cons ⟨rfl,h.2⟩ q⟩
def Zj3 (trs:List (TE×TE)):TE:=λσ H Q=>∀ p,H p=none->qG trs σ (upd H p (.dK [])) λps H2=>H2 p=some (.dK [])/\∃ kvs:List (aM×V),ps=kvs.map (λkv=>(kV kv.1,kv.2))/\kvs.length<=15/\Q (.ref p) (upd H2 p (.dK (lJ [] kvs)))
theorem ZlO {X:Cx} {pos:Pos} {keys:List (Option Expr)} {values:List Expr} {trs:List (TE×TE)} (h:qb X pos keys values trs) (hall:keys.all (·.isSome)=true) (hl:keys.length=values.length) (h0:keys≠[])
  (h15:keys.length<=15):PE X (.Dict keys values pos) (Zj3 trs):=by
 intro pins s σ H Q I q
 have hn:=I.hok.fresh (vo s.heap.objs.size)
 have I1:=I.laid (a:=s.heap.objs.size) (o:=.dK []) (h':=s.heap.push { cls:=.type "dict",data:=.dict #[] }) (t':=s.toks) (λ_ _ q=>vc _ q) (vo _) (Zoz s.heap I.big)
 refine wpAny_Dict_walk (knd:=dw X.prog X.w) hall hl h0 h15 (thn (h pins _ σ _ _ I1 (q _ hn)) λws s2 hz0=>?_)
 obtain ⟨ps,H2,I2,rel,e,kvs,ep,lk,q2⟩:=hz0
 subst ep
 obtain ⟨rs,c,rk⟩:=Zh7 (P:=X.prog) (w:=X.w) rel
 obtain ⟨z,hd,vs0,r0,dd⟩:=ZhM I2.hok e
 cases r0
 refine ⟨rs,c,dd,λh' dd' hs=>⟨.ref s.heap.objs.size,_,?_,rfl,q2⟩⟩
 have hz:(lJ [] kvs).length<=sizeLine:=by
  have h1:=Zdo kvs []
  rw [wG] at h1
  rw [sizeLine_eq]; omega
 have he:∃ q,h'.get? s.heap.objs.size=some q:=let ⟨q,_,_,hq,_⟩:=dd'; ⟨q,hq⟩
 exact t6 I2 (by rw [e]; exact True.intro) hs he (ZhN hz hd (rk.merge .nil) dd')
section
variable {X:Cx} {pins:List (Addr×Obj)} {σ:St} {H:Hp} {s:Shared} {a:Addr} {y d:V} {u r:Value} {o:Option V} {A:Around} {E:zd}
end
section
variable {X:Cx} {o e f:Expr} {apos cpos:Pos} {td ty tx:TE}
end
section
variable {X:Cx} {pins:List (Addr×Obj)} {σ:St} {H:Hp} {s:Shared} {a:Addr} {kvs:List (aM×V)} {A:Around} {E:zd}
end
section
variable {X:Cx} {pins:List (Addr×Obj)} {σ:St} {H:Hp} {s:Shared} {a:Addr} {y:V} {u:Value} {A:Around} {E:zd}
end
end L2
namespace Att
open PySem.W PySem.Calls
theorem ints_of_wellAll {P:Params} {h:Heap}:∀ (ns:zf) (vs:zg),WellAll P h vs (ns.map WData.int)->IntsAre vs ns:=by
 intro ns
 induction ns with
 | nil =>
  intro vs w
  rw [xD] at w
  cases w
  exact .nil
 | cons n ns ih =>
  intro vs w
  rw [vC] at w
  cases w with
  | cons a b =>
   cases a
   exact .cons _ _ (ih _ b)
theorem script_of {l:OpenLaw} {n:Nat} (hn:l.most=some n) {P:Params} {h:Heap} {args:List WData} {vals:zg}
  (hpre:l.row.toRowW.claim.pre args=true) (hwl:WellAll P h vals args) :
  ∃ a vs ns,vals=[Value.ref a]/\args=[WData.list (ns.map WData.int)]/\h.get? a=some { cls:=.type "list",data:=.seq vs.toArray }/\IntsAre vs ns/\ns.length<=n:=by
 have hsh:WShape.hasAll [] args [.list .int]=true:=(pre_splitW hpre).1
 have hc:l.pre.holds [] { args:=args }=true:=(pre_splitW hpre).2
 obtain ⟨d,r,rfl,h1,h2⟩:=hasAllW_cons hsh
 obtain rfl:=hasAllW_nil h2
 obtain ⟨xs,rfl,h3⟩:=hasW_list h1
 obtain ⟨ns,rfl⟩:=items_int h3
 have hlen:ns.length<=n:=by
  unfold OpenLaw.pre at hc
  have h4:(WTm.not (.lt (.lit (.int (n:Int))) (.len (.arg 0)))).holds [] { args:=[.list (ns.map .int)] }=true:=by
   have h4:=(holds_andW hc).1
   rw [hn] at h4
   exact h4
  have h5:=condW_of h4 (w_not (w_lt w_lit (w_len_list (w_arg rfl))))
  rw [vd] at h5
  refine xu λq=>?_
  have q':(n:Int) < ((ns.length:Nat):Int):=by omega
  first
   | (rw [decide_eq_true q'] at h5; exact absurd h5 (by decide))
   | (simp at h5; omega)
 cases hwl with
 | cons w1 w2 =>
  cases w2
  cases w1 with
  | list ho hall=>exact ⟨_,_,ns,rfl,rfl,ho,ints_of_wellAll ns _ hall,hlen⟩
theorem post_true (l:OpenLaw) (args:List WData):l.row.toRowW.claim.post args (.bool true) args=true :=
 postW_of (r:=l.row.toRowW) (X:=(true == true))
  (show WShape.has [] (.bool true) .bool=true by first | rfl | decide | simp [WShape.has,WShape.arms,WShape.armsAll])
  (show (WTm.eq .res (.lit (.bool true))).value [] { args:=args,res:=some (.bool true),after:=args }=some (.bool (true == true)) from w_eq_bool (w_res rfl) w_lit) rfl
theorem attach_call {l:OpenLaw} {n:Nat} {q:Program} {loose:zh} {XP:zj->Heap->Prop} {YP:World->Heap->Prop} {d:DefRec}
  (hn:l.most=some n) (hdf:d.params.defaults=[])
  (call:∀ (w:World) (s₀ s₁:Shared) (mg mb:zj) (fa:Addr) (o:Obj) (pm cd doc:Value) (a:Addr) (vs:zg) (ns:zf),
   Ground q loose [] XP w s₀ mg mb s₁.heap->YP w s₁.heap ->
   s₁.heap.get? fa=some o->o.data=.func (docDef d.name d.params d.body d.scope pm cd doc)->s₁.heap.CodeRec cd d.name->mg d.name=some (.ref fa) ->
   s₁.heap.get? a=some { cls:=.type "list",data:=.seq vs.toArray }->IntsAre vs ns->ns.length<=n->s₁.gens=#[] ->
   codeAny (model l.prog w) callerA (.call (.ref fa) ⟨[.ref a],[]⟩) (λr s'=>r=.ok (.ret (.bool true))/\OldK s₁.heap s'.heap/\s'.os=s₁.os/\AllBare s'.gens) s₁) :
  WalkO q loose XP YP l.row.toRowW d [] (λf vs=>PySem.call f vs):=by
 intro w s₀ s₁ mg mb G Y fa o pm cd doc dV kV ho hd hcd hD hmg hg args vals as hpre hlay hrd hwl hlo
 obtain rfl:dV=.none:=Dflts.none hD hdf
 obtain rfl:kV=.none:=Dflts.noKw hD
 obtain ⟨a,vs,ns,rfl,rfl,hobj,hints,hlen⟩:=script_of hn hpre hwl
 refine enter_call (codeAny_mono (call w s₀ s₁ mg mb fa o pm cd doc a vs ns G Y ho (fd_plain hd) hcd hmg hobj hints hlen hg) λr s' hq=>?_)
 obtain ⟨rfl,h2,h3,h4⟩:=hq
 exact ⟨.inl ⟨.bool true,.bool true,[],rfl,λ_=>rfl,.bool true,post_true l _,λ_=>⟨List.Pairwise.nil,λ_ hm=>(nomatch hm)⟩⟩,h2,h3,h4⟩
section
variable {prog:Program} {w:World} {A:Around} {E:zd} {s:Shared} {K:Frag}
end
end Att
namespace L2
theorem Zjq {vs:zg} {ns:zf} (h:IntsAre vs ns):Vals (ns.map V.int) vs:=by
 induction h with
 | nil=>exact .nil
 | cons n t h ih=>exact .cons ⟨t,rfl⟩ ih
def qd (H:Hp):Prop:=∀ b,H b=none\/∃ o xs,H b=some (.frz o (.lst xs))
theorem Zne {P:Program} {w:World} {K:yY} {mg mb:zj} {CX:fh} {k:Nat} {fa a:Addr} {fd:FuncData} {x:Str} {sp:Sp} {s₁:Shared} {vs:zg} {ns:zf}
  (KX:K.In s₁.heap) (hns:s₁.heap.Ns mainGlobals mg) (hb:s₁.heap.Ns builtinsNs mb) (hbb:∀ x:Str,x≠"__name__"->mb x=bootBuiltins x) (hlim:s₁.heap.NoLimit) (hdig:s₁.heap.NoDigits) (hg:s₁.gens=#[])
  (ha:s₁.heap.get? a=some { cls:=.type "list",data:=.seq vs.toArray }) (hi:IntsAre vs ns) (hl:ns.length<=sizeLine) (hr:Room k callerA)
  (F:∀ base:Heap,K.In base->base.Ns mainGlobals mg->FnOk P w K mg base CX k fa fd [x] sp) (hbind:∀ (s:Shared) (u:Value),BindsTo s fd ⟨[u],[]⟩ [(x,u)])
  (hsp:∀ H:Hp,qd H->SqL K H a (ns.map V.int)->sp [.ref a] H (λv _=>v=.bl true) λ_ _ _=>False)
  (hCX:∀ H e s',CX [] H s₁ (λ_ _ _=>False) e s'->False) :
  codeAny (model P w) callerA (.call (.ref fa) ⟨[.ref a],[]⟩) (λr s'=>r=.ok (.ret (.bool true))/\OldK s₁.heap s'.heap/\s'.os=s₁.os/\AllBare s'.gens) s₁:=by
 have rv:=Zjq hi
 have lenV:=hi.length
 -- from an abstract heap in which nothing but the script may be tracked
 have core:∀ H:Hp,qd H->SqL K H a (ns.map V.int)->HOk P w H s₁.heap->(∀ b,H b≠none->b=a)->(H a≠none->K.lookup a=none) ->
   codeAny (model P w) callerA (.call (.ref fa) ⟨[.ref a],[]⟩) (λr s'=>r=.ok (.ret (.bool true))/\OldK s₁.heap s'.heap/\s'.os=s₁.os/\AllBare s'.gens) s₁:=by
  intro H hO hS hok hA hK
  have base_of:∀ {b:Addr} {o:Obj},s₁.heap.get? b=some o->H b=none->(gN s₁.heap H).get? b=some o:=λe n=>ZnB e n
  have noA:∀ {b:Addr} {o:Obj} {es:Array DictEntry} {ep:Nat},s₁.heap.get? b=some o->o.data=.dict es ep->H b=none:=λ{b o es ep} e d=>by
   cases q:H b with
   | none=>rfl
   | some u =>
    have e':b=a:=hA b (by rw [q]; simp)
    subst e'
    rw [ha] at e; cases e
    have d':Data.seq vs.toArray _=Data.dict es ep:=d
    cases d'
  have nsK:∀ {b:Addr} {m:zj},s₁.heap.Ns b m->(gN s₁.heap H).Ns b m:=λ{b m} hz0=>by
   obtain ⟨o,es,ep,e,d,r⟩:=hz0
   exact ⟨o,es,ep,base_of e (noA e d),d,r⟩
  have hKb:K.In (gN s₁.heap H):=λb o e=>base_of (KX b o e) (by
   cases q:H b with
   | none=>rfl
   | some u =>
    have e':b=a:=hA b (by rw [q]; simp)
    subst e'
    rw [hK (by rw [q]; simp)] at e; cases e)
  have hM:Mod K mg (gN s₁.heap H):=⟨hKb,nsK hns,⟨mb,nsK hb,hbb⟩,let ⟨mc,h1,h2⟩:=hlim; ⟨mc,nsK h1,h2⟩,let ⟨mc,h1,h2⟩:=hdig; ⟨mc,nsK h1,h2⟩⟩
  have e0:Env0 P w K mg (gN s₁.heap H) callerA [] s₁ H:=⟨rfl,hM,λb o e=>Zmi e,Nat.le_of_eq (ZnA _ _),trivial,λb hb=>absurd (show b∈([]:List Addr) from hb) (by simp),hok,.of_eq hg⟩
  refine codeAny_mono ((F _ hKb (nsK hns)).run callerA [] s₁ H ⟨[.ref a],[]⟩ [.ref a] [.ref a] _ _ hr e0 (hbind s₁ (.ref a)) (.cons rfl .nil) (hsp H hO hS)) λr s' h=>?_
  cases r with
  | error e=>exact (hCX H e s' h).elim
  | ok fl =>
   cases fl with
   | next=>exact False.elim h
   | brk=>exact False.elim h
   | cont=>exact False.elim h
   | ret u =>
    obtain ⟨v,H',os,bare,un,hok',r',q⟩:=h
    have q':v=.bl true:=q
    subst q'
    obtain rfl:u=Value.bool true:=r'
    refine ⟨rfl,OldK.of_keep λb o e=>?_,os,bare⟩
    cases q:H b with
    | none=>exact un.keep b o e q (by intro z; exact absurd (show b∈([]:List Addr) from z) (by simp)) (by simp)
    | some u =>
     rcases hO b with z | ⟨ob,xs,z⟩
     ·rw [q] at z; cases z
     ·have z2:=un.frzs b ob _ z
      obtain ⟨e1,_⟩:=hok b _ z
      obtain ⟨e2,_⟩:=hok' b _ z2
      rw [e] at e1; cases e1
      exact e2
 cases hk:K.lookup a with
 | some o =>
  -- the script is one of the module's own objects
  have e:=KX a o hk
  rw [ha] at e
  cases e
  refine core (λ_=>none) (λ_=>.inl rfl) (.inr ⟨_,vs.toArray,_,hk,rfl,rfl,rfl,by rw [vq,lenV]; exact hl,by simpa using rv⟩) (λb u z=>by have z':(none:Option HO)=some u:=z; cases z') (λb z=>absurd rfl z) λz=>absurd rfl z
 | none =>
  refine core (λb=>if b=a then some (.frz { cls:=.type "list",data:=.seq vs.toArray } (.lst (ns.map V.int))) else none) (λb=>?_) (.inl (.inr ⟨{ cls:=.type "list",data:=.seq vs.toArray },if_pos rfl⟩)) (λb u z=>?_) (λb z=>?_) λ_=>hk
  ·by_cases hb:b=a
   ·exact .inr ⟨_,_,if_pos hb⟩
   ·exact .inl (if_neg hb)
  ·by_cases hb:b=a
   ·have z':=(if_pos hb).symm.trans z
    cases z'
    subst hb
    exact ⟨ha,by rw [vd]; exact hl,vs,_,rv,ha⟩
   ·have z':=(if_neg hb).symm.trans z
    cases z'
  ·by_cases hb:b=a
   ·exact hb
   ·exact absurd (if_neg hb) z
noncomputable abbrev KOf {K:yY} {h:Heap} (_:K.In h):yY:=K
theorem Zjg {l:PySem.W.OpenLaw} {n k:Nat} {q:Program} {loose:zh} {XP:zj->Heap->Prop} {YP:World->Heap->Prop} {d:DefRec} {K:Params->yY} {CX:World->fh} {sp:World->Sp} {x:Str}
  (hn:l.most=some n) (hn2:n<=sizeLine) (hdf:d.params.defaults=[]) (hr:Room k callerA)
  (hY:∀ (w:World) (h:Heap),YP w h->(K w.params).In h)
  (F:∀ (w:World) (mg:zj) (fa:Addr) (h:Heap),(K w.params).In h->h.Ns mainGlobals mg->mg d.name=some (.ref fa) ->
   ∃ fd:FuncData,(∀ (s:Shared) (u:Value),BindsTo s fd ⟨[u],[]⟩ [(x,u)]) /\
    ∀ base:Heap,(K w.params).In base->base.Ns mainGlobals mg->FnOk l.prog w (K w.params) mg base (CX w) k fa fd [x] (sp w))
  (hsp:∀ (w:World) (H:Hp) (a:Addr) (ns:zf),ns.length<=n->qd H->SqL (K w.params) H a (ns.map V.int)->sp w [.ref a] H (λv _=>v=.bl true) λ_ _ _=>False)
  (hCX:∀ (w:World) (H:Hp) (s:Shared) (e:Value) (s':Shared),CX w [] H s (λ_ _ _=>False) e s'->False) :
  PySem.W.WalkO q loose XP YP l.row.toRowW d [] (λf vs=>PySem.call f vs):=by
 refine Att.attach_call hn hdf λw s₀ s₁ mg mb fa o pm cd doc a vs ns G Y ho hd hcd hmg hobj hints hlen hg=>?_
 have KX:=hY w _ Y
 obtain ⟨fd,hb,hF⟩:=F w mg fa _ KX G.T.g hmg
 exact Zne KX G.T.g G.T.b G.T.builtins G.T.nolimit G.T.nodigits hg hobj hints (vS hlen hn2) hr hF hb (λH hO hS=>hsp w H a ns hlen hO hS) λH e s'=>hCX w H s₁ e s'
theorem Zjf {l:PySem.W.OpenLaw} {n k:Nat} {q:Program} {loose:zh} {XP:zj->Heap->Prop} {YP:World->Heap->Prop} {d:DefRec} {K:Params->yY} {CX:fh} {sp:yY->Sp} {x:Str}
  (hn:l.most=some n) (hn2:n<=sizeLine) (hdf:d.params.defaults=[]) (hr:Room k callerA)
  (hY:∀ (w:World) (h:Heap),YP w h->(K w.params).In h)
  (F:∀ (w:World) (mg:zj) (fa:Addr) (h:Heap),(K w.params).In h->h.Ns mainGlobals mg->mg d.name=some (.ref fa) ->
   ∃ fd:FuncData,(∀ (s:Shared) (u:Value),BindsTo s fd ⟨[u],[]⟩ [(x,u)]) /\
    ∀ base:Heap,(K w.params).In base->base.Ns mainGlobals mg->FnOk l.prog w (K w.params) mg base CX k fa fd [x] (sp (K w.params)))
  (hsp:∀ (K:yY) (H:Hp) (a:Addr) (ns:zf),ns.length<=n->qd H->SqL K H a (ns.map V.int)->sp K [.ref a] H (λv _=>v=.bl true) λ_ _ _=>False)
  (hCX:∀ (H:Hp) (s:Shared) (e:Value) (s':Shared),CX [] H s (λ_ _ _=>False) e s'->False) :
  PySem.W.WalkO q loose XP YP l.row.toRowW d [] (λf vs=>PySem.call f vs) :=
 Zjg (K:=K) (CX:=λ_=>CX) (sp:=λw=>sp (K w.params)) hn hn2 hdf hr hY F (λw H a ns h1 h2 h3=>hsp (K w.params) H a ns h1 h2 h3) λ_ H s e s'=>hCX H s e s'
noncomputable def ky (s:Stmt):Arguments:=match s with
 | .FunctionDef _ a _ _ _ _ _ _ _ _=>a
 | _=>{ posonlyargs:=[],args:=[],vararg:=none,kwonlyargs:=[],kw_defaults:=[],kwarg:=none,defaults:=[] }
noncomputable def gv (s:Stmt):List Stmt:=match s with
 | .FunctionDef _ _ b _ _ _ _ _ _ _=>b
 | _=>[]
noncomputable def aL (s:Stmt):Scope:=match s with
 | .FunctionDef _ _ _ _ _ _ sc _ _ _=>sc
 | _=>{ kind:=.function,names:=[],isGenerator:=false,isCoroutine:=false }
noncomputable abbrev hU:fh:=λ_ _ _ _ _ _=>False
noncomputable abbrev E0:XK:=λ_ _ _=>False
theorem ZlW {X:Cx}:u3 hU X E0:=λ_ _ _ _ _ _ _ h=>h.elim
structure Fun (K:yY) (x qual:Str) (st:Stmt) (f:Addr) (fd:FuncData):Prop where
 ex:∃ (oc:Value) (od:Option Addr) (kV doc pm:Value) (an:Option Addr) (cdv ct:Value) (osl:Array (Option Value)),
  fd=PySem.W.fnOf x qual (ky st) (gv st) (aL st) .none kV doc pm an cdv ct/\K.lookup f=some ⟨oc,od,.func fd,osl⟩/\PySem.W.codeIn K cdv qual=true
 kp:PySem.W.keepIn K (.ref f)=true
section
variable {P:Program} {w:World} {K:yY} {mg:zj} {base:Heap}
theorem Fun.ok {x qual:Str} {st:Stmt} {f:Addr} {fd:FuncData} {N ps:zh} {k:Nat} {sp:Sp} (F:Fun K x qual st f fd) (S:FnScope N ps (aL st)) (len:∀ vs H Q E,sp vs H Q E->vs.length=ps.length)
  (hbody:∀ (cdv:Value) (A:Around) (outer:List Env) (s:Shared) (H:Hp) (vs:zi) (Q:VK) (E:XK),Room k (A.deeper (envOfC qual (aL st) s.heap.objs.size f cdv))->sp vs H Q E ->
   ∃ t,PSs (gR hU P w K mg base N qual (aL st) f cdv A outer s H E).nox (gv st) t/\t { nx:=λ_ H'=>Q .non H',rt:=Q } (start N vs) H):FnOk P w K mg base hU (k+1) f fd ps sp:=by
 obtain ⟨oc,od,kV,doc,pm,an,cdv,ct,osl,rfl,lk,hcd⟩:=F.ex
 refine ZnU lk hcd S len λA outer s H vs Q E hr hsp=>?_
 obtain ⟨t,h,q⟩:=hbody cdv A outer s H vs Q E hr hsp
 exact ⟨t,h.nox,q⟩
theorem Fun.binds {x qual:Str} {st:Stmt} {f:Addr} {fd:FuncData} {ps:zh} (F:Fun K x qual st f fd)
  (h:∀ (kV doc pm:Value) (an:Option Addr) (cdv ct:Value) (us:zg),us.length=ps.length->bindArgs (PySem.W.fnOf x qual (ky st) (gv st) (aL st) .none kV doc pm an cdv ct) ⟨us,[]⟩=pure (ps.zip us)):Binds K fd ps []:=by
 obtain ⟨oc,od,kV,doc,pm,an,cdv,ct,osl,rfl,lk,hcd⟩:=F.ex
 exact .all (h kV doc pm an cdv ct)
theorem ZnT {x qual:Str} {st:Stmt} {f:Addr} {oc:Value} {od an:Option Addr} {osl:Array (Option Value)} {kV doc pm cdv ct:Value} (l:K.lookup f=some ⟨oc,od,.func (PySem.W.fnOf x qual (ky st) (gv st) (aL st) .none kV doc pm an cdv ct),osl⟩)
  (c:PySem.W.codeIn K cdv qual=true) (k:PySem.W.keepIn K (.ref f)=true):Fun K x qual st f (PySem.W.fnOf x qual (ky st) (gv st) (aL st) .none kV doc pm an cdv ct):=⟨⟨oc,od,kV,doc,pm,an,cdv,ct,osl,rfl,l,c⟩,k⟩
end
theorem oT {A:Around} {k:Nat} (hr:Room k A):A.units+1 < cLine:=wN (Nat.add_le_add_left (by decide:1<=64) _) hr.units
section
variable {X:Cx}
theorem pv (i:Nat) {x:Str} {pos:Pos} (hN:X.N[i]?=some x:=by rfl) (hv:p7 X.env.scope x:=by first | exact Or.inl rfl | exact Or.inr (.inl rfl) | exact Or.inr (.inr rfl)) (hd:(x == ("__debug__":Str))=false:=by decide)
  (hcd:(x == ("__classdict__":Str))=false:=by decide):PE X (.Name x pos) (fj i):=ZlF hN hv hd hcd
end
theorem oN {c A B:Prop} [Decidable c] (h1:c->A) (h2:¬ c->B):if c then A else B:=by
 by_cases h:c
 ·rw [if_pos h]
  exact h1 h
 ·rw [if_neg h]
  exact h2 h
def Same (H H':Hp):Prop:=∀ b o,H b=some o->H' b=some o
theorem Same.refl (H:Hp):Same H H:=λ_ _ h=>h
theorem Same.seq {K:yY} {H H':Hp} {a:Addr} {xs:zi} (e:Same H H') (h:SqL K H a xs):SqL K H' a xs:=by
 rcases h with (h | ⟨o,h⟩) | h
 ·exact .inl (.inl (e _ _ h))
 ·exact .inl (.inr ⟨o,e _ _ h⟩)
 ·exact .inr h
structure Blk where
 cl:List (Str×Addr)
 C:Addr
 s:Shared
 H:Hp
 fp:List Addr
 pn:List (Addr×Obj)
noncomputable def bS (X:Cx) (N:zh) (scope:Scope) (b:Blk):Cx where
 prog:=X.prog
 w:=X.w
 K:=X.K
 mg:=X.mg
 base:=X.base
 A:=X.A
 N:=N
 s₀:=b.s
 H₀:=b.H
 env:=compEnvC scope b.cl b.C X.env
 outer:=X.stack
 stack:=X.stack
 ex:=b.fp
 fn:=λx=>scope.names.lookup x == some .cell
 calm:=X.calm
 pn:=b.pn
 xe:=λ_ _=>False
def bN (Nx ts:zh) (ix:List Nat):zh:=ts++ix.map λj=>(Nx[j]?).getD Str.empty
noncomputable def df (n:Nat) (ix:List Nat) (σ:St):St:=List.replicate n none++ix.map λj=>(σ[j]?).getD none
structure BlkOk (Nx:zh) (sc scope:Scope) (ix:List Nat):Prop where
 kind:scope.kind=.function
 cells:∀ y∈scope.names,y.2=.cell->scope.names.lookup y.1=some .cell
 locs:∀ y∈scope.names,y.2=.local->scope.names.lookup y.1=some .local
 frees:∀ y∈scope.names,y.2=.free->sc.names.lookup y.1=some .cell\/sc.names.lookup y.1=some .free
 caps:∀ j∈ix,j < Nx.length/\scope.names.lookup ((Nx[j]?).getD Str.empty)=some .free
theorem tM {env:Env} {f:Str×NameKind->List (Str×Addr)->Sem (ForInStep (List (Str×Addr)))}
  (h1:∀ n k r,k≠NameKind.free->f (n,k) r=pure (.yield r)) (h2:∀ n r c,env.cells.lookup n=some c->f (n,NameKind.free) r=pure (.yield ((n,c)::r))) :
  ∀ (names:List (Str×NameKind)) (acc:List (Str×Addr)),(∀ y∈names,y.2=.free->∃ c,env.cells.lookup y.1=some c)->(∀ x c,acc.lookup x=some c->env.cells.lookup x=some c) ->
   ∃ cl,forIn names acc f=pure cl/\(∀ x c,cl.lookup x=some c->env.cells.lookup x=some c)/\(∀ y∈names,y.2=.free->∃ c,cl.lookup y.1=some c)/\∀ x c,acc.lookup x=some c->∃ c',cl.lookup x=some c'
 | [],acc,_,ha=>⟨acc,rfl,ha,(λ_ h=>nomatch h),λx c h=>⟨c,h⟩⟩
 | (n,k)::names,acc,hn,ha=>by
  have hn':∀ y∈names,y.2=.free->∃ c,env.cells.lookup y.1=some c:=λy hy=>hn y (ve _ hy)
  by_cases hk:k=.free
  ·subst hk
   obtain ⟨c,hc⟩:=hn (n,.free) wq rfl
   have ha':∀ x d,((n,c)::acc).lookup x=some d->env.cells.lookup x=some d:=λx d e=>by
    rw [vT] at e
    cases hx:x == n with
    | true =>
     rw [hx] at e
     have hxn:x=n:=by simpa using hx
     subst hxn
     cases e
     exact hc
    | false =>
     rw [hx] at e
     exact ha x d e
   obtain ⟨cl,e,p1,p2,p3⟩:=tM h1 h2 names ((n,c)::acc) hn' ha'
   refine ⟨cl,?_,p1,λy hy hf=>?_,λx d hx=>?_⟩
   ·rw [yc,h2 n acc c hc,pure_bind]
    exact e
   ·rcases vJ.mp hy with rfl | hy
    ·exact p3 n c (by simp)
    ·exact p2 y hy hf
   ·by_cases e1:x=n
    ·subst e1
     exact p3 x c (by simp)
    ·exact p3 x d (by rw [vT,beq_false_of_ne e1]; exact hx)
  ·obtain ⟨cl,e,p1,p2,p3⟩:=tM h1 h2 names acc hn' ha
   refine ⟨cl,?_,p1,λy hy hf=>?_,p3⟩
   ·rw [yc,h1 n k acc hk,pure_bind]
    exact e
   ·rcases vJ.mp hy with rfl | hy
    ·exact absurd hf hk
    ·exact p2 y hy hf
theorem ua {scope:Scope} {env:Env} (hn:∀ y∈scope.names,y.2=.free->∃ c,env.cells.lookup y.1=some c) :
  ∃ cl,closureFor scope env=pure cl/\(∀ x c,cl.lookup x=some c->env.cells.lookup x=some c)/\∀ y∈scope.names,y.2=.free->∃ c,cl.lookup y.1=some c:=by
 unfold closureFor
 have key:=tM (env:=env) (f:=λ(x:Str×NameKind) (r:List (Str×Addr))=>match x with
  | (name,kind)=>if (kind == NameKind.free)=true then (do let a <- cellOf env name; pure (ForInStep.yield ((name,a)::r))) else pure (ForInStep.yield r))
  (λn k r hk=>by
   have hb:(k == NameKind.free)=false:=by simpa using hk
   show (if (k == NameKind.free)=true then _ else _)=_
   rw [hb]
   rfl)
  (λn r c hc=>by
   show (do let a <- cellOf env n; pure (ForInStep.yield ((n,a)::r)))=_
   unfold cellOf
   rw [hc]
   rfl) scope.names [] hn (λx c h=>by simp at h)
 obtain ⟨cl,e,p1,p2,_⟩:=key
 refine ⟨cl,?_,p1,p2⟩
 show (forIn scope.names [] _ >>= λr=>pure r)=pure cl
 exact (congrArg (λt=>t >>= λr=>pure r) e).trans (pure_bind _ _)
section
variable {X:Cx} {pins:List (Addr×Obj)} {σ:St} {H:Hp} {s:Shared}
theorem ZbX {scope:Scope} {env:Env} {x:Str} (h:scope.names.lookup x=some .free):(relabel scope env).names.lookup x=some .cell\/(relabel scope env).names.lookup x=some .free:=by
 unfold relabel
 show List.lookup x (scope.names.map _)=_\/List.lookup x (scope.names.map _)=_
 generalize scope.names=l at h
 induction l with
 | nil=>simp at h
 | cons p r ih =>
  obtain ⟨n,k⟩:=p
  rw [vC]
  cases hx:x == n with
  | true =>
   rw [vT,hx] at h
   have hk:k=.free:=by simpa using h
   subst hk
   by_cases hc:(NameKind.free == NameKind.free && env.scope.kind == .function && env.kindOf n == some .cell)=true
   ·refine .inl ?_
    show List.lookup x ((if (NameKind.free == NameKind.free && env.scope.kind == .function && env.kindOf n == some .cell)=true then (n,NameKind.cell) else (n,NameKind.free))::_)=_
    rw [if_pos hc,vT,hx]
   ·refine .inr ?_
    show List.lookup x ((if (NameKind.free == NameKind.free && env.scope.kind == .function && env.kindOf n == some .cell)=true then (n,NameKind.cell) else (n,NameKind.free))::_)=_
    rw [if_neg hc,vT,hx]
  | false =>
   rw [vT,hx] at h
   have key:∀ q:Str×NameKind,(q=(n,NameKind.cell)\/q=(n,k))->∀ l',List.lookup x (q::l')=List.lookup x l':=λq hq l'=>by
    rcases hq with rfl | rfl <;> rw [vT,hx]
   have hq:(if (k == NameKind.free && env.scope.kind == .function && env.kindOf n == some .cell)=true then (n,NameKind.cell) else (n,k))=(n,NameKind.cell)\/(if (k == NameKind.free && env.scope.kind == .function && env.kindOf n == some .cell)=true then (n,NameKind.cell) else (n,k))=(n,k):=by
    split
    ·exact .inl rfl
    ·exact .inr rfl
   rcases ih h with z | z
   ·exact .inl ((key _ hq _).trans z)
   ·exact .inr ((key _ hq _).trans z)
theorem Zk7 {scope:Scope} {env:Env} {x:Str} (h:(relabel scope env).names.lookup x=some .cell\/(relabel scope env).names.lookup x=some .free):∃ y∈scope.names,y.1=x/\(y.2=.free\/y.2=.cell):=by
 unfold relabel at h
 have h':List.lookup x (scope.names.map λ(n,k)=>if (k == .free && env.scope.kind == .function && env.kindOf n == some .cell) then (n,NameKind.cell) else (n,k))=some .cell\/List.lookup x (scope.names.map λ(n,k)=>if (k == .free && env.scope.kind == .function && env.kindOf n == some .cell) then (n,NameKind.cell) else (n,k))=some .free:=h
 clear h
 generalize scope.names=l at h'
 induction l with
 | nil=>simp at h'
 | cons p r ih =>
  obtain ⟨n,k⟩:=p
  rw [vC] at h'
  cases hx:x == n with
  | true =>
   have hxn:x=n:=by simpa using hx
   by_cases hk:k=.free
   ·exact ⟨(n,k),wq,hxn.symm,.inl hk⟩
   ·
    have hb:(k == NameKind.free)=false:=by simpa using hk
    have e:(if (k == NameKind.free && env.scope.kind == .function && env.kindOf n == some .cell)=true then (n,NameKind.cell) else (n,k))=(n,k):=by
     rw [hb]
     rfl
    have h2:List.lookup x ((n,k)::r.map λ(n,k)=>if (k == .free && env.scope.kind == .function && env.kindOf n == some .cell) then (n,NameKind.cell) else (n,k))=some .cell\/List.lookup x ((n,k)::r.map λ(n,k)=>if (k == .free && env.scope.kind == .function && env.kindOf n == some .cell) then (n,NameKind.cell) else (n,k))=some .free:=by
     rw [<- e]
     exact h'
    rw [vT,hx] at h2
    rcases h2 with z | z
    ·exact ⟨(n,k),wq,hxn.symm,.inr (vX z)⟩
    ·exact absurd (vX z) hk
  | false =>
   have hq:∀ q:Str×NameKind,(q=(n,NameKind.cell)\/q=(n,k))->∀ l',List.lookup x (q::l')=List.lookup x l':=λq hq l'=>by
    rcases hq with rfl | rfl <;> rw [vT,hx]
   have hqq:(if (k == NameKind.free && env.scope.kind == .function && env.kindOf n == some .cell)=true then (n,NameKind.cell) else (n,k))=(n,NameKind.cell)\/(if (k == NameKind.free && env.scope.kind == .function && env.kindOf n == some .cell)=true then (n,NameKind.cell) else (n,k))=(n,k):=by
    split
    ·exact .inl rfl
    ·exact .inr rfl
   obtain ⟨y,hy,e⟩:=ih (by
    rcases h' with z | z
    ·exact .inl ((hq _ hqq _).symm.trans z)
    ·exact .inr ((hq _ hqq _).symm.trans z))
   exact ⟨y,ve _ hy,e⟩
theorem Zh4:∀ (names:List (Str×NameKind)) (h:Heap) (acc:List (Str×Addr)),
  (∀ x c,(cellsFrom h.objs.size names acc).lookup x=some c->acc.lookup x=some c\/(h.objs.size<=c/\(pushCells h names).IsCell c none/\(x,NameKind.cell)∈names)) /\
  (∀ x,((x,NameKind.cell)∈names\/∃ c,acc.lookup x=some c)->∃ c,(cellsFrom h.objs.size names acc).lookup x=some c) /\
  (∀ x c,(x,NameKind.cell)∈names->(cellsFrom h.objs.size names acc).lookup x=some c->h.objs.size<=c) /\
  ((∀ x c,acc.lookup x=some c->c < h.objs.size)->(∀ x y c,acc.lookup x=some c->acc.lookup y=some c->x=y)->∀ x y c,(cellsFrom h.objs.size names acc).lookup x=some c->(cellsFrom h.objs.size names acc).lookup y=some c->x=y):=by
 intro names
 induction names with
 | nil=>intro h acc; exact ⟨λx c e=>.inl e,λx e=>by rcases e with e | e; cases e; exact e,λx c e=>(by cases e),λ_ i=>i⟩
 | cons p r ih =>
  obtain ⟨name,kind⟩:=p
  intro h acc
  unfold cellsFrom pushCells
  by_cases hk:kind=.cell
  ·subst hk
   have hk':((NameKind.cell == NameKind.cell)=true):=rfl
   rw [if_pos hk',if_pos hk']
   have ih':=ih (h.push { cls:=.type "cell",data:=.cell none }) ((name,h.objs.size)::acc)
   rw [we] at ih'
   obtain ⟨i1,i2,i4,i3⟩:=ih'
   refine ⟨λx c e=>?_,λx e=>?_,λx c e1 e2=>?_,λhb hi=>i3 (λx c e=>?_) λx y c e1 e2=>?_⟩
   ·rcases i1 x c e with z | ⟨z1,z2,z3⟩
    ·rw [vT] at z
     cases hx:x == name with
     | true =>
      rw [hx] at z
      have hxn:x=name:=by simpa using hx
      cases z
      exact .inr ⟨vo _,⟨_,pushCells_keeps _ _ _ _ (vn _ rfl),rfl⟩,by rw [hxn]; exact wq⟩
     | false=>rw [hx] at z; exact .inl z
    ·exact .inr ⟨by omega,z2,ve _ z3⟩
   ·refine i2 x ?_
    by_cases hx:x=name
    ·exact .inr ⟨h.objs.size,by rw [vT,hx]; simp⟩
    ·rcases e with e | ⟨c,e⟩
     ·rcases vJ.mp e with q | q
      ·exact absurd (congrArg Prod.fst q) hx
      ·exact .inl q
     ·exact .inr ⟨c,by rw [vT,beq_false_of_ne hx]; exact e⟩
   ·rcases i1 x c e2 with z | ⟨z,_,_⟩
    ·rw [vT] at z
     cases hx:x == name with
     | true=>rw [hx] at z; cases z; exact vo _
     | false =>
      have hxn:x≠name:=by simpa using hx
      rcases vJ.mp e1 with q | q
      ·exact absurd (congrArg Prod.fst q) hxn
      ·exact xN (i4 x c q e2)
    ·exact xN z
   ·rw [vT] at e
    cases hx:x == name with
    | true=>rw [hx] at e; cases e; exact xW _
    | false=>rw [hx] at e; exact xp (hb x c e)
   ·rw [vT] at e1 e2
    cases hx:x == name with
    | true =>
     have hxn:x=name:=by simpa using hx
     rw [hx] at e1
     cases e1
     cases hy:y == name with
     | true =>
      have hyn:y=name:=by simpa using hy
      rw [hxn,hyn]
     | false=>rw [hy] at e2; exact absurd (hb y _ e2) (vV _)
    | false =>
     rw [hx] at e1
     cases hy:y == name with
     | true=>rw [hy] at e2; cases e2; exact absurd (hb x _ e1) (vV _)
     | false=>rw [hy] at e2; exact hi x y c e1 e2
  ·have hk':¬ ((kind == NameKind.cell)=true):=by simpa using hk
   rw [if_neg hk',if_neg hk']
   obtain ⟨i1,i2,i4,i3⟩:=ih h acc
   refine ⟨λx c e=>?_,λx e=>i2 x ?_,λx c e1 e2=>?_,i3⟩
   ·rcases i1 x c e with z | ⟨z1,z2,z3⟩
    ·exact .inl z
    ·exact .inr ⟨z1,z2,ve _ z3⟩
   ·rcases e with e | e
    ·rcases vJ.mp e with q | q
     ·exact absurd (congrArg Prod.snd q).symm hk
     ·exact .inl q
    ·exact .inr e
   ·rcases vJ.mp e1 with q | q
    ·exact absurd (congrArg Prod.snd q).symm hk
    ·exact i4 x c q e2
theorem Zag {M:Model} {A:Around} {E:zd} {s:Shared} {scope:Scope} {globals:Addr} {cl:List (Str×Addr)} {qual:Str} {outer:Env} {Q:Env->Shared->Prop}
  (h:Q { scope:=scope,locals:=s.heap.objs.size,globals:=globals,cells:=cellsFrom (s.heap.objs.size+1) scope.names cl,qual:=qual,func:=none,code:=outer.code,frame:=outer.frame,builtins:=outer.builtins } { s with heap:=pushCells (s.heap.push { cls:=.type "dict",data:=.dict #[] }) scope.names }) :
  wpAny M A (newFunctionEnv scope globals cl [] qual none .none (some outer)) Q E s:=by
 simp only [newFunctionEnv,Option.isSome_some,if_true]
 refine wpAny_bind (wpAny_alloc ?_)
 refine wpAny_bind (wpAny_layCells _ (λname kind cells=>by cases hkc:kind == NameKind.cell <;> simp [hkc]) _ _ _ _ ?_)
 rw [show ({ s with heap:=s.heap.push { cls:=.type "dict",data:=.dict #[] } }:Shared).heap.objs.size=s.heap.objs.size+1 from we ..]
 rw [yP]
 exact wpAny_bind (wpAny_pure (wpAny_pure h))
theorem Zqn {Nx ts:zh} {ix:List Nat} {i:Nat} {x:Str} (h:(bN Nx ts ix)[i]?=some x) (hi:ts.length<=i):∃ j,ix[i - ts.length]?=some j/\x=(Nx[j]?).getD Str.empty:=by
 unfold bN at h
 rw [v5 hi,vg] at h
 cases e:ix[i - ts.length]? with
 | none=>rw [e] at h; cases h
 | some j=>rw [e] at h; exact ⟨j,rfl,(vX h).symm⟩
theorem ZdQ {scope:Scope} {cl:List (Str×Addr)} {fp:List Addr} {C:Addr} {h3:Heap} {tk:Nat} {m:zj} {Nx ts:zh} {ix:List Nat}
  (I:Inv X pins σ H s) (hNx:X.N=Nx) (ok:BlkOk Nx X.env.scope scope ix) (cs1:∀ x c,cl.lookup x=some c->X.env.cells.lookup x=some c\/(C < c/\h3.IsCell c none/\(x,NameKind.cell)∈scope.names)) (csI:∀ x y c,cl.lookup x=some c->cl.lookup y=some c->x=y) (cl2:∀ y∈scope.names,(y.2=.free\/y.2=.cell)->∃ c,cl.lookup y.1=some c) (csA:∀ x c,(x,NameKind.cell)∈scope.names->cl.lookup x=some c->C<=c)
  (hf:∀ b∈fp,fV X pins H b) (hfs:∀ b∈fp,b < s.heap.objs.size) (hC:s.heap.objs.size<=C) (kp:∀ b o,s.heap.get? b=some o->h3.get? b=some o) (hns:h3.Ns C m) :
  Inv (bS X (bN Nx ts ix) scope ⟨cl,C,s,H,fp,X.pn++pins⟩) [] (df ts.length ix σ) H { s with heap:=h3,toks:=tk }:=by
 have below:∀ {b:Addr},b < s.heap.objs.size->b≠C:=λhb=>vM (vA hb hC)
 have nstk:∀ b,b≠X.env.locals->b ∉ X.fs->b ∉ frs X.stack:=λb h1 h2 hb=>by
  rcases vJ.mp (I.stkSub b hb) with z | z
  ·exact h1 z
  ·exact h2 z
 refine ⟨⟨I.ok.mod,?_,I.ok.glob,I.ok.blt,hC,csI,λx hx=>?_,λx c hfn e=>vS hC (csA x c (wz (eq_of_beq hfn)) e),I.ok.hd,I.ok.frames,.inl rfl,λb hb=>⟨below (hfs b hb),λx c e=>by
  rcases cs1 x c e with z | ⟨z,_,_⟩
  ·exact (hf b hb).2.2.2.2.1 x c z
  ·exact wj (vA (hfs b hb) (vS hC (xt z)))⟩,I.bs,vS I.ok.bsz I.sz,λb o e hb=>?_,λb hb=>nstk b (hf b hb).2.1 (hf b hb).2.2.1,I.stack,I.stkFree⟩,
  rfl,I.bare,Un.kept kp,⟨m,hns,λi x v h1 h2 h3'=>?_⟩,λx c e=>?_,I.hok.fresh hC,λx c e=>by
  rcases cs1 x c e with z | ⟨z,_,_⟩
  ·exact I.freeC x c z
  ·exact I.hok.fresh (vS hC (xt z)),λp hp=>?_,I.hok.kept kp,?_⟩
 ·exact ok.kind
 ·have hx':(relabel scope X.env).names.lookup x=some .cell\/(relabel scope X.env).names.lookup x=some .free:=hx
  obtain ⟨y,hy,e1,e2⟩:=Zk7 hx'
  obtain ⟨c,hc⟩:=cl2 y hy e2
  exact ⟨c,by rw [<- e1]; exact hc⟩
 ·rcases (hf b hb).2.2.2.1 with z | z
  ·exact I.ok.noex b o e z
  ·exact absurd (vA (vE e) (vS I.ok.bsz z)) (vV _)
 ·have hi:ts.length<=i:=by
   rcases Nat.lt_or_ge i ts.length with z | z
   ·exfalso
    have h2':(df ts.length ix σ)[i]?=some (some v):=h2
    unfold df at h2'
    rw [v8 (by simpa using z),vW] at h2'
    split at h2' <;> cases h2'
   ·exact z
  obtain ⟨j,hj,ex⟩:=Zqn h1 hi
  have h2':(df ts.length ix σ)[i]?=some (some v):=h2
  unfold df at h2'
  rw [v5 (by simpa using hi),vg,wX,hj] at h2'
  have hσ:σ[j]?=some (some v):=by
   have q:(σ[j]?).getD none=some v:=vX h2'
   cases e:σ[j]? with
   | none=>rw [e] at q; cases q
   | some w=>rw [e] at q; exact congrArg some q
  obtain ⟨hjl,hfree⟩:=ok.caps j (wu hj)
  have hNj:X.N[j]?=some x:=by
   rw [hNx,ex,vx hjl]
   rfl
  rw [<- ex] at hfree
  obtain ⟨c,hc⟩:=cl2 (x,.free) (wz hfree) (.inl rfl)
  have cl1:X.env.cells.lookup x=some c:=by
   rcases cs1 x c hc with z | ⟨_,_,z⟩
   ·exact z
   ·have:=ok.cells _ z rfl
    rw [hfree] at this
    cases this
  have kx:=ok.frees (x,.free) (wz hfree) rfl
  obtain ⟨m0,hn0,hl0⟩:=I.loc
  obtain ⟨u,ru,look⟩:=hl0 j x v hNj hσ (by rcases kx with z | z; exact .inr (.inl z); exact .inr (.inr z))
  refine ⟨u,ru,.inr ⟨ZbX hfree,c,hc,?_⟩⟩
  rcases look with ⟨k1,_⟩ | ⟨_,c',hc',z⟩
  ·have k1':X.env.scope.names.lookup x=some .local:=k1
   rcases kx with z | z
   ·rw [k1'] at z; cases z
   ·rw [k1'] at z; cases z
  ·have e:=cl1
   rw [hc'] at e
   cases e
   obtain ⟨o,ho,hd⟩:=z
   exact ⟨o,kp _ _ ho,hd⟩
 ·rcases cs1 x c e with z | ⟨_,z,_⟩
  ·obtain ⟨v,o,ho,hd⟩:=I.cell x c z
   exact ⟨v,o,kp _ _ ho,hd⟩
  ·exact ⟨_,z⟩
 ·have hp':p∈X.pn++pins:=by simpa [bS] using hp
  obtain ⟨e,n,ne,nf,d⟩:=I.pin p hp'
  exact ⟨kp _ _ e,n,below (vE e),nstk _ ne nf,d⟩
 ·show (df ts.length ix σ).length=(bN Nx ts ix).length
  unfold df bN
  simp
theorem Inv.track {D:Addr} {ys:zi} {its:zg} {n:Nat} (I:Inv X pins σ H s) (hD:H D=none) (ho:s.heap.get? D=some { cls:=.type "list",data:=.seq its.toArray n }) (r:Vals ys its) (hz:ys.length<=sizeLine)
  (hL:D≠X.env.locals) (hs0:X.s₀.heap.objs.size<=D) (hc:∀ x c,X.env.cells.lookup x=some c->c≠D) (hp:∀ p∈X.pn++pins,p.1≠D):Inv X pins σ (upd H D (.lst ys)) s:=by
 have ne:∀ {b:Addr} {o:HO},H b=some o->b≠D:=λe=>cT e hD
 refine I.step (g':=s.gens) (d':=s.drawn) (t':=s.toks) (h':=s.heap) (ch:=[D]) (λb hb=>?_) (λb o _ _ _ e _=>e) (λb o _ _ _ e _=>⟨o.slots,e⟩) (λb o hb e n=>?_) (λb o _ e=>⟨o,e⟩)
  (λb xs e=>by rw [aV (ne e)]; exact e) (λb o u e=>by rw [aV (ne e)]; exact e) (λb ps e=>⟨#[],by rw [aV (ne e),e]; simp⟩) (λm hm=>hm) (λb u e=>?_) I.bare
 ·have e:b=D:=by simpa using hb
  subst e
  exact ⟨.inr hs0,hL,hc,hp⟩
 ·have hb':b≠D:=by simpa using hb
  rw [aV hb']
  exact n
 ·by_cases hb:b=D
  ·subst hb
   rw [ce] at e
   cases e
   exact ⟨hz,its,n,r,ho⟩
  ·rw [aV hb] at e
   exact (I.hok b u e).stay (λc v _ q=>q) (λc q=>by rw [aV (ne q)]; exact q) λc xs q=>by rw [aV (ne q)]; exact q
end
theorem Zpy {prog:Program} {w:World} {A:Around} {R:Result->Shared->Prop} {s:Shared} {elt target iter:Expr} {scope:Scope} {pos:Pos} {it acc:Value} {env:Env} (J:Nat->Shared->Prop)
  (step:∀ k s0,J k s0->wpAny (model prog w) A (pyNext it) (λgot s1=>match got with
   | none=>R (.ok .next) s1
   | some v=>wpAny (model prog w) A (letOwnedTupleGo target it v) (λ_ s2=>wpAny (model prog w) A (assign target env v) (λ_ s3=>wpAny (model prog w) A (eval elt env) (λy s4 =>
     wpAny (model prog w) A (call (.builtin "list.append") [acc,y]) (λ_ s5=>∃ j,j < k/\J j s5) (λ_ _=>False) s4) (λ_ _=>False) s3) (λ_ _=>False) s2) (λ_ _=>False) s1) (λ_ _=>False) s0)
  (k:Nat) (h:J k s):codeAny (model prog w) A (.compLoop (.ListComp elt [⟨target,iter,[],0⟩] scope pos) 0 it acc env) R s:=by
 refine codeAny_loop rfl J (λk0 s0 hJ=>?_) k h
 show wpAny _ _ ((compTurn (.ListComp elt [⟨target,iter,[],0⟩] scope pos) 0 it acc env).onRaise (λx=>do noteFrame x env; theTreesLotGoes x)) _ _ s0
 apply wpAny_noted
 rw [compTurn_list1]
 refine wpAny_bind (wpAny_standAt (wpAny_bind (wpAny_mono (step k0 s0 hJ) (λgot s1 h1=>?_) λ_ _ z=>z.elim)))
 cases got with
 | none=>exact wpAny_pure h1
 | some v =>
  refine wpAny_bind (wpAny_mono h1 (λ_ s2 h2=>?_) λ_ _ z=>z.elim)
  refine wpAny_bind (wpAny_mono h2 (λ_ s3 h3=>?_) λ_ _ z=>z.elim)
  refine wpAny_bind (wpAny_bind (wpAny_mono h3 (λy s4 h4=>?_) λ_ _ z=>z.elim))
  exact wpAny_bind (wpAny_mono h4 (λ_ s5 h5=>wpAny_pure (wpAny_pure ⟨rfl,h5⟩)) λ_ _ z=>z.elim)
def kQ (wi:TI) (n:Nat) (ix:List Nat) (g:Blk->TG) (te:Blk->TE):TE:=λσ H Q=>wi σ H λJ H1=>∀ b:Blk,∃ W:Nat->Nat->St->List V->Hp->Prop,(∃ m,W 0 m (df n ix σ) [] H1)/\∀ i m τ ys H2,W i m τ ys H2 ->
 (J.stop i H2/\∀ p v H',H2 p=none->v=V.ref p->H'=upd H2 p (.lst ys)->Q v H') \/
 (J.go i H2/\ys.length < sizeLine/\∀ x H3,J.yld i H2 x H3->g b x τ H3 λτ2 H4=>te b τ2 H4 λy H5=>∃ m',m' < m/\W (i+1) m' τ2 (ys++[y]) H5)
section
variable {X:Cx} {pins:List (Addr×Obj)} {σ:St} {H:Hp} {s:Shared}
theorem Zdv {elt target iter:Expr} {scope:Scope} {pos:Pos} {Nx ts:zh} {ix:List Nat} {g:Blk->TG} {te:Blk->TE} {cl:List (Str×Addr)} {s2:Shared} {itv:Value} {R:Value->Addr->Result->Shared->Prop}
  {E:zd} {Q:VK}
  (hc:X.calm=true) (hg:∀ b,PG (bS X (bN Nx ts ix) scope b) target (g b)) (he:∀ b,PE (bS X (bN Nx ts ix) scope b) elt (te b))
  (hNx:X.N=Nx) (ok:BlkOk Nx X.env.scope scope ix) (cl1:∀ x c,cl.lookup x=some c->X.env.cells.lookup x=some c) (cl2:∀ y∈scope.names,y.2=.free->∃ c,cl.lookup y.1=some c)
  (h2:qc X pins σ target (λJ H1=>∀ b:Blk,∃ W:Nat->Nat->St->List V->Hp->Prop,(∃ m,W 0 m (df ts.length ix σ) [] H1)/\∀ i m τ ys H2,W i m τ ys H2 ->
   (J.stop i H2/\∀ p v H',H2 p=none->v=V.ref p->H'=upd H2 p (.lst ys)->Q v H') \/
   (J.go i H2/\ys.length < sizeLine/\∀ x H3,J.yld i H2 x H3->g b x τ H3 λτ2 H4=>te b τ2 H4 λy H5=>∃ m',m' < m/\W (i+1) m' τ2 (ys++[y]) H5)) itv s2)
  (hR:∀ (D C:Addr) (H':Hp) (s':Shared) (v:V),Inv X pins σ H' s'->v=.ref D->Q v H'->(∃ m,s'.heap.Ns C m)->H' C=none->C≠X.env.locals->X.s₀.heap.objs.size<=C->(∀ x c,X.env.cells.lookup x=some c->c≠C)->(∀ p∈X.pn++pins,p.1≠C) ->
   R (.ref D) C (.ok .next) s') :
  wpAny (model X.prog X.w) X.A (newList []) (λacc s₃=>wpAny (model X.prog X.w) X.A (newFunctionEnv scope X.env.globals cl [] X.env.qual none .none (some X.env)) (λcenv s₄ =>
   codeAny (model X.prog X.w) X.A (.compStart (.ListComp elt [⟨target,iter,[],0⟩] scope pos) 0 itv acc { cenv with scope:=relabel scope X.env }) (R acc cenv.locals) s₄) E s₃) E s2:=by
 obtain ⟨it,fp,tn,J,H1,e,I2,T,st2,f2,q2⟩:=h2
 subst e
 refine wpAny_newObj_type (Zag ?_)
 dsimp only
 generalize hG:s2.heap.push { cls:=.type "list",dict:=none,data:=.seq ([]:zg).toArray }=G
 have hGs:G.objs.size=s2.heap.objs.size+1:=by rw [<- hG,we]
 have hfs:∀ b∈fp,b < s2.heap.objs.size:=λb hb=>let ⟨o,e,_⟩:=T.obj _ _ st2 b hb; vE e
 have kpG:∀ b o,G.get? b=some o->(pushCells (G.push { cls:=.type "dict",data:=.dict #[] }) scope.names).get? b=some o:=λb o e=>pushCells_keeps _ _ _ _ (vc _ e)
 have hns3:(pushCells (G.push { cls:=.type "dict",data:=.dict #[] }) scope.names).Ns G.objs.size (λ_=>none):=(Heap.Ns.new G (.type "dict")).keeps (pushCells_keeps _ _)
 obtain ⟨sp1,sp2,sp4,sp3⟩:=Zh4 scope.names (G.push { cls:=.type "dict",data:=.dict #[] }) cl
 rw [we] at sp1 sp2 sp3 sp4
 generalize hh3:pushCells (G.push { cls:=.type "dict",data:=.dict #[] }) scope.names=h3 at kpG hns3 sp1 ⊢
 have kp:∀ b o,s2.heap.get? b=some o->h3.get? b=some o:=λb o e=>kpG b o (by rw [<- hG]; exact vc _ e)
 have hD3:h3.get? s2.heap.objs.size=some { cls:=.type "list",data:=.seq ([]:zg).toArray }:=kpG _ _ (by rw [<- hG]; exact vn _ rfl)
 have clB:∀ x c,cl.lookup x=some c->c < G.objs.size+1:=λx c e=>by
  obtain ⟨v,q⟩:=I2.cell x c (cl1 x c e)
  exact xp (vA q.lt (by rw [hGs]; exact Nat.le_succ _))
 have csI:=sp3 clB λx y c e1 e2=>I2.ok.inj x y c (cl1 x c e1) (cl1 y c e2)
 have cs1:∀ x c,(cellsFrom (G.objs.size+1) scope.names cl).lookup x=some c->X.env.cells.lookup x=some c\/(G.objs.size < c/\h3.IsCell c none/\(x,NameKind.cell)∈scope.names):=λx c e=>by
  rcases sp1 x c e with z | ⟨z1,z2,z3⟩
  ·exact .inl (cl1 x c z)
  ·exact .inr ⟨by omega,z2,z3⟩
 have cs2:∀ y∈scope.names,(y.2=.free\/y.2=.cell)->∃ c,(cellsFrom (G.objs.size+1) scope.names cl).lookup y.1=some c:=λy hy hk=>by
  refine sp2 y.1 ?_
  rcases hk with z | z
  ·exact .inr (cl2 y hy z)
  ·exact .inl (by rw [<- z]; exact hy)
 have csA:∀ x c,(x,NameKind.cell)∈scope.names->(cellsFrom (G.objs.size+1) scope.names cl).lookup x=some c->G.objs.size<=c:=λx c e1 e2=>xN (sp4 x c e1 e2)
 generalize hcs:cellsFrom (G.objs.size+1) scope.names cl=cs at csI cs1 cs2 csA ⊢
 generalize hCe:G.objs.size=C at hns3 cs1 csA ⊢
 have hC:s2.heap.objs.size<=C:=by omega
 have hDC:s2.heap.objs.size≠C:=by omega
 let B:Blk:=⟨cs,C,s2,H1,fp,X.pn++pins⟩
 have I3:Inv (bS X (bN Nx ts ix) scope B) [] (df ts.length ix σ) H1 { s2 with heap:=h3 }:=ZdQ I2 hNx ok cs1 csI cs2 csA f2 hfs hC kp hns3
 have fC:H1 s2.heap.objs.size=none:=I2.hok.fresh (vo _)
 have cellIn:∀ x c,cs.lookup x=some c->c≠s2.heap.objs.size:=λx c e=>by
  rcases cs1 x c e with z | ⟨z,_,_⟩
  ·obtain ⟨v,q⟩:=I2.cell x c z
   exact vM q.lt
  ·exact wj (wN hC z)
 have pinIn:∀ p∈X.pn++pins,p.1 < s2.heap.objs.size:=λp hp=>vE (I2.pin p hp).1
 have nofrs:s2.heap.objs.size ∉ frs X.stack:=λhb=>by
  rcases vJ.mp (I2.stkSub _ hb) with z | z
  ·exact absurd I2.lt (by rw [<- z]; exact vV _)
  ·exact I2.nofs (vo _) z
 -- a state with the list at its place,pinned
 have pinD:∀ {τ:St} {H':Hp} {s':Shared} {ob:Obj},Inv (bS X (bN Nx ts ix) scope B) [] τ H' s'->s'.heap.get? s2.heap.objs.size=some ob->H' s2.heap.objs.size=none->(∀ v,ob.data≠.cell v)->Inv (bS X (bN Nx ts ix) scope B) [(s2.heap.objs.size,ob)] τ H' s' :=
  λ{τ H' s' ob} I' ho hn hd=>I'.pins_of λp hp=>by
   have e:p=(s2.heap.objs.size,ob):=by simpa using hp
   subst e
   exact ⟨ho,hn,hDC,nofrs,hd⟩
 obtain ⟨W,⟨m0,w0⟩,turn⟩:=q2 B
 have stat:∀ {H':Hp} {ob:Obj},(∀ b∈fp,H' b=none)->∀ b∈fp,fV (bS X (bN Nx ts ix) scope B) [(s2.heap.objs.size,ob)] H' b:=λ{H' ob} hn b hb=>by
  refine ⟨hn b hb,vM (vA (hfs b hb) hC),λz=>?_,.inl hb,λx c e=>by
   rcases cs1 x c e with z | ⟨z,_,_⟩
   ·exact (f2 b hb).2.2.2.2.1 x c z
   ·exact wj (vA (hfs b hb) (vS hC (xt z))),λp hp=>?_⟩
  ·rcases vJ.mp (I2.stkSub _ z) with q | q
   ·exact (f2 b hb).2.1 q
   ·exact (f2 b hb).2.2.1 q
  ·rcases wS.mp hp with z | z
   ·exact (f2 b hb).2.2.2.2.2 p z
   ·have e:p=(s2.heap.objs.size,ob):=by simpa using z
    subst e
    exact wj (hfs b hb)
 have loop:∀ s4:Shared,s4={ s2 with heap:=h3 } ->
   codeAny (model X.prog X.w) X.A (.compLoop (.ListComp elt [⟨target,iter,[],0⟩] scope pos) 0 (.ref it) (.ref s2.heap.objs.size) (compEnvC scope cs C X.env)) (R (.ref s2.heap.objs.size) C) s4:=by
  rintro s4 rfl
  refine Zpy (λk s'=>∃ i τ ys its n H',Inv (bS X (bN Nx ts ix) scope B) [(s2.heap.objs.size,({ cls:=.type "list",data:=.seq (List.toArray its) n }:Obj))] τ H' s'/\tn i s'.heap/\(∀ b∈fp,H' b=none)/\Vals ys its/\ys.length<=sizeLine/\W i k τ ys H') ?_ m0
   ⟨0,_,[],[],_,H1,pinD I3 hD3 fC (λv z=>by cases z),T.keep _ _ _ st2 λb hb o e=>kp b o e,λb hb=>(f2 b hb).1,.nil,xg _,w0⟩
  rintro k s5 ⟨i,τ,ys,its,n,H5,I5,st5,fr5,rv,hz,w5⟩
  rcases turn i k τ ys H5 w5 with ⟨stop,qn⟩ | ⟨go,hlt,step⟩
  ·refine thn (T.done (bS X (bN Nx ts ix) scope B) rfl rfl rfl hc i _ s5 τ H5 _ I5 (stat fr5) st5 stop) λgot s6 hz0=>?_
   obtain ⟨hr,I6⟩:=hz0
   subst hr
   obtain ⟨ho,hn,_,_,_⟩:=I6.pin (s2.heap.objs.size,({ cls:=.type "list",data:=.seq (List.toArray its) n }:Obj)) (vz _ (by simp))
   have I7:Inv X pins σ H5 s6:=I2.call' (ch:=fp) (H':=H5) (by exact I6.os) I6.base I6.hok I6.bare λb hb=>⟨(f2 b hb).2.2.2.1,(f2 b hb).2.1,(f2 b hb).2.2.2.2.1,(f2 b hb).2.2.2.2.2⟩
   have hs0:X.s₀.heap.objs.size<=s2.heap.objs.size:=I2.sz
   have I8:=I7.track hn ho rv hz (wj I2.lt) hs0 (λx c e z=>by
    obtain ⟨v,q⟩:=I2.cell x c e
    exact absurd q.lt (by rw [z]; exact vV _)) (λp hp=>vM (pinIn p hp))
   obtain ⟨m6,hm6,_⟩:=I6.loc
   refine hR _ C _ s6 _ I8 rfl (qn _ _ _ hn rfl rfl) ⟨m6,hm6⟩ ?_ (λz=>?_) (vS hs0 hC) (λx c e z=>?_) λp hp=>vM (vA (pinIn p hp) hC)
   ·rw [aV (Ne.symm hDC)]
    exact I6.free
   ·exact absurd (vA I2.lt hC) (by rw [z]; exact vV _)
   ·obtain ⟨v,q⟩:=I2.cell x c e
    exact absurd (vA q.lt hC) (by rw [z]; exact vV _)
  ·refine thn (T.item (bS X (bN Nx ts ix) scope B) rfl rfl rfl hc i _ s5 τ H5 _ I5 (stat fr5) st5 go) λgot s6 hz0=>?_
   obtain ⟨u,hr,h6⟩:=hz0
   subst hr
   refine thn h6 λ_ s7 hz0=>?_
   obtain ⟨x,H7,I7,r7,y7,st7,fr7⟩:=hz0
   have I7':=I7.pinned (stat fr7) (T.obj _ _ st7)
   refine thn (hg B _ s7 τ H7 x u _ I7' r7 (step x H7 y7)) λ_ s8 hz0=>?_
   obtain ⟨τ8,H8,I8,q8⟩:=hz0
   refine thn (he B _ s8 τ8 H8 _ I8 q8) λy s9 hz0=>?_
   obtain ⟨vy,H9,I9,r9,m',hm',w9⟩:=hz0
   obtain ⟨ho,hn,_,_,_⟩:=I9.pin (s2.heap.objs.size,({ cls:=.type "list",data:=.seq (List.toArray its) n }:Obj)) (vz _ (wk _ (by simp)))
   have lenv:=rv.length
   refine wpAny_list_append_plain (l:=s2.heap.objs.size) ⟨n,ho⟩ (λh' hpl hsb=>?_) (by rw [vq]; omega)
   obtain ⟨n',ho'⟩:=hpl
   have eobj:(its.toArray.push y)=List.toArray (its++[y]):=by simp
   rw [eobj] at ho'
   have I9':Inv (bS X (bN Nx ts ix) scope B) [] τ8 H9 s9:=I9.pins_of λp hp=>absurd hp (by simp)
   have I10:Inv (bS X (bN Nx ts ix) scope B) [] τ8 H9 { s9 with heap:=h' }:=I9'.turned (it:=s2.heap.objs.size) (t':=s9.toks) (λb o hb e=>(hsb.2 b hb).trans e) hn hDC (.inr (vo _)) cellIn (λp hp=>by
    have hp':p∈(X.pn++pins)++[]:=hp
    rw [wn] at hp'
    exact vM (pinIn p hp'))
   refine ⟨m',hm',i+1,τ8,ys++[vy],its++[y],n',H9,pinD I10 ho' hn (λv z=>by cases z),?_,λb hb=>?_,rv.append (.cons r9 .nil),by rw [v6]; show ys.length+1<=_; omega,w9⟩
   ·refine T.keep _ _ _ st7 λb hb o e=>?_
    have q:=(I9.pin (b,o) (vz _ (vz _ (im hb e)))).1
    exact (hsb.2 b (vM (hfs b hb))).trans q
   ·obtain ⟨o,e,d⟩:=T.obj _ _ st7 b hb
    exact (I9.pin (b,o) (vz _ (vz _ (im hb e)))).2.1
 exact codeAny_compStart_list (loop _ rfl) (T.self X.A 0 _ _ _ (T.keep _ _ _ st2 λb hb o e=>kp b o e) (loop _ rfl))
theorem dm {elt target iter:Expr} {scope:Scope} {pos:Pos} {wi:TI} {g:Blk->TG} {te:Blk->TE} (Nx:zh) (ts:zh) (ix:List Nat)
  (hc:X.calm=true) (hi:PI X target iter wi) (hg:∀ b,PG (bS X (bN Nx ts ix) scope b) target (g b)) (he:∀ b,PE (bS X (bN Nx ts ix) scope b) elt (te b))
  (hNx:X.N=Nx) (ok:BlkOk Nx X.env.scope scope ix) (hs:∀ x,foldedSetIterable iter X.env x=pure x:=by intro _; rfl) :
  PE X (.ListComp elt [⟨target,iter,[],0⟩] scope pos) (kQ wi ts.length ix g te):=by
 intro pins s σ H Q I h
 obtain ⟨cl,hcl,cl1,cl2⟩:=ua (scope:=scope) (env:=X.env) λy hy hf=>I.ok.has y.1 (ok.frees y hy hf)
 rw [eval_ListComp]
 refine wpAny_comprehension_free (use:=none) rfl hs hcl ok.kind ok.locs (thn (hi pins s σ H _ I h) λv s1 h1=>thn h1 λitv s2 h2=>?_)
 refine Zdv (R:=λacc C=>compPost (model X.prog X.w) X.A X.xe none (EP X pins σ Q) acc C) hc hg he hNx ok cl1 cl2 h2 ?_
 rintro D C H' s' v I' rfl q ⟨m,hm⟩ hn hL h0 hcl' hp
 exact ⟨m,hm,λh' hsb=>⟨.ref D,H',I'.turned (it:=C) (t':=s'.toks) (λb o hb e=>(hsb.2 b hb).trans e) hn hL (.inr h0) hcl' hp,rfl,q⟩⟩
theorem nE {elt target iter:Expr} {scope:Scope} {pos pos' spos:Pos} {wi:TI} {g:Blk->TG} {te:Blk->TE} {i:Nat} {x:Str} (Nx:zh) (ts:zh) (ix:List Nat)
  (hc:X.calm=true) (hN:X.N.Nodup) (hix:X.N[i]?=some x) (hx:X.env.scope.names.lookup x=some .local) (hi:PI X target iter wi) (hg:∀ b,PG (bS X (bN Nx ts ix) scope b) target (g b)) (he:∀ b,PE (bS X (bN Nx ts ix) scope b) elt (te b))
  (hNx:X.N=Nx) (ok:BlkOk Nx X.env.scope scope ix) (hsw:swapsWith (.ListComp elt [⟨target,iter,[],0⟩] scope pos) (some (.Name x pos')) spos.line X.env=pure true) (hs:∀ x,foldedSetIterable iter X.env x=pure x:=by intro _; rfl) :
  PS X (.Assign [.Name x pos'] (.ListComp elt [⟨target,iter,[],0⟩] scope pos) spos) (fI (kQ wi ts.length ix g te) (gu i)):=by
 intro pins s σ H D0 I h
 obtain ⟨cl,hcl,cl1,cl2⟩:=ua (scope:=scope) (env:=X.env) λy hy hf=>I.ok.has y.1 (ok.frees y hy hf)
 rw [exec_Assign_Name_used _ _ _ _ hsw]
 refine wpAny_bind (wpAny_standAt (wpAny_bind ?_))
 show wpAny _ X.A (do let _ <- comprehension (.ListComp elt [⟨target,iter,[],0⟩] scope pos) scope X.env _ (newList []) false (eval iter X.env) (some (assign (.Name x pos') X.env))) _ _ s
 refine wpAny_bind (thn (wpAny_comprehension_free (use:=some (assign (.Name x pos') X.env)) (Q:=λ_ s'=>SP X pins D0 .next s') rfl hs hcl ok.kind ok.locs (thn (hi pins s σ H _ I h) λv s1 h1=>thn h1 λitv s2 h2=>?_)) λ_ s' hq=>wpAny_pure (wpAny_pure hq))
 refine Zdv (R:=λacc C=>compPost (model X.prog X.w) X.A X.xe (some (assign (.Name x pos') X.env)) (λ_ s'=>SP X pins D0 .next s') acc C) (Q:=λx H1=>gu i x σ H1 D0.nx) hc hg he hNx ok cl1 cl2 h2 ?_
 rintro D C H' s' v I' rfl q ⟨m,hm⟩ hn hL h0 hcl' hp
 show wpAny _ X.A (assign (.Name x pos') X.env (.ref D)) _ _ _
 refine wpAny_assign_Name (ZaH I' hN hix (.inl hx) (show RelV (.ref D) (.ref D) from rfl) (λs'' I'' hch=>?_) (.inr hx))
 obtain ⟨a,hsb,ha⟩:=hch
 have haC:C≠a:=by
  rcases ha with z | z
  ·rw [z]; exact hL
  ·exact λe=>hcl' _ _ z e.symm
 exact ⟨m,hm.sameBut hsb haC,λh'' hs''=>⟨_,H',I''.turned (it:=C) (t':=s''.toks) (λb o hb e=>(hs''.2 b hb).trans e) hn hL (.inr h0) hcl' hp,q⟩⟩
end
theorem Zk6 {scope:Scope} {env:Env} {x:Str} (h:scope.names.lookup x=some .cell\/scope.names.lookup x=some .free):(relabel scope env).names.lookup x=some .cell\/(relabel scope env).names.lookup x=some .free:=by
 rcases h with h | h
 ·refine .inl ?_
  unfold relabel
  show List.lookup x (scope.names.map _)=_
  generalize scope.names=l at h
  induction l with
  | nil=>simp at h
  | cons p r ih =>
   obtain ⟨n,k⟩:=p
   rw [vC]
   show List.lookup x ((if (k == NameKind.free && env.scope.kind == .function && env.kindOf n == some .cell)=true then (n,NameKind.cell) else (n,k))::_)=_
   cases hx:x == n with
   | true =>
    rw [vT,hx] at h
    have hk:k=.cell:=by simpa using h
    subst hk
    rw [if_neg (by rw [show (NameKind.cell == NameKind.free)=false from rfl]; simp),vT,hx]
   | false =>
    rw [vT,hx] at h
    split <;> rw [vT,hx] <;> exact ih h
 ·exact ZbX h
theorem BlkOk.nest {Nx:zh} {sc scope:Scope} {env:Env} {ix:List Nat} (h:BlkOk Nx sc scope ix):BlkOk Nx (relabel sc env) scope ix :=
 ⟨h.kind,h.cells,h.locs,λy hy z=>Zk6 (h.frees y hy z),h.caps⟩
mutual
/-- the value bears the datum -/
inductive Dn (H:Hp):V->PyData->Prop
 | non:Dn H .non .none
 | bl (b:Bool):Dn H (.bl b) (.bool b)
 | int (i:Int):Dn H (.int i) (.int i)
 | str (x:Str):Dn H (.str x) (.str x)
 | tup {a:Addr} {xs:zi} {ds:ze}:H a=some (.tup xs)->DnAll H xs ds->Dn H (.ref a) (.tuple ds)
 | lst {a:Addr} {xs:zi} {ds:ze}:H a=some (.lst xs)->DnAll H xs ds->Dn H (.ref a) (.list ds)
 | dct {a:Addr} {ks:List (aM×V)} {ds:ze}:Rd H a (.dK ks)->DnAll H (ks.map (·.2)) ds->Dn H (.ref a) (.dict ((ks.map λk=>match k.1 with | .inl i=>PyData.int i | .inr x=>PyData.str x).zip ds))
inductive DnAll (H:Hp):List V->List PyData->Prop
 | nil:DnAll H [] []
 | cons {v:V} {vs:zi} {d:PyData} {ds:ze}:Dn H v d->DnAll H vs ds->DnAll H (v::vs) (d::ds)
end
mutual
theorem Dn.mono {H H':Hp} (e:∀ b o,H b=some o->H' b=some o):∀ {v:V} {d:PyData},Dn H v d->Dn H' v d
 | _,_,.non=>.non
 | _,_,.bl b=>.bl b
 | _,_,.int i=>.int i
 | _,_,.str x=>.str x
 | _,_,.tup h r=>.tup (e _ _ h) (DnAll.mono e r)
 | _,_,.lst h r=>.lst (e _ _ h) (DnAll.mono e r)
 | _,_,.dct h r=>.dct (h.imp (e _ _) λ⟨o,h⟩=>⟨o,e _ _ h⟩) (DnAll.mono e r)
theorem DnAll.mono {H H':Hp} (e:∀ b o,H b=some o->H' b=some o):∀ {vs:zi} {ds:ze},DnAll H vs ds->DnAll H' vs ds
 | _,_,.nil=>.nil
 | _,_,.cons r t=>.cons (Dn.mono e r) (DnAll.mono e t)
end
theorem DnAll.ints {H:Hp}:∀ ns:zf,DnAll H (ns.map V.int) (ns.map PyData.int)
 | []=>.nil
 | n::ns=>.cons (.int n) (DnAll.ints ns)
theorem DnAll.length {H:Hp} {vs:zi} {ds:ze} (h:DnAll H vs ds):vs.length=ds.length:=by
 induction vs generalizing ds with
 | nil=>cases h; rfl
 | cons v vs ih=>cases h with | cons r t=>exact congrArg (·+1) (ih t)
theorem DnAll.append {H:Hp} {vs ws:zi} {ds es:ze} (h:DnAll H vs ds) (s:DnAll H ws es):DnAll H (vs++ws) (ds++es):=by
 induction vs generalizing ds with
 | nil=>cases h; exact s
 | cons v vs ih=>cases h with | cons r t=>exact .cons r (ih t)
mutual
/-- data without dicts -/
theorem Dn.reads {P:Program} {w:World} {H:Hp} {h:Heap} (ok:HOk P w H h):∀ {v:V} {d:PyData} {u:Value},Dn H v d->d.hasDict=false->RelV v u->∃ as,Reads h u d as
 | _,_,_,.non,_,r=>by cases r; exact ⟨_,.none⟩
 | _,_,_,.bl b,_,r=>by cases r; exact ⟨_,.bool b⟩
 | _,_,_,.int i,_,r=>by obtain ⟨t,rfl⟩:=r; exact ⟨_,.int i t⟩
 | _,_,_,.str x,_,r=>by obtain ⟨t,rfl⟩:=r; exact ⟨_,.str x t⟩
 | _,_,_,.tup e rs,hd,r=>by
  cases r
  obtain ⟨z,its,rv,o,h1,h2,n,h3⟩:=ok _ _ e
  obtain ⟨as,q⟩:=DnAll.reads ok rs (by simpa [PyData.hasDict] using hd) rv
  exact ⟨_,.tuple h1 h2 h3 (by simpa using q)⟩
 | _,_,_,.lst e rs,hd,r=>by
  cases r
  obtain ⟨z,its,n,rv,h1⟩:=ok _ _ e
  obtain ⟨as,q⟩:=DnAll.reads ok rs (by simpa [PyData.hasDict] using hd) rv
  exact ⟨_,.list h1 rfl rfl (by simpa using q)⟩
 | _,_,_,.dct e rs,hd,r=>by simp [PyData.hasDict] at hd
theorem DnAll.reads {P:Program} {w:World} {H:Hp} {h:Heap} (ok:HOk P w H h):∀ {vs:zi} {ds:ze} {us:zg},DnAll H vs ds->PyData.hasDictAll ds=false->Vals vs us->∃ as,ReadsAll h us ds as
 | _,_,_,.nil,_,r=>by cases r; exact ⟨_,.nil⟩
 | _,_,_,.cons p t,hd,r=>by
  cases r with
  | cons r1 r2 =>
   simp only [PyData.hasDictAll,Bool.or_eq_false_iff] at hd
   obtain ⟨as,q⟩:=Dn.reads ok p hd.1 r1
   obtain ⟨bs,q2⟩:=DnAll.reads ok t hd.2 r2
   exact ⟨_,.cons q q2⟩
end
section
variable {X:Cx}
theorem Zl3 {k:Nat} (hr:Room k X.A):OpR X (compareOp .Eq) (λx y H Q=>∃ d e,Dn H x d/\Dn H y e/\SeqAt.shaped d=true/\SeqAt.shaped e=true/\Q (.bl (PyData.eqv d e)) H):=by
 intro pins s σ H x y v u Q I rx ry h
 obtain ⟨d,e,hd,he,sd,se,q⟩:=h
 obtain ⟨as,r1⟩:=Dn.reads I.hok hd (xn _ (xw sd)) rx
 obtain ⟨bs,r2⟩:=Dn.reads I.hok he (xn _ (xw se)) ry
 exact SeqAt.compareEq_shaped r1 r2 sd se hr.units ⟨.bl _,H,I,rfl,q⟩
theorem ZlZ {k:Nat} (hr:Room k X.A):OpR X (compareOp .NotEq) (λx y H Q=>∃ d e,Dn H x d/\Dn H y e/\SeqAt.shaped d=true/\SeqAt.shaped e=true/\Q (.bl (!PyData.eqv d e)) H):=by
 intro pins s σ H x y v u Q I rx ry h
 obtain ⟨d,e,hd,he,sd,se,q⟩:=h
 obtain ⟨as,r1⟩:=Dn.reads I.hok hd (xn _ (xw sd)) rx
 obtain ⟨bs,r2⟩:=Dn.reads I.hok he (xn _ (xw se)) ry
 exact SeqAt.compareNe_shaped r1 r2 sd se hr.units ⟨.bl _,H,I,rfl,q⟩
theorem Zh8:dE X (.type "range") (λxs H Q=>∃ i j:Int,xs=[.int i,.int j]/\∀ p,H p=none->Q (.ref p) (upd H p (.rng i j))):=by
 intro pins s σ H xs us Q I r h
 obtain ⟨i,j,rfl,q⟩:=h
 cases r with
 | cons r1 rr =>
  cases rr with
  | cons r2 rr =>
   cases rr
   obtain ⟨t,rfl⟩:=r1
   obtain ⟨u,rfl⟩:=r2
   refine call_range_2 ?_
   exact ⟨.ref s.heap.objs.size,_,I.laid (t':=s.toks+1) (λb o e=>vc _ e) (vo _) (show ObjOk X.prog X.w _ _ _ (.rng i j) from ⟨t,u,s.toks,vn _ rfl⟩),rfl,q _ (I.hok.fresh (vo _))⟩
noncomputable def fK (lo:Int) (n:Nat):zi:=(List.range n).map λ(k:Nat)=>V.int (lo+(k:Int))
theorem Zjp (lo:Int):∀ (n:Nat) (l:zg),l.length=n->(∀ (j:Nat) (v:Value),l[j]?=some v->∃ t,v=Value.int (lo+(j:Int)) t)->Vals (fK lo n) l:=by
 intro n
 unfold fK
 induction n with
 | zero =>
  intro l hl _
  have e:l=[]:=List.length_eq_zero_iff.mp hl
  subst e
  exact .nil
 | succ n ih =>
  intro l hl hl2
  obtain ⟨l',x,rfl⟩:∃ l' x,l=l'++[x]:=⟨l.dropLast,l.getLast (by intro e; rw [e] at hl; cases hl),(List.dropLast_concat_getLast _).symm⟩
  have hl':l'.length=n:=by rw [v6] at hl; simpa using hl
  rw [xx,wC]
  refine Vals.append (ih l' hl' λj v hv=>hl2 j v (by rw [v8 (vf.mp hv).1]; exact hv)) (.cons ?_ .nil)
  obtain ⟨t,e⟩:=hl2 n x (by rw [v5 (by omega),hl',Nat.sub_self]; rfl)
  exact ⟨t,e⟩
end
end L2
set_option Elab.async false
set_option linter.all false
set_option maxRecDepth 100000
namespace L2
structure Def (K:yY) (mg:zj) (x:Str) (st:Stmt) (ps:zh):Prop where
 ex:∃ f fd,Fun K x x st f fd/\mg x=some (.ref f)/\Binds K fd ps []
structure Callee (P:Program) (w:World) (K:yY) (mg:zj) (base:Heap) (x:Str) (k:Nat) (ps:zh) (sp:Sp):Prop where
 ex:∃ f fd,FnOk P w K mg base hU k f fd ps sp/\mg x=some (.ref f)/\PySem.W.keepIn K (.ref f)=true/\Binds K fd ps []
section
variable {P:Program} {w:World} {K:yY} {mg:zj} {base:Heap}
theorem Def.ok {x:Str} {st:Stmt} {N ps:zh} {k:Nat} {sp:Sp} (D:Def K mg x st ps) (S:FnScope N ps (aL st)) (len:∀ vs H Q E,sp vs H Q E->vs.length=ps.length)
  (hbody:∀ (f:Addr) (cdv:Value) (A:Around) (outer:List Env) (s:Shared) (H:Hp) (vs:zi) (Q:VK) (E:XK),Room k (A.deeper (envOfC x (aL st) s.heap.objs.size f cdv))->sp vs H Q E ->
   ∃ t,PSs (gR hU P w K mg base N x (aL st) f cdv A outer s H E).nox (gv st) t/\t { nx:=λ_ H'=>Q .non H',rt:=Q } (start N vs) H):Callee P w K mg base x (k+1) ps sp:=by
 obtain ⟨f,fd,F,hm,hb⟩:=D.ex
 exact ⟨f,fd,F.ok S len λcdv A outer s H vs Q E hr h=>hbody f cdv A outer s H vs Q E hr h,hm,F.kp,hb⟩
theorem ZoC {x:Str} {st:Stmt} {ps:zh} {h:Heap} {f:Addr} {oc:Value} {od an:Option Addr} {osl:Array (Option Value)} {kV doc pm cdv ct:Value} (X:K.In h) (G:h.Ns mainGlobals mg)
  (a:PySem.W.nsIn K mainGlobals x=some (some (.ref f))) (l:K.lookup f=some ⟨oc,od,.func (PySem.W.fnOf x x (ky st) (gv st) (aL st) .none kV doc pm an cdv ct),osl⟩)
  (c:PySem.W.codeIn K cdv x=true) (k:PySem.W.keepIn K (.ref f)=true)
  (hb:∀ (kV doc pm:Value) (an:Option Addr) (cdv ct:Value) (us:zg),us.length=ps.length->bindArgs (PySem.W.fnOf x x (ky st) (gv st) (aL st) .none kV doc pm an cdv ct) ⟨us,[]⟩=pure (ps.zip us)):Def K mg x st ps:=by
 have F:=ZnT (st:=st) l c k
 exact ⟨f,_,F,PySem.W.mg_of X G a,F.binds hb⟩
end
section
variable {X:Cx} {x:Str} {k:Nat} {ps:zh} {sp:Sp} {e:Expr} {es:List Expr} {t:TA} {p pos:Pos}
theorem nL (C:Callee X.prog X.w X.K X.mg X.base x k ps sp) (hr:Room k X.A) (hg:Gl X x) (ha:PA X (e::es) t) (hdb:(x == ("__debug__":Str))=false:=by decide)
  (he:starEach (e::es) X.env=(false,eval e X.env)::starEach es X.env:=by rfl) (hpl:(backTo pos (starEach es X.env)).any (·.1)=false:=by rfl):PE X (.Call (.Name x p) (e::es) [] pos) (Zau sp [] E0 t):=by
 obtain ⟨f,fd,F,hm,hk,hb⟩:=C.ex
 exact ZlR F hr hg hm hk hb .nil ZlW ha hdb he hpl
theorem ZlN {i:Int} (hg:Gl X x) (h:∃ t,X.mg x=some (.int i t)) (hd:(x == ("__debug__":Str))=false:=by decide):PE X (.Name x pos) (tC (.int i)):=by
 obtain ⟨t,e⟩:=h
 exact ZlM hg e ⟨t,rfl⟩ hd
end
def ZjZ (t:TS):TS:=λD σ H=>∃ J:St->Hp->Prop,t { D with nx:=J } σ H/\∀ σ' H',J σ' H'->D.nx σ' H'
def ZjY (t:TT):TT:=λσ H Q=>∃ J:Bool->Hp->Prop,t σ H J/\∀ b H',J b H'->Q b H'
section
variable {X:Cx} {st:Stmt} {e:Expr}
theorem PS.join {t:TS} (h:PS X st t):PS X st (ZjZ t):=by
 rintro pins s σ H D I ⟨J,q,hJ⟩
 refine thn (h pins s σ H _ I q) λf s' z=>?_
 cases f with
 | next=>obtain ⟨σ',H',I',q'⟩:=z; exact ⟨σ',H',I',hJ _ _ q'⟩
 | brk=>exact z
 | cont=>exact z
 | ret u=>exact z
theorem PT.join {t:TT} (h:PT X e t):PT X e (ZjY t):=by
 rintro pins s σ H Q I ⟨J,q,hJ⟩
 refine thn (h pins s σ H _ I q) λb s' ⟨H',I',q'⟩=>⟨H',I',hJ _ _ q'⟩
end
section
variable {H:Hp} {p c:Addr} {a l b:Int}
end
def Kept (p:Addr) (H H':Hp):Prop:=∀ b o,H b=some o->b≠p->H' b=some o
theorem Kept.refl {p:Addr} {H:Hp}:Kept p H H:=λ_ _ h _=>h
theorem Kept.pen {p:Addr} {H H':Hp} {o:HO} (a:Kept p H H'):Kept p H (upd H' p o):=λc u h n=>by
 rw [aV n]
 exact a c u h n
theorem Same.new {q:Addr} {H H':Hp} {o:HO} (a:Same H H') (hq:H' q=none):Same H (upd H' q o):=λc u h=>by
 have e:=a c u h
 rw [aV (cT e hq)]
 exact e
theorem Za2 (ns:zf):SeqAt.shaped (.list (ns.map PyData.int))=true:=by
 have h1:PyData.canLayAll0 (ns.map PyData.int)=true:=by
  induction ns with
  | nil=>rfl
  | cons n r ih=>simp [PyData.canLayAll0,PyData.canLay0,ih]
 have h2:PyData.depthAll (ns.map PyData.int)=0:=by
  induction ns with
  | nil=>rfl
  | cons n r ih=>simp [PyData.depthAll,PyData.depth]; exact ih (by
    have:=h1
    simp [PyData.canLayAll0] at this
    exact this.2)
 simp [SeqAt.shaped,PyData.canLay0,PyData.depth,h1,h2]
end L2
set_option Elab.async false
set_option linter.all false
set_option maxRecDepth 100000
namespace L2
section
variable {prog:Program} {w:World} {A:Around} {E:zd} {s:Shared} {r:Addr} {a b c:Int} {t u v:Tok} {n:Nat}
theorem Zpz {Q:List Value->Shared->Prop} (hh:A.handled=none) (hr:IsRange s.heap r a b c t u v) (hs:Builtin.Range.small a b c=true) (hn:Builtin.Range.rangeSize a b c=n) (hl:n<=2 ^ 24)
  (hQ:∀ (h':Heap) (tk:Nat) (acc:Array Value),(∀ b o,s.heap.get? b=some o->h'.get? b=some o)->ItemsOf (λi v=>∃ t,v=.int (a+i * c) t) acc n->Q acc.toList { s with heap:=h',toks:=tk }):wpAny (model prog w) A (collect (.ref r)) Q E s:=by
 unfold collect; apply wpAny_bind; apply wpAny_runValue; refine codeAny_builtin F.entry_proto_collect ?_
 rw [wH F.plain_proto_collect _]
 show wpAny _ A.in1 (newList [] >>= λz=>again (.builtin "list.__iadd__" ⟨[z,.ref r],[]⟩)) _ _ s
 refine wpAny_bind (wpAny_newObj_type (wpAny_pure ⟨plainId_quiet F.plain_list_iadd _,codeAny_builtin F.entry_list_iadd ?_⟩))
 rw [wH F.plain_list_iadd _]
 show wpAny _ A.in1 (Builtin.List.listExtendWith (.ref s.heap.objs.size) (.ref r) (.ref s.heap.objs.size)) _ _ { s with heap:=s.heap.push { cls:=.type "list",data:=.seq ([]:zg).toArray } }
 let R:Result->Shared->Prop:=λz s'=>match z with
  | .ok (.ret v)=>wpAny (model prog w) A (match v with
   | .ref q=>(do match (<- load q).data with
    | .seq xs _=>pure xs.toList
    | _=>unsupported "internal:collect")
   | _=>unsupported "internal:collect") Q E s'
  | .ok _=>False
  | .error e=>E e s'
 refine wpAny_extend_range (R:=R) (s:={ s with heap:=s.heap.push { cls:=.type "list",data:=.seq ([]:zg).toArray } }) hh (vc _ hr) hs hn hl _ _ _ (show (s.heap.push { cls:=.type "list",data:=.seq ([]:zg).toArray }).get? s.heap.objs.size=some { cls:=.type "list",data:=.seq #[] } from vn _ rfl) λh' tk acc c' hk hS hacc=>?_
 show wpAny _ A (load s.heap.objs.size >>= _) _ _ { s with heap:=h',toks:=tk }
 exact wpAny_bind (wpAny_load hS (wpAny_pure (hQ h' tk acc (λb o e=>hk b o (vM (vE e)) (vc _ e)) hacc)))
theorem ZjB {Q:zd} (hh:A.handled=none) (hr:IsRange s.heap r a b c t u v) (hs:Builtin.Range.small a b c=true) (hn:Builtin.Range.rangeSize a b c=n) (hl:n<=2 ^ 24)
  (hQ:∀ (h':Heap) (tk:Nat) (acc:Array Value),(∀ b o,s.heap.get? b=some o->h'.get? b=some o)->ItemsOf (λi v=>∃ t,v=.int (a+i * c) t) acc n->Q (.ref h'.objs.size) { s with heap:=h'.push { cls:=.type "tuple",data:=.seq acc },toks:=tk }) :
  wpAny (model prog w) A (call (.type "tuple") [.ref r]) Q E s:=by
 refine callType_codes (Q₁:=λz s1=>s1.TypeIs z "tuple"/\Q z s1) F.called_tuple (F.typeCall_tuple_1 _) F.entry_object_init ?_ λz s1 h1=>?_
 ·apply codeAny_of_tree
  show wpAny _ A.in1.in1 (do checkBuiltinCall "tuple.__new__" ⟨[.type "tuple",.ref r],[]⟩; again (.builtin "tuple.__new__" ⟨[.type "tuple",.ref r],[]⟩)) _ _ s
  refine wpAny_bind (wpAny_of_eq (F.newCall_tuple_1 _) (wpAny_pure ⟨plainId_quiet F.plain_tuple_new _,codeAny_builtin F.entry_tuple_new ?_⟩))
  rw [wH F.plain_tuple_new _]
  have f1:=sub_tuple_self; have f2:=init_tuple_lookup; have f3:=madeHere_tuple
  have fT:s.TypeIs (.ref r) "range":=⟨_,hr,rfl⟩
  wp_walk using wpAny_typeOf fT,Zpz (A:=A.in1.in1) hh hr hs hn hl
  intro h' tk acc hk hacc
  show wpAny _ _ (Builtin.Tuple.tupleExact acc.toList.toArray >>= λz=>ret z) _ _ _
  unfold Builtin.Tuple.tupleExact
  have e:acc.toList.toArray=acc:=by simp
  rw [e]
  refine wpAny_bind (wpAny_newObj_type (wpAny_pure ⟨⟨_,vn _ rfl,rfl⟩,hQ h' tk acc hk hacc⟩) ?_)
  show acc.size<=sizeLine
  rw [hacc.1,sizeLine_eq]
  exact hl
 ·exact ⟨h1.1,yw z _,object_init_meets F.called_tuple.init.lookup F.called_tuple.made (by decide) prog w A.in1 _ s1 ⟨h1.1,rfl,h1.2⟩⟩
end
section
variable {X:Cx}
theorem ZpJ (hh:X.A.handled=none):dE X (.type "tuple") (λxs H Q=>∃ a lo hi,xs=[.ref a]/\H a=some (.rng lo hi)/\-(2 ^ 62)<=lo/\lo < 2 ^ 62/\-(2 ^ 62)<=hi/\hi < 2 ^ 62/\(hi - lo).toNat<=1000/\∀ p,H p=none->Q (.ref p) (upd H p (.tup (fK lo (hi - lo).toNat)))):=by
 intro pins s σ H xs us Q I r h
 obtain ⟨a,lo,hi,rfl,ha,b1,b2,b3,b4,hn,q⟩:=h
 obtain ⟨u,rfl,ru⟩:=fi r
 cases ru
 obtain ⟨t,u,v,e⟩:=I.hok a _ ha
 have hsz:Builtin.Range.rangeSize lo hi 1=(((hi - lo).toNat:Nat):Int):=by rw [rangeSize_one]; split <;> omega
 refine ZjB hh (r:=a) (t:=t) (u:=u) (v:=v) e (small_one b1 b2 b3 b4) hsz (by omega) λh' tk acc hk hacc=>?_
 have I1:Inv X pins σ H { s with heap:=h',toks:=tk }:=I.kept hk
 have hv:Vals (fK lo (hi - lo).toNat) acc.toList:=Zjp lo _ _ (by simpa using hacc.1) λj v hv=>by
  obtain ⟨t,e⟩:=hacc.2 j v (by simpa using hv)
  exact ⟨t,by rw [e,xU]⟩
 have hz:(fK lo (hi - lo).toNat).length<=sizeLine:=by
  unfold fK
  rw [vd,v9]
  exact vS hn (by decide)
 refine ⟨.ref h'.objs.size,_,I1.laid (h':=h'.push { cls:=.type "tuple",data:=.seq acc }) (t':=tk) (λb o e=>vc _ e) (vo _) (show ObjOk X.prog X.w _ _ _ (.tup (fK lo (hi - lo).toNat)) from ⟨hz,acc.toList,hv,⟨_,vn _ rfl,rfl,0,by simp⟩⟩),rfl,q _ (I1.hok.fresh (vo _))⟩
theorem sH:fillsNumberSlot (.type "tuple") "mul"=pure false :=
 PySem.fillsNumberSlot_seq (id:="tuple.__mul__") (r:=some (.builtin "tuple.__rmul__")) PySem.F.slot_tuple_mul.lookup (by trivial) PySem.F.slot_tuple_rmul.lookup (by trivial)
theorem rG:seqRepeat? (.type "tuple")=pure (some (.builtin "tuple.__mul__")):=by
 unfold seqRepeat?
 rw [PySem.seqSlot_of (T:="tuple") (name:="__mul__") (id:="tuple.__mul__") PySem.F.slot_tuple_mul.lookup (by trivial),PySem.seqSlot_of (T:="tuple") (name:="__rmul__") (id:="tuple.__rmul__") PySem.F.slot_tuple_rmul.lookup (by trivial)]; rfl
theorem rF (x:Int) (t:Tok) (l:Addr) (items:Array Value) (n:Nat) (dd:Option Addr) (sl:Array (Option Value)) :
  Meets (Builtin.«int.__rmul__» ⟨[.int x t,.ref l],[]⟩) (λ_ R s=>s.heap.get? l=some { cls:=.type "tuple",dict:=dd,data:=.seq items n,slots:=sl }/\R (.ok (.ret Value.notImplemented)) s):=by
 refine .of_wp λprog w A R s h=>?_
 obtain ⟨hp,g,d,tk,os⟩:=s
 obtain ⟨hl,h⟩:=h
 wp_walk
 exact ⟨_,rfl,h⟩
theorem ZmB (x:Int) (t:Tok) (l:Addr) (items:Array Value) (n:Nat) (dd:Option Addr) (sl:Array (Option Value)) (h1:1 < x) (h2:x<=1000) (h3:items.isEmpty=false) (h4:items.size<=1000) :
  Meets (Builtin.«tuple.__mul__» ⟨[.ref l,.int x t],[]⟩) (λ_ R s=>s.heap.get? l=some { cls:=.type "tuple",dict:=dd,data:=.seq items n,slots:=sl } /\
   R (.ok (.ret (.ref s.heap.objs.size))) { s with heap:=s.heap.push { cls:=.type "tuple",data:=.seq ((List.replicate x.toNat items).foldl (·++·) #[]) } }):=by
 refine .of_wp λprog w A R s h=>?_
 obtain ⟨hp,g,d,tk,os⟩:=s
 obtain ⟨hl,h⟩:=h
 have hp0:0<=(items.size:Int) * x:=wA (by omega) (by omega)
 have hp1:(items.size:Int) * x<=1000 * 1000:=Int.mul_le_mul (by omega) h2 (by omega) (by omega)
 have hne:items.size≠0:=λe=>by simp [Array.isEmpty,e] at h3
 wp_walk
 refine wpAny_ite_split (λz=>absurd z (by simp; omega)) (λ_=>?_)
 refine wpAny_bind ?_
 unfold Builtin.Tuple.tupleItemsOf
 refine wpAny_bind (wpAny_seqItems hl rfl (wpAny_pure ?_))
 refine wpAny_ite_split (λz=>absurd z (by rw [h3]; simp; omega)) (λ_=>?_)
 refine wpAny_ite_split (λz=>absurd z (by rw [h3]; simp; omega)) (λ_=>?_)
 refine wpAny_ite_split (λz=>absurd z (by omega)) (λ_=>?_)
 refine wpAny_ite_split (λz=>absurd z (by unfold Builtin.Tuple.tupleTooMany; rw [sizeLine_eq]; simp; omega)) (λ_=>?_)
 unfold Builtin.Tuple.tupleExact
 have hlen:∀ k:Nat,((List.replicate k items).foldl (·++·) #[]).size=k * items.size:=λk=>by
  have key:∀ (k:Nat) (acc:Array Value),((List.replicate k items).foldl (·++·) acc).size=acc.size+k * items.size:=by
   intro k
   induction k with
   | zero=>intro acc; simp
   | succ k ih =>
    intro acc
    rw [vP,yD,ih,Array.size_append,x6]
    omega
  simpa using key k #[]
 refine wpAny_bind (wpAny_newObj_type (wpAny_pure ⟨_,rfl,h⟩) ?_)
 show ((List.replicate x.toNat items).foldl (·++·) #[]).size<=sizeLine
 rw [hlen,sizeLine_eq]
 have hx:x.toNat<=1000:=by omega
 exact vS (yi hx h4) (by decide)
noncomputable def rM (K:yY):R2:=λx y H Q=>∃ a k xs,x=.ref a/\y=.int k/\SqT K H a xs/\1 < k/\k<=1000/\xs≠[]/\xs.length<=1000/\∀ p,H p=none->Q (.ref p) (upd H p (.tup (List.replicate k.toNat xs).flatten))
theorem Zal {xs:zi} {us:zg} (r:Vals xs us):∀ k:Nat,Vals (List.replicate k xs).flatten (List.replicate k us).flatten
 | 0=>.nil
 | k+1=>by
  rw [vP,vP,wa,wa]
  exact r.append (Zal r k)
theorem ZcN:OpR X (binaryOp .Mult) (rM X.K):=by
 intro pins s σ H x y v u Q I rx ry h
 obtain ⟨a,k,xs,rfl,rfl,hq,h1,h2,hne,hl,q⟩:=h
 cases rx
 obtain ⟨t,rfl⟩:=ry
 obtain ⟨its,rv,p,hz⟩:=I.tuple hq
 obtain ⟨o,ho,hc,n,hd⟩:=p
 obtain ⟨oc,od,odd,osl⟩:=o
 have hc':oc=.type "tuple":=hc
 have hd':odd=.seq its.toArray n:=hd
 subst hc' hd'
 have hlen:=rv.length
 have hemp:its.toArray.isEmpty=false:=by
  cases its with
  | nil=>cases rv; exact absurd rfl hne
  | cons i r=>rfl
 have efl:(List.replicate k.toNat its.toArray).foldl (·++·) #[]=(List.replicate k.toNat its).flatten.toArray:=by
  have key:∀ (k:Nat) (acc:Array Value),(List.replicate k its.toArray).foldl (·++·) acc=acc++(List.replicate k its).flatten.toArray:=by
   intro k
   induction k with
   | zero=>intro acc; simp
   | succ k ih =>
    intro acc
    rw [vP,yD,ih,vP,wa]
    simp
  simpa using key k.toNat #[]
 refine wpAny_binaryOp_repeat_ref (T:="tuple") (U:="int") (by decide) ⟨_,ho,rfl⟩ (λs'=>typeIs_int s' k t) sH x0 wM rG PySem.F.slot_int_index.lookup ?_
 refine call_meets wM (typeIs_int s k t) xZ (xS _ _) (rF k t a its.toArray n od osl) ⟨ho,rfl,⟨_,ho,rfl⟩,?_⟩
 refine call_meets xX ⟨_,ho,rfl⟩ xQ (xL _ _) (ZmB k t a its.toArray n od osl h1 h2 hemp (by rw [vq]; omega)) ⟨ho,?_⟩
 rw [efl]
 have hzz:(List.replicate k.toNat xs).flatten.length<=sizeLine:=by
  have hx:k.toNat<=1000:=by omega
  have e:(List.replicate k.toNat xs).flatten.length=k.toNat * xs.length:=by simp
  rw [e,sizeLine_eq]
  exact vS (yi hx hl) (by decide)
 exact ⟨.ref s.heap.objs.size,_,I.laid (t':=s.toks) (λb o e=>vc _ e) (vo _) (show ObjOk X.prog X.w _ _ _ (.tup (List.replicate k.toNat xs).flatten) from ⟨hzz,_,Zal rv k.toNat,IsTup.new _ _⟩),rfl,q _ (I.hok.fresh (vo _))⟩
end
end L2
set_option Elab.async false
set_option linter.all false
set_option maxRecDepth 100000
namespace L2
noncomputable def aG (lo:Int) (n:Nat):zf:=(List.range n).map λ(k:Nat)=>lo+(k:Int)
theorem Zla (lo:Int) (n:Nat):fK lo n=(aG lo n).map V.int:=by
 unfold fK aG
 rw [vH]
 rfl
theorem fY (lo:Int) (n:Nat):(aG lo n).length=n:=by
 unfold aG
 rw [vd,v9]
theorem nq {lo x:Int} {n:Nat} (h:x∈aG lo n):lo<=x/\x < lo+n:=by
 unfold aG at h
 obtain ⟨k,hk,rfl⟩:=wv.mp h
 have:=v7.mp hk
 omega
end L2
set_option Elab.async false
set_option linter.all false
set_option maxRecDepth 100000
namespace L2
def CMulG (i j:Int):Prop:=i.natAbs < 2 ^ 8000/\j.natAbs < 2 ^ 8000
def Zi8 (i j:Int):Prop:=j≠0/\j.natAbs < 2 ^ 8000
theorem Zis {x:Int} (h:x.natAbs < 2 ^ 8000):Builtin.Int.intBits x<=8000:=by
 unfold Builtin.Int.intBits
 split
 ·exact xg _
 ·rename_i hx
  have h0:x.natAbs≠0:=by
   intro z
   have e:x=0:=Int.natAbs_eq_zero.mp z
   rw [e] at hx
   exact hx rfl
  exact (Nat.log2_lt h0).mpr h
theorem CMulG.ok {i j:Int} (h:CMulG i j):IntMulOk i j:=by
 have h1:=Zis h.1
 have h2:=Zis h.2
 unfold IntMulOk
 have e:Builtin.Int.intTooBig ((Builtin.Int.intBits i+Builtin.Int.intBits j:Nat):Int)=false:=by
  unfold Builtin.Int.intTooBig
  refine decide_eq_false ?_
  have hb:((16000:Nat):Int)<=(bitsLine:Int):=by decide
  omega
 intro z
 rw [vU] at z
 have z2:Builtin.Int.intTooBig ((Builtin.Int.intBits i+Builtin.Int.intBits j:Nat):Int)=true:=z.2
 rw [e] at z2
 cases z2
section
variable {X:Cx}
theorem Zl1:OpR X (binaryOp .Mult) (rI CMulG λi j=>.int (i * j)):=ii λ_ _ _ _ _ _ _ hc q=>mul_int q hc.ok
theorem iW:OpR X (binaryOp .FloorDiv) (rI Zi8 λi j=>.int (i.fdiv j)):=ii λi j _ _ _ _ _ hc q=>by
 refine floordiv_int hc.1 q (.inl (PyProof.noPylong_of_log2 ?_))
 by_cases h0:j.natAbs=0
 ·exact absurd (Int.natAbs_eq_zero.mp h0) hc.1
 ·exact Nat.lt_trans ((Nat.log2_lt h0).mpr hc.2) (by decide)
theorem Zl2:OpR X (compareOp .IsNot) (λx y H Q=>∃ a b,x=.bl a/\y=.bl b/\Q (.bl (!(a == b))) H):=by
 intro pins s σ H x y v u Q I rx ry h
 obtain ⟨a,b,rfl,rfl,q⟩:=h
 cases rx
 cases ry
 refine wpAny_isNot_plain rfl ⟨.bl (!(a == b)),H,I,?_,q⟩
 cases a <;> cases b <;> rfl
theorem kA:dE X (.builtin "isinstance") (λxs H Q=>∃ x T t b,xs=[x,.ty T]/\TyOf X.K H x t/\PySem.W.kitOne X.K t (.type T)=some b/\Q (.bl b) H):=by
 intro pins s σ H xs us Q I r h
 obtain ⟨x,T,t,b,rfl,ty,e,q⟩:=h
 obtain ⟨u,c,rfl,ru,rc⟩:=mT r
 cases rc
 exact Znt I ru ty e λtk=>⟨.bl b,H,I.tok tk,rfl,q⟩
end
end L2
set_option Elab.async false
set_option linter.all false
set_option maxRecDepth 100000
namespace Gc
noncomputable def iu (a b:Int):Int:=((Nat.gcd a.natAbs b.natAbs:Nat):Int)
noncomputable def den (t b:Int):Int:=if b < 0 then -iu t b else iu t b
noncomputable def bU (t b:Int):Int:=t.fdiv (den t b)
noncomputable def bQ (t b:Int):Int:=b.fdiv (den t b)
theorem tH {t b:Int} (h:b≠0):0 < Nat.gcd t.natAbs b.natAbs:=yR _ (by omega)
theorem me {t b:Int} (h:b≠0):den t b≠0:=by
 have:=tH (t:=t) h
 unfold den iu
 split <;> omega
theorem t5 (t b:Int):(den t b).natAbs=Nat.gcd t.natAbs b.natAbs:=by
 unfold den iu
 split <;> omega
theorem lX {t b:Int} (h:b≠0):t=den t b * bU t b/\b=den t b * bQ t b/\0 < bQ t b/\Nat.gcd (bU t b).natAbs (bQ t b).natAbs=1:=by
 have hd:=me (t:=t) h
 have ha:=t5 t b
 have hg:=tH (t:=t) h
 have d1:den t b ∣ t:=Int.natAbs_dvd_natAbs.mp (by rw [ha]; exact Nat.gcd_dvd_left _ _)
 have d2:den t b ∣ b:=Int.natAbs_dvd_natAbs.mp (by rw [ha]; exact Nat.gcd_dvd_right _ _)
 obtain ⟨x,hx⟩:=d1
 obtain ⟨y,hy⟩:=d2
 have e1:bU t b=x:=by
  show t.fdiv (den t b)=x
  generalize den t b=d at hd hx
  rw [hx]
  exact yU _ hd
 have e2:bQ t b=y:=by
  show b.fdiv (den t b)=y
  generalize den t b=d at hd hy
  rw [hy]
  exact yU _ hd
 rw [e1,e2]
 refine ⟨hx,hy,?_,?_⟩
 ·have hb:(0 < b/\0 < den t b)\/(b < 0/\den t b < 0):=by
   unfold den iu
   split <;> omega
  rcases hb with ⟨p,q⟩ | ⟨p,q⟩
  ·rcases (show 0 < y\/y<=0 by omega) with z | z
   ·exact z
   ·exfalso
    have:=wA (vG q) (show 0<=-y by omega)
    rw [Int.mul_neg,<- hy] at this
    omega
  ·rcases (show 0 < y\/y<=0 by omega) with z | z
   ·exact z
   ·exfalso
    have:=wA (show 0<=-den t b by omega) (show 0<=-y by omega)
    rw [Int.neg_mul_neg,<- hy] at this
    omega
 ·have h1:t.natAbs=Nat.gcd t.natAbs b.natAbs * x.natAbs:=by
   have:=congrArg Int.natAbs hx
   rw [wP,ha] at this
   exact this
  have h2:b.natAbs=Nat.gcd t.natAbs b.natAbs * y.natAbs:=by
   have:=congrArg Int.natAbs hy
   rw [wP,ha] at this
   exact this
  have h3:Nat.gcd t.natAbs b.natAbs=Nat.gcd t.natAbs b.natAbs * Nat.gcd x.natAbs y.natAbs:=by
   rw [<- Nat.gcd_mul_left,<- h1,<- h2]
  have h4:Nat.gcd t.natAbs b.natAbs * 1=Nat.gcd t.natAbs b.natAbs * Nat.gcd x.natAbs y.natAbs:=by rw [Nat.mul_one]; exact h3
  exact (Nat.eq_of_mul_eq_mul_left hg h4).symm
theorem ZmU {t b:Int} (h:b≠0):(bU t b).natAbs<=t.natAbs/\(bQ t b).natAbs<=b.natAbs:=by
 obtain ⟨h1,h2,_,_⟩:=lX (t:=t) h
 have hg:=tH (t:=t) h
 have ha:=t5 t b
 constructor
 ·have e:=congrArg Int.natAbs h1
  rw [wP,ha] at e
  rw [e]
  exact Nat.le_mul_of_pos_left _ hg
 ·have e:=congrArg Int.natAbs h2
  rw [wP,ha] at e
  rw [e]
  exact Nat.le_mul_of_pos_left _ hg
theorem ZmT {t b u c:Int} (hb:0 < b) (hc:0 < c) (g1:Nat.gcd t.natAbs b.natAbs=1) (g2:Nat.gcd u.natAbs c.natAbs=1) (h:t * c=u * b):t=u/\b=c:=by
 have k1:b.natAbs ∣ c.natAbs:=by
  have d:b.natAbs ∣ t.natAbs * c.natAbs:=⟨u.natAbs,by rw [<- wP,h,wP,Nat.mul_comm]⟩
  exact yv (show Nat.Coprime b.natAbs t.natAbs by unfold Nat.Coprime; rw [x9]; exact g1) d
 have k2:c.natAbs ∣ b.natAbs:=by
  have d:c.natAbs ∣ u.natAbs * b.natAbs:=⟨t.natAbs,by rw [<- wP,<- h,wP,Nat.mul_comm]⟩
  exact yv (show Nat.Coprime c.natAbs u.natAbs by unfold Nat.Coprime; rw [x9]; exact g2) d
 have e:b=c:=by
  have:=Nat.dvd_antisymm k1 k2
  omega
 subst e
 exact ⟨wy (by omega) h,rfl⟩
end Gc
set_option Elab.async false
set_option linter.all false
set_option maxRecDepth 100000
namespace L2
end L2
set_option Elab.async false
set_option linter.all false
set_option maxRecDepth 100000
namespace L2
end L2
set_option Elab.async false
set_option linter.all false
set_option maxRecDepth 100000
namespace L2
inductive Tr (α:Type) where
 | ret (a:α)
 | draw (n:Int) (k:Int->Tr α)
 | fail
namespace Tr
variable {α β γ:Type}
noncomputable def bind:Tr α->(α->Tr β)->Tr β
 | .ret a,f=>f a
 | .draw n k,f=>.draw n λr=>(k r).bind f
 | .fail,_=>.fail
@[simp] theorem ret_bind (a:α) (f:α->Tr β):(Tr.ret a).bind f=f a:=rfl
@[simp] theorem draw_bind (n:Int) (k:Int->Tr α) (f:α->Tr β):(Tr.draw n k).bind f=.draw n λr=>(k r).bind f:=rfl
@[simp] theorem fail_bind (f:α->Tr β):(Tr.fail:Tr α).bind f=.fail:=rfl
@[simp] theorem bind_assoc:∀ (t:Tr α) (f:α->Tr β) (g:β->Tr γ),(t.bind f).bind g=t.bind λa=>(f a).bind g
 | .ret a,f,g=>rfl
 | .draw n k,f,g=>by simp only [draw_bind]; congr 1; funext r; exact bind_assoc (k r) f g
 | .fail,f,g=>rfl
noncomputable def of:Option α->Tr α
 | some a=>.ret a
 | none=>.fail
@[simp] theorem of_some (a:α):Tr.of (some a)=.ret a:=rfl
@[simp] theorem of_none:Tr.of (none:Option α)=.fail:=rfl
noncomputable def ok:Tr α->Nat->(Nat->α->Prop)->Prop
 | .ret a,m,Q=>Q m a
 | .draw n k,m,Q=>m < 400000/\0 < n/\n < 1073741824/\∀ r,0<=r->r < n->(k r).ok (m+1) Q
 | .fail,_,_=>False
theorem ok_mono:∀ {t:Tr α} {m:Nat} {Q Q':Nat->α->Prop},t.ok m Q->(∀ m a,Q m a->Q' m a)->t.ok m Q'
 | .ret a,m,_,_,h,hq=>hq m a h
 | .draw n k,m,_,_,⟨h1,h2,h3,h⟩,hq=>⟨h1,h2,h3,λr h0 h1=>ok_mono (h r h0 h1) hq⟩
theorem ok_bind:∀ {t:Tr α} {f:α->Tr β} {m:Nat} {Q:Nat->β->Prop},(t.bind f).ok m Q ↔ t.ok m λm' a=>(f a).ok m' Q
 | .ret a,f,m,Q=>Iff.rfl
 | .draw n k,f,m,Q=>by
  show (_/\_/\_/\∀ r,_) ↔ (_/\_/\_/\∀ r,_)
  refine and_congr_right λ_=>and_congr_right λ_=>and_congr_right λ_=>forall_congr' λr=>forall_congr' λ_=>forall_congr' λ_=>ok_bind
 | .fail,f,m,Q=>Iff.rfl
theorem ok_of {o:Option α} {m:Nat} {Q:Nat->α->Prop} (h:(Tr.of o).ok m Q):∃ a,o=some a/\Q m a:=by
 cases o with
 | none=>exact h.elim
 | some a=>exact ⟨a,rfl,h⟩
noncomputable def all:Tr α->Nat->(α->Prop)->Prop
 | .ret a,_,P=>P a
 | .draw w k,n+1,P=>0 < w/\w < 1073741824/\∀ r,0<=r->r < w->(k r).all n P
 | .draw _ _,0,_=>False
 | .fail,_,_=>False
theorem all_ok:∀ {t:Tr α} {n m:Nat} {P:α->Prop},t.all n P->m+n<=400000->t.ok m λm' a=>m'<=m+n/\P a
 | .ret a,n,m,P,h,hm=>⟨by omega,h⟩
 | .draw w k,n+1,m,P,⟨h1,h2,h⟩,hm=>⟨by omega,h1,h2,λr a b=>ok_mono (all_ok (h r a b) (by omega)) λm' x hz0=>by
  obtain ⟨p,q⟩:=hz0
  exact ⟨by omega,q⟩⟩
theorem all_mono:∀ {t:Tr α} {n n':Nat} {P P':α->Prop},t.all n P->n<=n'->(∀ a,P a->P' a)->t.all n' P'
 | .ret a,n,n',P,P',h,hn,hp=>hp a h
 | .draw w k,n+1,n'+1,P,P',⟨h1,h2,h⟩,hn,hp=>⟨h1,h2,λr a b=>all_mono (h r a b) (by omega) hp⟩
 | .draw w k,n+1,0,P,P',h,hn,hp=>by omega
theorem all_bind:∀ {t:Tr α} {f:α->Tr β} {n n':Nat} {P:α->Prop} {P':β->Prop},t.all n P->(∀ a,P a->(f a).all n' P')->(t.bind f).all (n+n') P'
 | .ret a,f,n,n',P,P',h,hf=>all_mono (hf a h) (by omega) λ_ x=>x
 | .draw w k,f,n+1,n',P,P',⟨h1,h2,h⟩,hf=>by
  have e:n+1+n'=(n+n')+1:=by omega
  rw [e]
  exact ⟨h1,h2,λr a b=>all_bind (h r a b) hf⟩
end Tr
abbrev Sub (G H:Hp):Prop:=∀ b o,G b=some o->H b=some o
structure Pk where
 is:HO->Hp->Nat->Prop
 mono:∀ {o:HO} {G G':Hp} {m:Nat},Sub G G'->is o G m->is o G' m
structure Wd (PK:Pk) (pa:Addr) (m:Nat) (G H:Hp):Prop where
 sub:Sub G H
 gpa:G pa=none
 pen:∃ o,H pa=some o/\PK.is o G m
structure Stp (pa:Addr) (G H G' H':Hp):Prop where
 gs:Sub G G'
 gn:∀ b o,G' b=some o->G b=some o\/H b=none
 hk:∀ b o,H b=some o->b≠pa->H' b=some o
theorem Stp.refl {pa:Addr} {G H:Hp}:Stp pa G H G H:=⟨λ_ _ h=>h,λ_ _ h=>.inl h,λ_ _ h _=>h⟩
theorem Stp.trans {pa:Addr} {G H G1 H1 G2 H2:Hp} (a:Stp pa G H G1 H1) (b:Stp pa G1 H1 G2 H2) (hp:∃ o,H1 pa=some o):Stp pa G H G2 H2:=by
 refine ⟨λc o h=>b.gs c o (a.gs c o h),λc o h=>?_,λc o h n=>b.hk c o (a.hk c o h n) n⟩
 rcases b.gn c o h with z | z
 ·exact a.gn c o z
 ·refine .inr ?_
  cases e:H c with
  | none=>rfl
  | some u =>
   by_cases hc:c=pa
   ·subst hc
    obtain ⟨o',z'⟩:=hp
    rw [z'] at z; cases z
   ·rw [a.hk c u e hc] at z; cases z
section
variable {PK:Pk} {pa:Addr} {m:Nat} {G H:Hp}
theorem Wd.some (w:Wd PK pa m G H):∃ o,H pa=some o:=let ⟨o,h,_⟩:=w.pen; ⟨o,h⟩
theorem Wd.ne (w:Wd PK pa m G H) {p:Addr} (hp:H p=none):pa≠p:=λe=>by
 obtain ⟨o,h⟩:=w.some
 rw [e,hp] at h; cases h
theorem Sub.new {p:Addr} {o:HO} (hp:G p=none):Sub G (upd G p o):=λb u h=>by rw [aV (cT h hp)]; exact h
theorem Wd.gnone (w:Wd PK pa m G H) {p:Addr} (hp:H p=none):G p=none:=by
 cases e:G p with
 | none=>rfl
 | some o=>rw [w.sub p o e] at hp; cases hp
theorem Sub.upd2 {p:Addr} {o:HO} (s:Sub G H):Sub (upd G p o) (upd H p o):=λb u h=>by
 by_cases e:b=p
 ·subst e; rw [ce] at h ⊢; exact h
 ·rw [aV e] at h ⊢; exact s b u h
theorem Wd.new (w:Wd PK pa m G H) {p:Addr} {o:HO} (hp:H p=none):Wd PK pa m (upd G p o) (upd H p o)/\Stp pa G H (upd G p o) (upd H p o):=by
 have hg:=w.gnone hp
 have hne:=w.ne hp
 refine ⟨⟨w.sub.upd2,by rw [aV hne]; exact w.gpa,?_⟩,⟨Sub.new hg,λb u h=>?_,λb u h _=>by rw [aV (cT h hp)]; exact h⟩⟩
 ·obtain ⟨u,h,q⟩:=w.pen
  exact ⟨u,by rw [aV hne]; exact h,PK.mono (Sub.new hg) q⟩
 ·by_cases e:b=p
  ·subst e; exact .inr hp
  ·rw [aV e] at h; exact .inl h
theorem Wd.own (w:Wd PK pa m G H) {p:Addr} {o:HO} (hp:H p=none):Wd PK pa m G (upd H p o)/\Stp pa G H G (upd H p o):=by
 have hne:=w.ne hp
 refine ⟨⟨λb u h=>by rw [aV (cT (w.sub b u h) hp)]; exact w.sub b u h,w.gpa,?_⟩,⟨λ_ _ h=>h,λ_ _ h=>.inl h,λb u h _=>by rw [aV (cT h hp)]; exact h⟩⟩
 obtain ⟨u,h,q⟩:=w.pen
 exact ⟨u,by rw [aV hne]; exact h,q⟩
theorem Wd.freeze (w:Wd PK pa m G H) {p:Addr} {o:HO} (hp:H p=Option.some o) (hg:G p=none) (hne:pa≠p):Wd PK pa m (upd G p o) H:=by
 refine ⟨λb u h=>?_,by rw [aV hne]; exact w.gpa,?_⟩
 ·by_cases e:b=p
  ·subst e; rw [ce] at h; rw [hp]; exact h
  ·rw [aV e] at h; exact w.sub b u h
 ·obtain ⟨u,h,q⟩:=w.pen
  exact ⟨u,h,PK.mono (Sub.new hg) q⟩
def Kn (PK:Pk) (pa:Addr) (m:Nat) (G H:Hp) (x:PyData) (Q:VK):Prop:=∀ v G' H',Stp pa G H G' H'->Wd PK pa m G' H'->Dn G' v x->Q v H'
variable {x:PyData} {Q:VK} {v:V} {vs:zi} {ds:ze} {p:Addr}
theorem Kn.here (k:Kn PK pa m G H x Q) (w:Wd PK pa m G H) (d:Dn G v x):Q v H:=k v G H .refl w d
theorem Kn.tup (k:Kn PK pa m G H (.tuple ds) Q) (w:Wd PK pa m G H) (d:DnAll G vs ds) (hp:H p=none):Q (.ref p) (upd H p (.tup vs)):=by
 obtain ⟨w1,s1⟩:=w.new (o:=.tup vs) hp
 exact k _ _ _ s1 w1 (.tup ce (DnAll.mono s1.gs d))
theorem Kn.lst (k:Kn PK pa m G H (.list ds) Q) (w:Wd PK pa m G H) (d:DnAll G vs ds) (hp:H p=none):Q (.ref p) (upd H p (.lst vs)):=by
 obtain ⟨w1,s1⟩:=w.new (o:=.lst vs) hp
 exact k _ _ _ s1 w1 (.lst ce (DnAll.mono s1.gs d))
theorem Kn.later {G1 H1:Hp} (k:Kn PK pa m G H x Q) (s:Stp pa G H G1 H1) (hp:∃ o,H1 pa=Option.some o):Kn PK pa m G1 H1 x Q:=λv G' H' s' w d=>k v G' H' (s.trans s' hp) w d
end
inductive Sl where
 | un | d (x:PyData) | own (xs:ze) | pen | dic (kvs:List (Int×PyData))
inductive KD (G:Hp):List (aM×V)->List (Int×PyData)->Prop
 | nil:KD G [] []
 | cons {i:Int} {v:V} {d:PyData} {ks:List (aM×V)} {kvs:List (Int×PyData)}:Dn G v d->KD G ks kvs->KD G ((.inl i,v)::ks) ((i,d)::kvs)
theorem KD.mono {G G':Hp} (s:Sub G G') {ks:List (aM×V)} {kvs:List (Int×PyData)} (h:KD G ks kvs):KD G' ks kvs:=by
 induction h with
 | nil=>exact .nil
 | cons h _ ih=>exact .cons (h.mono s) ih
inductive SlOk (pa:Addr) (H₀ G H:Hp):Option V->Sl->Prop
 | un {o:Option V}:SlOk pa H₀ G H o .un
 | d {v:V} {x:PyData}:Dn G v x->SlOk pa H₀ G H (some v) (.d x)
 | own {p:Addr} {vs:zi} {xs:ze}:H p=some (.lst vs)->G p=none->H₀ p=none->DnAll G vs xs->SlOk pa H₀ G H (some (.ref p)) (.own xs)
 | pen:SlOk pa H₀ G H (some (.ref pa)) .pen
 | dic {p:Addr} {ks:List (aM×V)} {kvs:List (Int×PyData)}:H p=some (.dK ks)->G p=none->H₀ p=none->KD G ks kvs->SlOk pa H₀ G H (some (.ref p)) (.dic kvs)
structure Rl (PK:Pk) (pa:Addr) (zm H₀:Hp) (m:Nat) (σ:St) (ρ:List Sl) (G H:Hp):Prop where
 wd:Wd PK pa m G H
 st:Stp pa zm H₀ G H
 p0:∃ o,H₀ pa=some o
 sl:∀ (i:Nat) (s:Sl),ρ[i]?=some s->∃ o,σ[i]?=some o/\SlOk pa H₀ G H o s
 len:ρ.length=σ.length
 dj:∀ (i j:Nat) (xs ys:ze),i≠j->ρ[i]?=some (.own xs)->ρ[j]?=some (.own ys)->σ[i]?≠σ[j]?
 dj2:∀ (i j:Nat) (xs ys:List (Int×PyData)),i≠j->ρ[i]?=some (.dic xs)->ρ[j]?=some (.dic ys)->σ[i]?≠σ[j]?
section
variable {PK:Pk} {pa:Addr} {zm H₀ G H:Hp} {m:Nat} {σ:St} {ρ:List Sl}
theorem m7 {α:Type} {l:List α} {k i:Nat} {x y:α} (h:(l.set k x)[i]?=some y) (hn:x≠y):k≠i/\l[i]?=some y:=by
 have hi:k≠i:=λe=>by
  subst e
  have hl:k < l.length:=by
   have:=(vf.mp h).1
   rwa [wc] at this
  rw [vO hl] at h
  exact hn (vX h)
 rw [vI hi] at h
 exact ⟨hi,h⟩
theorem ZhP {α:Type} {T:α->Sl} {k:Nat} {x:Sl} {v:Option V} (dj:∀ (i j:Nat) (a b:α),i≠j->ρ[i]?=some (T a)->ρ[j]?=some (T b)->σ[i]?≠σ[j]?) (hn:∀ a,x≠T a) :
  ∀ (i j:Nat) (a b:α),i≠j->(ρ.set k x)[i]?=some (T a)->(ρ.set k x)[j]?=some (T b)->(σ.set k v)[i]?≠(σ.set k v)[j]?:=λi j a b hij h1 h2=>by
 obtain ⟨hi,h1⟩:=m7 h1 (hn a)
 obtain ⟨hj,h2⟩:=m7 h2 (hn b)
 rw [vI hi,vI hj]
 exact dj i j a b hij h1 h2
theorem ZhO {α:Type} {T:α->Sl} {k:Nat} {x:Sl} (dj:∀ (i j:Nat) (a b:α),i≠j->ρ[i]?=some (T a)->ρ[j]?=some (T b)->σ[i]?≠σ[j]?) (hn:∀ a,x≠T a) :
  ∀ (i j:Nat) (a b:α),i≠j->(ρ.set k x)[i]?=some (T a)->(ρ.set k x)[j]?=some (T b)->σ[i]?≠σ[j]?:=λi j a b hij h1 h2 =>
 dj i j a b hij (m7 h1 (hn a)).2 (m7 h2 (hn b)).2
theorem SlOk.step {G' H':Hp} {o:Option V} {s:Sl} (k:SlOk pa H₀ G H o s) (hp0:∃ o,H₀ pa=some o) (st:Stp pa G H G' H'):SlOk pa H₀ G' H' o s:=by
 cases k with
 | un=>exact .un
 | d h=>exact .d (h.mono st.gs)
 | pen=>exact .pen
 | @own p vs xs h1 h2 h3 h4 =>
  have hne:p≠pa:=λe=>by
   obtain ⟨u,hu⟩:=hp0
   rw [<- e,h3] at hu; cases hu
  refine .own (st.hk _ _ h1 hne) ?_ h3 (DnAll.mono st.gs h4)
  cases e:G' p with
  | none=>rfl
  | some u =>
   rcases st.gn p u e with z | z
   ·rw [h2] at z; cases z
   ·rw [h1] at z; cases z
 | @dic p ks kvs h1 h2 h3 h4 =>
  have hne:p≠pa:=λe=>by
   obtain ⟨u,hu⟩:=hp0
   rw [<- e,h3] at hu; cases hu
  refine .dic (st.hk _ _ h1 hne) ?_ h3 (h4.mono st.gs)
  cases e:G' p with
  | none=>rfl
  | some u =>
   rcases st.gn p u e with z | z
   ·rw [h2] at z; cases z
   ·rw [h1] at z; cases z
theorem Rl.step {G' H':Hp} {m':Nat} (r:Rl PK pa zm H₀ m σ ρ G H) (s:Stp pa G H G' H') (w:Wd PK pa m' G' H'):Rl PK pa zm H₀ m' σ ρ G' H' :=
 ⟨w,r.st.trans s r.wd.some,r.p0,λi sl h=>let ⟨o,h1,h2⟩:=r.sl i sl h; ⟨o,h1,h2.step r.p0 s⟩,r.len,r.dj,r.dj2⟩
theorem Rl.set (r:Rl PK pa zm H₀ m σ ρ G H) {v:V} {x:PyData} (d:Dn G v x) (k:Nat):Rl PK pa zm H₀ m (σ.set k (some v)) (ρ.set k (.d x)) G H:=by
 refine ⟨r.wd,r.st,r.p0,λi s h=>?_,by rw [wc,wc]; exact r.len,λi j xs ys hij h1 h2=>?_,ZhP r.dj2 λa h=>by cases h⟩
 ·by_cases e:k=i
  ·subst e
   have hl:k < ρ.length:=by
    have:=(vf.mp h).1
    rwa [wc] at this
   rw [vO hl] at h
   cases h
   exact ⟨_,vO (by rw [<- r.len]; exact hl),.d d⟩
  ·rw [vI e] at h ⊢
   exact r.sl i s h
 ·have hi:k≠i:=λe=>by
   subst e
   have hl:k < ρ.length:=by
    have:=(vf.mp h1).1
    rwa [wc] at this
   rw [vO hl] at h1; cases h1
  have hj:k≠j:=λe=>by
   subst e
   have hl:k < ρ.length:=by
    have:=(vf.mp h2).1
    rwa [wc] at this
   rw [vO hl] at h2; cases h2
  rw [vI hi] at h1 ⊢
  rw [vI hj] at h2 ⊢
  exact r.dj i j xs ys hij h1 h2
theorem Rl.setO (r:Rl PK pa zm H₀ m σ ρ G H) {p:Addr} {vs:zi} {xs:ze} (h1:H p=some (.lst vs)) (h2:G p=none) (h3:H₀ p=none) (h4:DnAll G vs xs)
  (hd:∀ (i:Nat) (ys:ze),ρ[i]?=some (.own ys)->σ[i]?≠some (some (.ref p))) (k:Nat):Rl PK pa zm H₀ m (σ.set k (some (.ref p))) (ρ.set k (.own xs)) G H:=by
 have up:∀ {i:Nat} {s:Sl},(ρ.set k (.own xs))[i]?=some s->i=k->s=.own xs/\(σ.set k (some (V.ref p)))[i]?=some (some (.ref p)):=λ{i s} h e=>by
  subst e
  have hl:i < ρ.length:=by
   have:=(vf.mp h).1
   rwa [wc] at this
  rw [vO hl] at h
  cases h
  exact ⟨rfl,vO (by rw [<- r.len]; exact hl)⟩
 refine ⟨r.wd,r.st,r.p0,λi s h=>?_,by rw [wc,wc]; exact r.len,λi j ys zs hij e1 e2=>?_,ZhP r.dj2 λa h=>by cases h⟩
 ·by_cases e:i=k
  ·obtain ⟨e1,e2⟩:=up h e
   subst e1
   exact ⟨_,e2,.own h1 h2 h3 h4⟩
  ·rw [vI (Ne.symm e)] at h ⊢
   exact r.sl i s h
 ·by_cases ei:i=k
  ·have q:=(up e1 ei).2
   have hj:k≠j:=λe=>hij (ei.trans e)
   rw [q]
   rw [vI hj] at e2 ⊢
   exact λz=>hd j zs e2 z.symm
  ·rw [vI (Ne.symm ei)] at e1 ⊢
   by_cases ej:j=k
   ·rw [(up e2 ej).2]
    exact hd i ys e1
   ·rw [vI (Ne.symm ej)] at e2 ⊢
    exact r.dj i j ys zs hij e1 e2
theorem Rl.h0 (r:Rl PK pa zm H₀ m σ ρ G H) {p:Addr} (hp:H p=none):H₀ p=none:=by
 cases e:H₀ p with
 | none=>rfl
 | some u =>
  by_cases hc:p=pa
  ·subst hc
   obtain ⟨o,h⟩:=r.wd.some
   rw [hp] at h; cases h
  ·rw [r.st.hk p u e hc] at hp; cases hp
theorem Rl.apart (r:Rl PK pa zm H₀ m σ ρ G H) {p:Addr} (hp:H p=none) (i:Nat) (ys:ze) (h:ρ[i]?=some (.own ys)):σ[i]?≠some (some (.ref p)):=λe=>by
 obtain ⟨o,h1,h2⟩:=r.sl i _ h
 rw [e] at h1
 cases h1
 cases h2 with
 | own a _ _ _=>rw [hp] at a; cases a
theorem Rl.change (r:Rl PK pa zm H₀ m σ ρ G H) {k:Nat} {xs ys:ze} {p:Addr} {ws:zi} (hk:ρ[k]?=some (.own xs)) (hσ:σ[k]?=some (some (.ref p))) (d:DnAll G ws ys) :
  Rl PK pa zm H₀ m σ (ρ.set k (.own ys)) G (upd H p (.lst ws)):=by
 obtain ⟨o,h1,h2⟩:=r.sl k _ hk
 rw [hσ] at h1
 cases h1
 cases h2 with
 | @own _ vs _ a1 a2 a3 a4 =>
  have hne:pa≠p:=λe=>by
   obtain ⟨u,hu⟩:=r.p0
   rw [e,a3] at hu; cases hu
  have hl:k < ρ.length:=(vf.mp hk).1
  refine ⟨⟨λb o h=>?_,r.wd.gpa,?_⟩,⟨r.st.gs,r.st.gn,λb o h hb=>?_⟩,r.p0,λi s h=>?_,by rw [wc]; exact r.len,λi j us ws hij e1 e2=>?_,ZhO r.dj2 λa h=>by cases h⟩
  ·rw [aV (λe=>by subst e; rw [a2] at h; cases h)]
   exact r.wd.sub b o h
  ·obtain ⟨u,h,q⟩:=r.wd.pen
   exact ⟨u,by rw [aV hne]; exact h,q⟩
  ·rw [aV (λe=>by subst e; rw [a3] at h; cases h)]
   exact r.st.hk b o h hb
  ·by_cases e:k=i
   ·subst e
    rw [vO hl] at h
    cases h
    exact ⟨_,hσ,.own ce a2 a3 d⟩
   ·rw [vI e] at h
    obtain ⟨o,q1,q2⟩:=r.sl i s h
    refine ⟨o,q1,?_⟩
    cases q2 with
    | un=>exact .un
    | d z=>exact .d z
    | pen=>exact .pen
    | dic b1 b2 b3 b4=>exact .dic (by rw [aV (λe2=>by subst e2; rw [a1] at b1; cases b1)]; exact b1) b2 b3 b4
    | own b1 b2 b3 b4 =>
     refine .own ?_ b2 b3 b4
     rw [aV]
     ·exact b1
     ·intro e2
      subst e2
      exact r.dj k i _ _ e hk h (by rw [hσ,q1])
  ·by_cases ei:k=i
   ·subst ei
    rw [vI hij] at e2
    exact r.dj k j _ _ hij hk e2
   ·rw [vI ei] at e1
    by_cases ej:k=j
    ·subst ej
     exact r.dj i k _ _ hij e1 hk
    ·rw [vI ej] at e2
     exact r.dj i j _ _ hij e1 e2
noncomputable def fz (k:Nat) (ρ:List Sl):List Sl:=match ρ[k]? with
 | some (.own xs)=>ρ.set k (.d (.list xs))
 | _=>ρ
theorem Rl.freeze (r:Rl PK pa zm H₀ m σ ρ G H) (k:Nat):∃ G',Sub G G'/\Rl PK pa zm H₀ m σ (fz k ρ) G' H:=by
 unfold fz
 split
 ·rename_i xs hk
  obtain ⟨o,h1,h2⟩:=r.sl k _ hk
  cases h2 with
  | @own p vs _ a1 a2 a3 a4 =>
   have hne:pa≠p:=λe=>by
    obtain ⟨u,hu⟩:=r.p0
    rw [e,a3] at hu; cases hu
   have hl:k < ρ.length:=(vf.mp hk).1
   have sb:Sub G (upd G p (.lst vs)):=Sub.new a2
   refine ⟨upd G p (.lst vs),sb,r.wd.freeze a1 a2 hne,⟨λb o h=>sb b o (r.st.gs b o h),λb o h=>?_,r.st.hk⟩,r.p0,λi s h=>?_,by rw [wc]; exact r.len,λi j us ws hij e1 e2=>?_,ZhO r.dj2 λa h=>by cases h⟩
   ·by_cases e:b=p
    ·subst e; exact .inr a3
    ·rw [aV e] at h; exact r.st.gn b o h
   ·by_cases e:k=i
    ·subst e
     rw [vO hl] at h
     cases h
     exact ⟨_,h1,.d (.lst ce (DnAll.mono sb a4))⟩
    ·rw [vI e] at h
     obtain ⟨o,q1,q2⟩:=r.sl i s h
     refine ⟨o,q1,?_⟩
     cases q2 with
     | un=>exact .un
     | d z=>exact .d (z.mono sb)
     | pen=>exact .pen
     | dic b1 b2 b3 b4=>exact .dic b1 (by rw [aV (λe2=>by subst e2; rw [a1] at b1; cases b1)]; exact b2) b3 (b4.mono sb)
     | own b1 b2 b3 b4 =>
      refine .own b1 ?_ b3 (DnAll.mono sb b4)
      rw [aV]
      ·exact b2
      ·intro e2
       subst e2
       exact r.dj k i _ _ e hk h (by rw [h1,q1])
   ·have hi:k≠i:=λe=>by subst e; rw [vO hl] at e1; cases e1
    have hj:k≠j:=λe=>by subst e; rw [vO hl] at e2; cases e2
    rw [vI hi] at e1
    rw [vI hj] at e2
    exact r.dj i j _ _ hij e1 e2
 ·exact ⟨G,λ_ _ h=>h,r⟩
end
end L2
set_option Elab.async false
set_option linter.all false
set_option maxRecDepth 100000
namespace L2
def TAe (PK:Pk) (i:List Sl->Tr PyData):TE:=λσ H Q=>∃ pa zm H₀ m ρ G,Rl PK pa zm H₀ m σ ρ G H/\(i ρ).ok m λm' x=>Kn PK pa m' G H x Q
def TAt (PK:Pk) (i:List Sl->Tr Bool):TT:=λσ H Q=>∃ pa zm H₀ m ρ G,Rl PK pa zm H₀ m σ ρ G H/\(i ρ).ok m λm' b=>∀ G' H',Stp pa G H G' H'->Wd PK pa m' G' H'->Q b H'
def TAd (PK:Pk) (i:List Sl->Tr ze):TA:=λσ H Q=>∃ pa zm H₀ m ρ G,Rl PK pa zm H₀ m σ ρ G H/\(i ρ).ok m λm' xs=>∀ vs G' H',Stp pa G H G' H'->Wd PK pa m' G' H'->DnAll G' vs xs->Q vs H'
def Ko1 (PK:Pk) (pa:Addr) (m:Nat) (G H:Hp) (xs:ze) (Q:VK):Prop:=∀ p vs G' H',Stp pa G H G' H'->Wd PK pa m G' H'->H p=none->G' p=none->H' p=some (.lst vs)->DnAll G' vs xs->Q (.ref p) H'
def eM (PK:Pk) (i:List Sl->Tr ze):TE:=λσ H Q=>∃ pa zm H₀ m ρ G,Rl PK pa zm H₀ m σ ρ G H/\(i ρ).ok m λm' xs=>Ko1 PK pa m' G H xs Q
inductive ArOk (pa:Addr) (G:Hp):V->Sl->Prop
 | d {v:V} {x:PyData}:Dn G v x->ArOk pa G v (.d x)
 | pen:ArOk pa G (.ref pa) .pen
inductive ArsOk (pa:Addr) (G:Hp):List V->List Sl->Prop
 | nil:ArsOk pa G [] []
 | cons {v:V} {vs:zi} {s:Sl} {ss:List Sl}:ArOk pa G v s->ArsOk pa G vs ss->ArsOk pa G (v::vs) (s::ss)
theorem ArOk.mono {pa:Addr} {G G':Hp} {v:V} {s:Sl} (h:ArOk pa G v s) (e:Sub G G'):ArOk pa G' v s:=by
 cases h with
 | d z=>exact .d (z.mono e)
 | pen=>exact .pen
theorem ArsOk.mono {pa:Addr} {G G':Hp} (e:Sub G G') {vs:zi} {ss:List Sl} (h:ArsOk pa G vs ss):ArsOk pa G' vs ss:=by
 induction h with
 | nil=>exact .nil
 | cons h t ih=>exact .cons (h.mono e) ih
theorem ArsOk.length {pa:Addr} {G:Hp} {vs:zi} {ss:List Sl} (h:ArsOk pa G vs ss):vs.length=ss.length:=by
 induction h with
 | nil=>rfl
 | cons h t ih=>exact congrArg (·+1) ih
def TAa (PK:Pk) (i:List Sl->Tr (List Sl)):TA:=λσ H Q=>∃ pa zm H₀ m ρ G,Rl PK pa zm H₀ m σ ρ G H/\(i ρ).ok m λm' as=>∀ vs G' H',Stp pa G H G' H'->Wd PK pa m' G' H'->ArsOk pa G' vs as->Q vs H'
inductive Re where
 | d (x:PyData) | own (xs:ze)
noncomputable def Re.val:Re->PyData
 | .d x=>x
 | .own xs=>.list xs
@[simp] theorem Re.val_d (x:PyData):(Re.d x).val=x:=rfl
@[simp] theorem Re.val_own (xs:ze):(Re.own xs).val=.list xs:=rfl
inductive Ou where
 | next (ρ:List Sl) | ret (r:Re) | brk (ρ:List Sl) | cont (ρ:List Sl)
abbrev yZ:=List Sl->Tr PyData
abbrev y4:=List Sl->Tr (List PyData)
abbrev y6:=List Sl->Tr Bool
abbrev y8:=List Sl->Tr Ou
abbrev y9:=List Sl->Tr Re
abbrev za:=List PyData->List Sl->Option (List Sl)
abbrev zb:=PyData->List Sl->Option (List Sl)
abbrev zl:=List Sl
noncomputable def ZqX (H₀ G H:Hp) (v:V):Re->Prop
 | .d x=>Dn G v x
 | .own xs=>∃ p vs,v=.ref p/\H p=some (.lst vs)/\G p=none/\H₀ p=none/\DnAll G vs xs
def Kr (PK:Pk) (pa:Addr) (m:Nat) (zm H₀:Hp) (r:Re) (Q:VK):Prop:=∀ v G H,Stp pa zm H₀ G H->Wd PK pa m G H->ZqX H₀ G H v r->Q v H
noncomputable def Ko (PK:Pk) (pa:Addr) (zm H₀ Gs:Hp) (D:Ends) (m:Nat):Ou->Prop
 | .next ρ=>∀ σ G H,Sub Gs G->Rl PK pa zm H₀ m σ ρ G H->D.nx σ H
 | .ret r=>Kr PK pa m zm H₀ r D.rt
 | .brk ρ=>∀ σ G H,Sub Gs G->Rl PK pa zm H₀ m σ ρ G H->D.bk σ H
 | .cont ρ=>∀ σ G H,Sub Gs G->Rl PK pa zm H₀ m σ ρ G H->D.ct σ H
def bG (PK:Pk) (i:y8):TS:=λD σ H=>∃ pa zm H₀ m ρ G,Rl PK pa zm H₀ m σ ρ G H/\(i ρ).ok m (Ko PK pa zm H₀ G D)
theorem PE.imp {X:Cx} {e:Expr} {t t':TE} (h:PE X e t) (q:∀ σ H Q,t' σ H Q->t σ H Q):PE X e t':=λpins s σ H Q I z=>h pins s σ H Q I (q σ H Q z)
theorem PT.imp {X:Cx} {e:Expr} {t t':TT} (h:PT X e t) (q:∀ σ H Q,t' σ H Q->t σ H Q):PT X e t':=λpins s σ H Q I z=>h pins s σ H Q I (q σ H Q z)
theorem PW.imp {X:Cx} {e:Expr} {t t':TT} (h:PW X e t) (q:∀ σ H Q,t' σ H Q->t σ H Q):PW X e t':=λwh pins s σ H Q I z=>h wh pins s σ H Q I (q σ H Q z)
theorem PA.imp {X:Cx} {e:List Expr} {t t':TA} (h:PA X e t) (q:∀ σ H Q,t' σ H Q->t σ H Q):PA X e t':=λpos pins s σ H Q I z=>h pos pins s σ H Q I (q σ H Q z)
theorem PS.imp {X:Cx} {e:Stmt} {t t':TS} (h:PS X e t) (q:∀ D σ H,t' D σ H->t D σ H):PS X e t':=λpins s σ H D I z=>h pins s σ H D I (q D σ H z)
theorem PSs.imp {X:Cx} {e:List Stmt} {t t':TS} (h:PSs X e t) (q:∀ D σ H,t' D σ H->t D σ H):PSs X e t':=λpins s σ H D I z=>h pins s σ H D I (q D σ H z)
variable {PK:Pk} {X:Cx} {a b c e:Expr} {es:List Expr} {pos:Pos} {i j l:yZ}
theorem TAe.then {σ:St} {H:Hp} {β:Type} {k:PyData->Tr β} {Z:Nat->β->Prop} {Q:VK} {pa:Addr} {zm H₀ G:Hp} {m:Nat} {ρ:zl} (R:Rl PK pa zm H₀ m σ ρ G H) (h:((i ρ).bind k).ok m Z)
  (hq:∀ m1 x v G1 H1,Stp pa G H G1 H1->Wd PK pa m1 G1 H1->Rl PK pa zm H₀ m1 σ ρ G1 H1->Dn G1 v x->(k x).ok m1 Z->Q v H1):TAe PK i σ H Q:=by
 refine ⟨pa,zm,H₀,m,ρ,G,R,Tr.ok_mono (Tr.ok_bind.mp h) λm1 x hx v G1 H1 s1 w1 d1=>?_⟩
 exact hq m1 x v G1 H1 s1 w1 (R.step s1 w1) d1 hx
noncomputable def aa (k:Nat):yZ:=λρ=>match ρ[k]? with
 | some (.d x)=>.ret x
 | _=>.fail
noncomputable def aC (d:PyData):yZ:=λ_=>.ret d
theorem ab {k:Nat} (h:PE X e (fj k)):PE X e (TAe PK (aa k)):=h.imp λσ H Q hz0=>by
 obtain ⟨pa,zm,H₀,m,ρ,G,R,q⟩:=hz0
 unfold aa at q
 split at q
 ·rename_i x hx
  obtain ⟨o,h1,h2⟩:=R.sl k _ hx
  cases h2 with
  | d z=>exact ⟨_,h1,Kn.here q R.wd z⟩
 ·exact q.elim
theorem uK {v:V} {d:PyData} (h:PE X e (tC v)) (hd:∀ G,Dn G v d):PE X e (TAe PK (aC d)):=h.imp λσ H Q hz0=>by
 obtain ⟨pa,zm,H₀,m,ρ,G,R,q⟩:=hz0
 exact Kn.here q R.wd (hd G)
theorem al {n:Int} {k pos}:PE X (.Constant (.int n) k pos) (TAe PK (aC (.int n))):=uK cr λ_=>.int n
theorem dh {n:Bool} {k pos}:PE X (.Constant (.bool n) k pos) (TAe PK (aC (.bool n))):=uK ZlS λ_=>.bl n
theorem cp {x:Str} {n:Int} (hg:Gl X x) (h:∃ t,X.mg x=some (.int n t)) (hd:(x == ("__debug__":Str))=false:=by decide):PE X (.Name x pos) (TAe PK (aC (.int n))):=uK (ZlN hg h hd) λ_=>.int n
def cz (r:R2) (f:zc):Prop:=∀ (PK:Pk) (pa:Addr) (m:Nat) (G H:Hp) (x y:V) (dx dy dz:PyData) (Q:VK),Wd PK pa m G H->Dn G x dx->Dn G y dy->f dx dy=some dz->Kn PK pa m G H dz Q->r x y H Q
noncomputable def ac (f:zc) (i j:yZ):yZ:=λρ=>(i ρ).bind λx=>(j ρ).bind λy=>Tr.of (f x y)
theorem pY {r:R2} {f:zc} (hv:cz r f):∀ σ H Q,TAe PK (ac f i j) σ H Q->iL r (TAe PK i) (TAe PK j) σ H Q:=by
 rintro σ H Q ⟨pa,zm,H₀,m,ρ,G,R,q⟩
 refine TAe.then R q λm1 x v G1 H1 s1 w1 R1 d1 q1=>?_
 refine TAe.then R1 q1 λm2 y u G2 H2 s2 w2 R2 d2 q2=>?_
 obtain ⟨z,hz,k⟩:=Tr.ok_of q2
 exact hv PK pa m2 G2 H2 v u x y z Q w2 (d1.mono s2.gs) d2 hz (Kn.later k (s1.trans s2 w1.some) w2.some)
theorem ah {op:Operator} {r:R2} {f:zc} (ho:OpR X (binaryOp op) r) (hv:cz r f) (ha:PE X a (TAe PK i)) (hb:PE X b (TAe PK j)):PE X (.BinOp a op b pos) (TAe PK (ac f i j)) :=
 (ci ho ha hb).imp (pY hv)
theorem mt {op:CmpOp} {r:R2} {f:zc} (ho:OpR X (compareOp op) r) (hv:cz r f) (ha:PE X a (TAe PK i)) (hb:PE X b (TAe PK j)) (hm:behindInMarks op b=false):PE X (.Compare a [op] [b] pos) (TAe PK (ac f i j)) :=
 (ZlP ho ha hb hm).imp (pY hv)
theorem ZqK {r:R2} {f:zc} (hr:IxR X r) (hv:cz r f) (ha:PE X a (TAe PK i)) (hb:PE X b (TAe PK j)) (hs:qa b):PE X (.Subscript a b pos) (TAe PK (ac f i j)) :=
 (nK hr ha hb hs).imp (pY hv)
theorem aK {r:R2} {f:zc} (hr:IxR X r) (hv:cz r f) (ha:PE X a (TAe PK i)) (hb:PE X b (TAe PK j)) (hs:qa b:=by intro _ _; rfl):PE X (.Subscript a b pos) (TAe PK (ac f i j)):=ZqK hr hv ha hb hs
noncomputable def iK:PyData->Option Bool
 | .bool b=>some b
 | _=>none
@[simp] theorem ZrC (b:Bool):iK (.bool b)=some b:=rfl
noncomputable def bO (i:yZ):y6:=λρ=>(i ρ).bind λx=>Tr.of (iK x)
theorem ZiW:∀ σ H Q,TAt PK (bO i) σ H Q->mY (TAe PK i) σ H Q:=by
 rintro σ H Q ⟨pa,zm,H₀,m,ρ,G,R,q⟩
 refine TAe.then R q λm1 x v G1 H1 s1 w1 R1 d1 q1=>?_
 obtain ⟨b,hb,k⟩:=Tr.ok_of q1
 cases d1 <;> simp only [iK] at hb <;> cases hb
 exact ⟨_,rfl,k G1 H1 s1 w1⟩
theorem ZjL {t t':TE} (h:∀ σ H Q,t' σ H Q->t σ H Q):∀ σ H Q,mY t' σ H Q->mY t σ H Q:=λσ H Q z=>h σ H _ z
theorem cE {op:CmpOp} {r:R2} {f:zc} (ho:OpR X (compareOp op) r) (hv:cz r f) (ha:PE X a (TAe PK i)) (hb:PE X b (TAe PK j)) (hm:behindInMarks op b=false):PT X (.Compare a [op] [b] pos) (TAt PK (bO (ac f i j))) :=
 (lq ho ha hb hm).imp λσ H Q z=>ZjL (pY hv) σ H Q (ZiW σ H Q z)
theorem Zqp (h:PE X e (TAe PK i)) (he:∀ whole,isTrue e X.env whole=(do let v <- whole; standAt e.pos; holding [v] (truthy v)):=by intro _; rfl):PT X e (TAt PK (bO i)):=(Zlk h he).imp λσ H Q z=>ZiW σ H Q z
noncomputable def Zap:PyData->Option Bool
 | .bool b=>some b
 | .int n=>some (n != 0)
 | .none=>some false
 | .list xs=>some (!xs.isEmpty)
 | .tuple xs=>some (!xs.isEmpty)
 | _=>none
noncomputable def di (i:yZ):y6:=λρ=>(i ρ).bind λx=>Tr.of (Zap x)
theorem DnAll.isEmpty {H:Hp} {vs:zi} {ds:ze} (h:DnAll H vs ds):vs.isEmpty=ds.isEmpty:=by
 cases h <;> rfl
theorem dM (h:PE X e (TAe PK i)) (he:∀ whole,isTrue e X.env whole=(do let v <- whole; standAt e.pos; holding [v] (truthy v)):=by intro _; rfl):PT X e (TAt PK (di i)):=(Zll h he).imp λσ H Q hz0=>by
 obtain ⟨pa,zm,H₀,m,ρ,G,R,q⟩:=hz0
 refine TAe.then R q λm1 x v G1 H1 s1 w1 R1 d1 q1=>?_
 obtain ⟨b,hb,k⟩:=Tr.ok_of q1
 have fin:=k G1 H1 s1 w1
 cases d1 with
 | non=>cases hb; exact ⟨_,rfl,fin⟩
 | bl b=>cases hb; exact ⟨_,rfl,fin⟩
 | int n=>cases hb; exact ⟨_,rfl,fin⟩
 | str _=>cases hb
 | tup h1 h2=>cases hb; exact ⟨_,.inr (.inl ⟨_,SqT.of (w1.sub _ _ h1),rfl⟩),by rw [h2.isEmpty]; exact fin⟩
 | lst h1 h2=>cases hb; exact ⟨_,.inl ⟨_,SqL.of (w1.sub _ _ h1),rfl⟩,by rw [h2.isEmpty]; exact fin⟩
 | dct _ _=>cases hb
noncomputable def p6 (i j:y6):y6:=λρ=>(i ρ).bind λx=>if x=true then j ρ else .ret false
noncomputable def gX (i j:y6):y6:=λρ=>(i ρ).bind λx=>if x=true then .ret true else j ρ
noncomputable def dD (i:y6):y6:=λρ=>(i ρ).bind λx=>.ret (!x)
variable {p q:y6} {rest:List Expr}
theorem TAt.then {σ:St} {H:Hp} {β:Type} {k:Bool->Tr β} {Z:Nat->β->Prop} {Q:Bool->Hp->Prop} {pa:Addr} {zm H₀ G:Hp} {m:Nat} {ρ:zl} (R:Rl PK pa zm H₀ m σ ρ G H) (h:((p ρ).bind k).ok m Z)
  (hq:∀ m1 x G1 H1,Stp pa G H G1 H1->Wd PK pa m1 G1 H1->Rl PK pa zm H₀ m1 σ ρ G1 H1->(k x).ok m1 Z->Q x H1):TAt PK p σ H Q:=by
 refine ⟨pa,zm,H₀,m,ρ,G,R,Tr.ok_mono (Tr.ok_bind.mp h) λm1 x hx G1 H1 s1 w1=>?_⟩
 exact hq m1 x G1 H1 s1 w1 (R.step s1 w1) hx
theorem ZiE {zm H₀ G H G1 H1:Hp} {m:Nat} {σ:St} {ρ:zl} {pa:Addr} {Q:Bool->Hp->Prop} (R1:Rl PK pa zm H₀ m σ ρ G1 H1) (s1:Stp pa G H G1 H1) (h:(q ρ).ok m λm' b=>∀ G' H',Stp pa G H G' H'->Wd PK pa m' G' H'->Q b H'):TAt PK q σ H1 Q :=
 ⟨pa,zm,H₀,m,ρ,G1,R1,Tr.ok_mono h λm2 b k G2 H2 s2 w2=>k G2 H2 (s1.trans s2 R1.wd.some) w2⟩
theorem uI {zm H₀ G H G1 H1:Hp} {m:Nat} {σ:St} {ρ:zl} {pa:Addr} {Q:VK} (R1:Rl PK pa zm H₀ m σ ρ G1 H1) (s1:Stp pa G H G1 H1) (h:(i ρ).ok m λm' x=>Kn PK pa m' G H x Q):TAe PK i σ H1 Q :=
 ⟨pa,zm,H₀,m,ρ,G1,R1,Tr.ok_mono h λm2 b k=>Kn.later k s1 R1.wd.some⟩
theorem Zqo (ha:PT X a (TAt PK p)):PW X (.BoolOp .And [a] pos) (TAt PK p):=Zcv ha
theorem kD (ha:PT X a (TAt PK p)):PW X (.BoolOp .Or [a] pos) (TAt PK p):=Zlh ha
theorem ZiA (ha:PT X a (TAt PK p)) (hb:PW X (.BoolOp .And (b::rest) pos) (TAt PK q)):PW X (.BoolOp .And (a::b::rest) pos) (TAt PK (p6 p q)):=(Zcw ha hb).imp λσ H Q hz0=>by
 obtain ⟨pa,zm,H₀,m,ρ,G,R,z⟩:=hz0
 refine TAt.then R z λm1 x G1 H1 s1 w1 R1 q1=>?_
 cases x with
 | true=>rw [if_pos rfl] at q1 ⊢; exact ZiE R1 s1 q1
 | false=>rw [if_neg vD] at q1 ⊢; exact q1 G1 H1 s1 w1
theorem jm (ha:PT X a (TAt PK p)) (hb:PW X (.BoolOp .Or (b::rest) pos) (TAt PK q)):PW X (.BoolOp .Or (a::b::rest) pos) (TAt PK (gX p q)):=(Zli ha hb).imp λσ H Q hz0=>by
 obtain ⟨pa,zm,H₀,m,ρ,G,R,z⟩:=hz0
 refine TAt.then R z λm1 x G1 H1 s1 w1 R1 q1=>?_
 cases x with
 | true=>rw [if_pos rfl] at q1 ⊢; exact q1 G1 H1 s1 w1
 | false=>rw [if_neg vD] at q1 ⊢; exact ZiE R1 s1 q1
theorem jn (h:PW X e (TAt PK p)):PT X e (TAt PK p):=h.pt
theorem eJ (ha:PT X a (TAt PK p)):PT X (.UnaryOp .Not a pos) (TAt PK (dD p)):=(Zlm ha).imp λσ H Q hz0=>by
 obtain ⟨pa,zm,H₀,m,ρ,G,R,z⟩:=hz0
 refine TAt.then R z λm1 x G1 H1 s1 w1 R1 q1=>?_
 exact q1 G1 H1 s1 w1
noncomputable def kM (i j:yZ):yZ:=λρ=>(bO i ρ).bind λx=>if x=true then j ρ else .ret (.bool false)
noncomputable def uS (i:yZ):yZ:=λρ=>(bO i ρ).bind λx=>.ret (.bool (!x))
theorem TAe.thenB {σ:St} {H:Hp} {β:Type} {k:Bool->Tr β} {Z:Nat->β->Prop} {Q:VK} {pa:Addr} {zm H₀ G:Hp} {m:Nat} {ρ:zl} (R:Rl PK pa zm H₀ m σ ρ G H) (h:((bO i ρ).bind k).ok m Z)
  (hq:∀ m1 c G1 H1,Stp pa G H G1 H1->Wd PK pa m1 G1 H1->Rl PK pa zm H₀ m1 σ ρ G1 H1->(k c).ok m1 Z->Q (.bl c) H1):TAe PK i σ H Q:=by
 unfold bO at h
 rw [Tr.bind_assoc] at h
 refine TAe.then R h λm1 x v G1 H1 s1 w1 R1 d1 q1=>?_
 rw [Tr.ok_bind] at q1
 obtain ⟨c,hb,q1⟩:=Tr.ok_of q1
 cases d1 <;> simp only [iK] at hb <;> cases hb
 exact hq m1 _ G1 H1 s1 w1 R1 q1
theorem uH {op} (h:PE X a (TAe PK i)):PE X (.BoolOp op [a] pos) (TAe PK i):=ZlH h
theorem pO (ha:PE X a (TAe PK i)) (hb:PE X (.BoolOp .And (b::rest) pos) (TAe PK j)):PE X (.BoolOp .And (a::b::rest) pos) (TAe PK (kM i j)):=(ZlT ha hb).imp λσ H Q hz0=>by
 obtain ⟨pa,zm,H₀,m,ρ,G,R,z⟩:=hz0
 refine TAe.thenB R z λm1 x G1 H1 s1 w1 R1 q1=>⟨x,rfl,?_⟩
 cases x with
 | true=>rw [if_pos rfl] at q1 ⊢; exact uI R1 s1 q1
 | false=>rw [if_neg vD] at q1 ⊢; exact (Kn.later q1 s1 w1.some).here w1 (.bl false)
theorem ZqJ (ha:PE X a (TAe PK i)):PE X (.UnaryOp .Not a pos) (TAe PK (uS i)):=(ZlI ha).imp λσ H Q hz0=>by
 obtain ⟨pa,zm,H₀,m,ρ,G,R,z⟩:=hz0
 refine TAe.thenB R z λm1 x G1 H1 s1 w1 R1 q1=>⟨x,rfl,?_⟩
 exact (Kn.later q1 s1 w1.some).here w1 (.bl _)
noncomputable def uT (p:y6) (i j:yZ):yZ:=λρ=>(p ρ).bind λx=>if x=true then i ρ else j ρ
theorem ZqL (hc:PT X c (TAt PK p)) (ha:PE X a (TAe PK i)) (hb:PE X b (TAe PK j)):PE X (.IfExp c a b pos) (TAe PK (uT p i j)):=(ZlL hc ha hb).imp λσ H Q hz0=>by
 obtain ⟨pa,zm,H₀,m,ρ,G,R,z⟩:=hz0
 refine TAt.then R z λm1 x G1 H1 s1 w1 R1 q1=>?_
 cases x with
 | true=>rw [if_pos rfl] at q1 ⊢; exact uI R1 s1 q1
 | false=>rw [if_neg vD] at q1 ⊢; exact uI R1 s1 q1
variable {is:y4}
noncomputable def ay:y4:=λ_=>.ret []
noncomputable def ag (i:yZ) (is:y4):y4:=λρ=>(i ρ).bind λx=>(is ρ).bind λxs=>.ret (x::xs)
theorem aA:PA X [] (TAd PK ay):=cC.imp λσ H Q hz0=>by
 obtain ⟨pa,zm,H₀,m,ρ,G,R,z⟩:=hz0
 exact z [] G H .refl R.wd .nil
theorem TAd.then {σ:St} {H:Hp} {β:Type} {k:List PyData->Tr β} {Z:Nat->β->Prop} {Q:List V->Hp->Prop} {pa:Addr} {zm H₀ G:Hp} {m:Nat} {ρ:zl} (R:Rl PK pa zm H₀ m σ ρ G H) (h:((is ρ).bind k).ok m Z)
  (hq:∀ m1 xs vs G1 H1,Stp pa G H G1 H1->Wd PK pa m1 G1 H1->Rl PK pa zm H₀ m1 σ ρ G1 H1->DnAll G1 vs xs->(k xs).ok m1 Z->Q vs H1):TAd PK is σ H Q:=by
 refine ⟨pa,zm,H₀,m,ρ,G,R,Tr.ok_mono (Tr.ok_bind.mp h) λm1 x hx v G1 H1 s1 w1 d1=>?_⟩
 exact hq m1 x v G1 H1 s1 w1 (R.step s1 w1) d1 hx
theorem ai (ha:PE X e (TAe PK i)) (hr:PA X es (TAd PK is)) (hs:starEach (e::es) X.env=(false,eval e X.env)::starEach es X.env:=by rfl):PA X (e::es) (TAd PK (ag i is)):=(bH ha hr hs).imp λσ H Q hz0=>by
 obtain ⟨pa,zm,H₀,m,ρ,G,R,z⟩:=hz0
 refine TAe.then R z λm1 x v G1 H1 s1 w1 R1 d1 q1=>?_
 refine TAd.then R1 q1 λm2 xs vs G2 H2 s2 w2 R2 d2 q2=>?_
 exact q2 _ _ _ (s1.trans s2 w1.some) w2 (.cons (d1.mono s2.gs) d2)
noncomputable def small (n:Nat):Bool:=decide (n<=sizeLine)
noncomputable def cD (is:y4):yZ:=λρ=>(is ρ).bind λxs=>if small xs.length=true then .ret (.tuple xs) else .fail
noncomputable def bV (is:y4):yZ:=λρ=>(is ρ).bind λxs=>.ret (.list xs)
noncomputable def dN (is:y4):y4:=λρ=>(is ρ).bind λxs=>if small xs.length=true then .ret xs else .fail
theorem gK {α:Type} {c:Bool} {t:Tr α} {m:Nat} {Q:Nat->α->Prop} (h:(if c=true then t else .fail).ok m Q):c=true/\t.ok m Q:=by
 cases c with
 | true=>exact ⟨rfl,h⟩
 | false=>exact h.elim
theorem cL {x1} (h:PA X es (TAd PK is)):PE X (.Tuple es x1 pos) (TAe PK (cD is)):=(ZcC h).imp λσ H Q hz0=>by
 obtain ⟨pa,zm,H₀,m,ρ,G,R,z⟩:=hz0
 refine TAd.then R z λm1 xs vs G1 H1 s1 w1 R1 d1 q1=>?_
 obtain ⟨hs,k⟩:=gK q1
 exact ⟨by rw [d1.length]; exact of_decide_eq_true hs,λp hp=>(Kn.later k s1 w1.some).tup w1 d1 hp⟩
theorem Ko1.new {pa:Addr} {m:Nat} {G H:Hp} {xs:ze} {vs:zi} {Q:VK} {p:Addr} (k:Ko1 PK pa m G H xs Q) (w:Wd PK pa m G H) (d:DnAll G vs xs) (hp:H p=none):Q (.ref p) (upd H p (.lst vs)):=by
 obtain ⟨w1,s1⟩:=w.own (o:=.lst vs) hp
 exact k p vs G _ s1 w1 hp (w.gnone hp) ce d
theorem Ko1.later {pa:Addr} {m:Nat} {G H G1 H1:Hp} {xs:ze} {Q:VK} (k:Ko1 PK pa m G H xs Q) (s:Stp pa G H G1 H1) (hp:∃ o,H1 pa=some o):Ko1 PK pa m G1 H1 xs Q:=λp vs G' H' s' w' h1 h2 h3 h4=>by
 refine k p vs G' H' (s.trans s' hp) w' ?_ h2 h3 h4
 cases e:H p with
 | none=>rfl
 | some u =>
  by_cases hc:p=pa
  ·subst hc
   obtain ⟨o,z⟩:=hp
   rw [h1] at z; cases z
  ·rw [s.hk p u e hc] at h1; cases h1
theorem ff (h:PA X es (TAd PK is)):PE X (.List es pos) (eM PK (dN is)):=(ZlJ h).imp λσ H Q hz0=>by
 obtain ⟨pa,zm,H₀,m,ρ,G,R,z⟩:=hz0
 refine TAd.then R z λm1 xs vs G1 H1 s1 w1 R1 d1 q1=>?_
 obtain ⟨hs,k⟩:=gK q1
 exact ⟨by rw [d1.length]; exact of_decide_eq_true hs,λp hp=>(Ko1.later k s1 w1.some).new w1 d1 hp⟩
theorem Ko1.of {pa:Addr} {m:Nat} {G H:Hp} {xs:ze} {Q:VK} (k:Kn PK pa m G H (.list xs) Q) (hp:∃ o,H pa=some o):Ko1 PK pa m G H xs Q:=λp vs G' H' s w h1 h2 h3 h4=>by
 have hne:pa≠p:=λe=>by
  obtain ⟨o,z⟩:=hp
  rw [e,h1] at z; cases z
 have sb:Sub G' (upd G' p (.lst vs)):=Sub.new h2
 refine k _ (upd G' p (.lst vs)) H' ⟨λb o h=>sb b o (s.gs b o h),λb o h=>?_,s.hk⟩ (w.freeze h3 h2 hne) (.lst ce (DnAll.mono sb h4))
 by_cases e:b=p
 ·subst e; exact .inr h1
 ·rw [aV e] at h; exact s.gn b o h
theorem cF (h:PE X e (eM PK is)):PE X e (TAe PK (bV is)):=h.imp λσ H Q hz0=>by
 obtain ⟨pa,zm,H₀,m,ρ,G,R,z⟩:=hz0
 refine ⟨pa,zm,H₀,m,ρ,G,R,Tr.ok_mono (Tr.ok_bind.mp z) λm1 xs k=>Ko1.of k R.wd.some⟩
def fE (r:List V->Hp->VK->Prop) (f:List PyData->Option PyData):Prop:=∀ (PK:Pk) (pa:Addr) (m:Nat) (G H:Hp) (vs:zi) (ds:ze) (d:PyData) (Q:VK),Wd PK pa m G H->DnAll G vs ds->f ds=some d->Kn PK pa m G H d Q->r vs H Q
def uW (r:List V->Hp->VK->Prop) (f:List PyData->Option ze):Prop:=∀ (PK:Pk) (pa:Addr) (m:Nat) (G H:Hp) (vs:zi) (ds:ze) (d:ze) (Q:VK),Wd PK pa m G H->DnAll G vs ds->f ds=some d->Ko1 PK pa m G H d Q->r vs H Q
noncomputable def bo (f:List PyData->Option PyData) (is:y4):yZ:=λρ=>(is ρ).bind λxs=>Tr.of (f xs)
noncomputable def pX (f:List PyData->Option ze) (is:y4):y4:=λρ=>(is ρ).bind λxs=>Tr.of (f xs)
theorem ZqT {r:List V->Hp->VK->Prop} {f:List PyData->Option PyData} (hv:fE r f):∀ σ H Q,TAe PK (bo f is) σ H Q->fo r (TAd PK is) σ H Q:=by
 rintro σ H Q ⟨pa,zm,H₀,m,ρ,G,R,z⟩
 refine TAd.then R z λm1 xs vs G1 H1 s1 w1 R1 d1 q1=>?_
 obtain ⟨d,hd,k⟩:=Tr.ok_of q1
 exact hv PK pa m1 G1 H1 vs xs d Q w1 d1 hd (Kn.later k s1 w1.some)
theorem ZqS {r:List V->Hp->VK->Prop} {f:List PyData->Option ze} (hv:uW r f):∀ σ H Q,eM PK (pX f is) σ H Q->fo r (TAd PK is) σ H Q:=by
 rintro σ H Q ⟨pa,zm,H₀,m,ρ,G,R,z⟩
 refine TAd.then R z λm1 xs vs G1 H1 s1 w1 R1 d1 q1=>?_
 obtain ⟨d,hd,k⟩:=Tr.ok_of q1
 exact hv PK pa m1 G1 H1 vs xs d Q w1 d1 hd (Ko1.later k s1 w1.some)
theorem bz {t:TA} {r:List V->Hp->VK->Prop} {f:List PyData->Option PyData} (h:PE X e (fo r (TAd PK is))) (hv:fE r f):PE X e (TAe PK (bo f is)):=h.imp (ZqT hv)
theorem Zqy {t:TA} {r:List V->Hp->VK->Prop} {f:List PyData->Option ze} (h:PE X e (fo r (TAd PK is))) (hv:uW r f):PE X e (eM PK (pX f is)):=h.imp (ZqS hv)
variable {as:List Sl->Tr zl}
noncomputable def au:List Sl->Tr zl:=λ_=>.ret []
noncomputable def ad (i:yZ) (as:List Sl->Tr zl):List Sl->Tr zl:=λρ=>(i ρ).bind λx=>(as ρ).bind λxs=>.ret (.d x::xs)
noncomputable def cP (k:Nat) (as:List Sl->Tr zl):List Sl->Tr zl:=λρ=>match ρ[k]? with
 | some .pen=>(as ρ).bind λxs=>.ret (.pen::xs)
 | _=>.fail
theorem az:PA X [] (TAa PK au):=cC.imp λσ H Q hz0=>by
 obtain ⟨pa,zm,H₀,m,ρ,G,R,z⟩:=hz0
 exact z [] G H .refl R.wd .nil
theorem TAa.then {σ:St} {H:Hp} {β:Type} {k:List Sl->Tr β} {Z:Nat->β->Prop} {Q:List V->Hp->Prop} {pa:Addr} {zm H₀ G:Hp} {m:Nat} {ρ:zl} (R:Rl PK pa zm H₀ m σ ρ G H) (h:((as ρ).bind k).ok m Z)
  (hq:∀ m1 xs vs G1 H1,Stp pa G H G1 H1->Wd PK pa m1 G1 H1->Rl PK pa zm H₀ m1 σ ρ G1 H1->ArsOk pa G1 vs xs->(k xs).ok m1 Z->Q vs H1):TAa PK as σ H Q:=by
 refine ⟨pa,zm,H₀,m,ρ,G,R,Tr.ok_mono (Tr.ok_bind.mp h) λm1 x hx v G1 H1 s1 w1 d1=>?_⟩
 exact hq m1 x v G1 H1 s1 w1 (R.step s1 w1) d1 hx
theorem ae (ha:PE X e (TAe PK i)) (hr:PA X es (TAa PK as)) (hs:starEach (e::es) X.env=(false,eval e X.env)::starEach es X.env:=by rfl):PA X (e::es) (TAa PK (ad i as)):=(bH ha hr hs).imp λσ H Q hz0=>by
 obtain ⟨pa,zm,H₀,m,ρ,G,R,z⟩:=hz0
 refine TAe.then R z λm1 x v G1 H1 s1 w1 R1 d1 q1=>?_
 refine TAa.then R1 q1 λm2 xs vs G2 H2 s2 w2 R2 d2 q2=>?_
 exact q2 _ _ _ (s1.trans s2 w1.some) w2 (.cons (.d (d1.mono s2.gs)) d2)
theorem cY {k:Nat} (ha:PE X e (fj k)) (hr:PA X es (TAa PK as)) (hs:starEach (e::es) X.env=(false,eval e X.env)::starEach es X.env:=by rfl):PA X (e::es) (TAa PK (cP k as)):=(bH ha hr hs).imp λσ H Q hz0=>by
 obtain ⟨pa,zm,H₀,m,ρ,G,R,z⟩:=hz0
 unfold cP at z
 split at z
 ·rename_i hk
  obtain ⟨o,h1,h2⟩:=R.sl k _ hk
  cases h2
  refine ⟨_,h1,?_⟩
  refine TAa.then R z λm2 xs vs G2 H2 s2 w2 R2 d2 q2=>?_
  exact q2 _ _ _ s2 w2 (.cons .pen d2)
 ·exact z.elim
def aSp (PK:Pk) (n:Nat) (f:y9):Sp:=λvs H Q _=>vs.length=n/\∃ pa m G as,Wd PK pa m G H/\ArsOk pa G vs as/\(f as).ok m λm' r=>Kr PK pa m' G H r Q
noncomputable def aw (f:y9) (as:List Sl->Tr zl):y9:=λρ=>(as ρ).bind f
noncomputable def aB (f:y9):yZ:=λρ=>(f ρ).bind λr=>.ret r.val
def mE (PK:Pk) (i:y9):TE:=λσ H Q=>∃ pa zm H₀ m ρ G,Rl PK pa zm H₀ m σ ρ G H/\(i ρ).ok m λm' r=>Kr PK pa m' G H r Q
theorem Kr.later {pa:Addr} {m:Nat} {G H G1 H1:Hp} {r:Re} {Q:VK} (k:Kr PK pa m G H r Q) (s:Stp pa G H G1 H1) (hp:∃ o,H1 pa=some o):Kr PK pa m G1 H1 r Q:=λv G' H' s' w' d=>by
 refine k v G' H' (s.trans s' hp) w' ?_
 cases r with
 | d x=>exact d
 | own xs =>
  obtain ⟨p,vs,e,h1,h2,h3,h4⟩:=d
  refine ⟨p,vs,e,h1,h2,?_,h4⟩
  cases e:H p with
  | none=>rfl
  | some u =>
   by_cases hc:p=pa
   ·subst hc
    obtain ⟨o,z⟩:=hp
    rw [h3] at z; cases z
   ·rw [s.hk p u e hc] at h3; cases h3
theorem Kr.of {pa:Addr} {m:Nat} {G H:Hp} {r:Re} {Q:VK} (k:Kn PK pa m G H r.val Q) (hp:∃ o,H pa=some o):Kr PK pa m G H r Q:=λv G' H' s w d=>by
 cases r with
 | d x=>exact k v G' H' s w d
 | own xs =>
  obtain ⟨p,vs,rfl,h1,h2,h3,h4⟩:=d
  exact Ko1.of k hp p vs G' H' s w h3 h2 h1 h4
theorem aF {f:y9} (h:PE X e (mE PK f)):PE X e (TAe PK (aB f)):=h.imp (by
 intro σ H Q z
 obtain ⟨pa,zm,H₀,m,ρ,G,R,z⟩:=z
 exact ⟨pa,zm,H₀,m,ρ,G,R,Tr.ok_mono (Tr.ok_bind.mp z) λm1 r k=>Kr.of k R.wd.some⟩)
structure ACal (PK:Pk) (P:Program) (w:World) (K:yY) (mg:zj) (base:Heap) (x:Str) (k:Nat) (ps:zh) (f:y9):Prop where
 cal:Callee P w K mg base x k ps (aSp PK ps.length f)
 len:∀ as m Z,(f as).ok m Z->as.length=ps.length
theorem kF {x:Str} {k:Nat} {ps:zh} {f:y9} {pp:Pos} (C:ACal PK X.prog X.w X.K X.mg X.base x k ps f) (hr:Room k X.A) (hg:Gl X x) (ha:PA X (e::es) (TAa PK as))
  (hdb:(x == ("__debug__":Str))=false:=by decide)
  (he:starEach (e::es) X.env=(false,eval e X.env)::starEach es X.env:=by rfl) (hpl:(backTo pos (starEach es X.env)).any (·.1)=false:=by rfl):PE X (.Call (.Name x pp) (e::es) [] pos) (mE PK (aw f as)) :=
 (nL C.cal hr hg ha hdb he hpl).imp λσ H Q hz0=>by
  obtain ⟨pa,zm,H₀,m,ρ,G,R,z⟩:=hz0
  refine TAa.then R z λm1 xs vs G1 H1 s1 w1 R1 d1 q1=>?_
  show aSp PK ps.length f (vs++[]) H1 Q E0
  rw [wn]
  exact ⟨by rw [d1.length]; exact C.len _ _ _ q1,pa,m1,G1,xs,w1,d1,Tr.ok_mono q1 λm2 r k=>Kr.later k s1 w1.some⟩
theorem aE {x:Str} {k n:Nat} {ps:zh} {f:y9} {pp:Pos} (C:ACal PK X.prog X.w X.K X.mg X.base x k ps f) (hr:Room n X.A) (ha:PA X (e::es) (TAa PK as)) (hk:k<=n:=by decide) (hg:Gl X x:=by rfl) (hdb:(x == ("__debug__":Str))=false:=by decide) (he:starEach (e::es) X.env=(false,eval e X.env)::starEach es X.env:=by rfl) (hpl:(backTo pos (starEach es X.env)).any (·.1)=false:=by rfl):PE X (.Call (.Name x pp) (e::es) [] pos) (mE PK (aw f as)):=kF C (hr.mono hk) hg ha hdb he hpl
end L2
set_option Elab.async false
set_option linter.all false
set_option maxRecDepth 100000
namespace L2
variable {PK:Pk} {X:Cx} {a b c e:Expr} {es:List Expr} {pos:Pos} {i j l:yZ} {is:y4} {as:List Sl->Tr zl} {f:y9} {p q:y6} {st:Stmt} {sts:List Stmt} {s t u:y8}
noncomputable def aj (s t:y8):y8:=λρ=>(s ρ).bind λo=>match o with
 | .next ρ'=>t ρ'
 | o=>.ret o
noncomputable def ck:y8:=λρ=>.ret (.next ρ)
theorem Ko.later {pa:Addr} {zm H₀ Gs G:Hp} {D:Ends} {m:Nat} {o:Ou} (k:Ko PK pa zm H₀ Gs D m o) (sb:Sub Gs G):Ko PK pa zm H₀ G D m o:=by
 cases o with
 | next ρ=>exact λσ G' H s R=>k σ G' H (λb o h=>s b o (sb b o h)) R
 | ret r=>exact k
 | brk ρ=>exact λσ G' H s R=>k σ G' H (λb o h=>s b o (sb b o h)) R
 | cont ρ=>exact λσ G' H s R=>k σ G' H (λb o h=>s b o (sb b o h)) R
theorem Sub.refl {G:Hp}:Sub G G:=λ_ _ h=>h
theorem Sub.trans {G G1 G2:Hp} (a:Sub G G1) (b:Sub G1 G2):Sub G G2:=λc o h=>b c o (a c o h)
theorem cv:PSs X [] (bG PK ck):=nC.imp λD σ H hz0=>by
 obtain ⟨pa,zm,H₀,m,ρ,G,R,z⟩:=hz0
 exact z σ G H .refl R
theorem ZqR:∀ D σ H,bG PK (aj s t) D σ H->Zar (bG PK s) (bG PK t) D σ H:=by
 rintro D σ H ⟨pa,zm,H₀,m,ρ,G,R,z⟩
 refine ⟨pa,zm,H₀,m,ρ,G,R,Tr.ok_mono (Tr.ok_bind.mp z) λm1 o k=>?_⟩
 cases o with
 | next ρ'=>exact λσ' G' H' sb R'=>⟨pa,zm,H₀,m1,ρ',G',R',Tr.ok_mono k λ_ _ k'=>Ko.later k' sb⟩
 | ret r=>exact k
 | brk ρ'=>exact k
 | cont ρ'=>exact k
theorem ak (h1:PS X st (bG PK s)) (h2:PSs X sts (bG PK t)):PSs X (st::sts) (bG PK (aj s t)):=(dR h1 h2).imp ZqR
theorem aH (h1:PS X st (bG PK s)):PSs X [st] (bG PK s):=iR h1
noncomputable def mB:y8:=λ_=>.fail
theorem ZiJ:PS X st (bG PK mB):=λ_ _ _ _ _ _ h=>by
 obtain ⟨pa,zm,H₀,m,ρ,G,R,z⟩:=h
 exact z.elim
noncomputable def pV (i:yZ):y8:=λρ=>(i ρ).bind λ_=>.ret (.next ρ)
theorem ZiK (he:PE X e (TAe PK i)) (hs:swapsWith e none pos.line X.env=pure false:=by rfl):PS X (.Expr e pos) (bG PK (pV i)):=(iS he hs).imp λD σ H hz0=>by
 obtain ⟨pa,zm,H₀,m,ρ,G,R,z⟩:=hz0
 refine TAe.then R z λm1 x v G1 H1 s1 w1 R1 d1 q1=>?_
 exact q1 σ G1 H1 s1.gs R1
noncomputable def bj (i:yZ):y8:=λρ=>(i ρ).bind λx=>.ret (.ret (.d x))
theorem bn (he:PE X e (TAe PK i)):PS X (.Return (some e) pos) (bG PK (bj i)):=(gG he).imp λD σ H hz0=>by
 obtain ⟨pa,zm,H₀,m,ρ,G,R,z⟩:=hz0
 refine TAe.then R z λm1 x v G1 H1 s1 w1 R1 d1 q1=>?_
 exact q1 v G1 H1 R1.st w1 d1
noncomputable def pS (is:y4):y8:=λρ=>(is ρ).bind λx=>.ret (.ret (.own x))
theorem ZiI (he:PE X e (eM PK is)):PS X (.Return (some e) pos) (bG PK (pS is)):=(gG he).imp λD σ H hz0=>by
 obtain ⟨pa,zm,H₀,m,ρ,G,R,z⟩:=hz0
 refine ⟨pa,zm,H₀,m,ρ,G,R,Tr.ok_mono (Tr.ok_bind.mp z) λm1 xs k p vs G1 H1 s1 w1 h1 h2 h3 h4=>?_⟩
 exact k (.ref p) G1 H1 (R.st.trans s1 R.wd.some) w1 ⟨p,vs,rfl,h3,h2,R.h0 h1,h4⟩
noncomputable def iA (f:y9):y8:=λρ=>(f ρ).bind λr=>.ret (.ret r)
theorem kE (he:PE X e (mE PK f)):PS X (.Return (some e) pos) (bG PK (iA f)):=(gG he).imp (by
 intro D σ H z
 obtain ⟨pa,zm,H₀,m,ρ,G,R,z⟩:=z
 exact ⟨pa,zm,H₀,m,ρ,G,R,Tr.ok_mono (Tr.ok_bind.mp z) λm1 r k=>Kr.later k R.st R.wd.some⟩)
noncomputable def fR (k:Nat):y8:=λρ=>match ρ[k]? with
 | some (.d x)=>.ret (.ret (.d x))
 | some (.own xs)=>.ret (.ret (.own xs))
 | _=>.fail
theorem mj {k:Nat} (he:PE X e (fj k)):PS X (.Return (some e) pos) (bG PK (fR k)):=(gG he).imp λD σ H hz0=>by
 obtain ⟨pa,zm,H₀,m,ρ,G,R,z⟩:=hz0
 unfold fR at z
 split at z
 ·rename_i x hx
  obtain ⟨o,h1,h2⟩:=R.sl k _ hx
  cases h2 with
  | d d1=>exact ⟨_,h1,z _ G H R.st R.wd d1⟩
 ·rename_i xs hx
  obtain ⟨o,h1,h2⟩:=R.sl k _ hx
  cases h2 with
  | own a1 a2 a3 a4=>exact ⟨_,h1,z _ G H R.st R.wd ⟨_,_,rfl,a1,a2,a3,a4⟩⟩
 ·exact z.elim
noncomputable def cm (p:y6) (s t:y8):y8:=λρ=>(p ρ).bind λx=>if x=true then s ρ else t ρ
theorem cw {xs ys:List Stmt} (hc:PT X c (TAt PK p)) (ha:PSs X xs (bG PK s)) (hb:PSs X ys (bG PK t)):PS X (.If c xs ys pos) (bG PK (cm p s t)):=(nG hc ha hb).imp λD σ H hz0=>by
 obtain ⟨pa,zm,H₀,m,ρ,G,R,z⟩:=hz0
 refine TAt.then R z λm1 x G1 H1 s1 w1 R1 q1=>?_
 cases x with
 | true=>rw [if_pos rfl] at q1 ⊢; exact ⟨pa,zm,H₀,m1,ρ,G1,R1,Tr.ok_mono q1 λ_ _ k'=>Ko.later k' s1.gs⟩
 | false=>rw [if_neg vD] at q1 ⊢; exact ⟨pa,zm,H₀,m1,ρ,G1,R1,Tr.ok_mono q1 λ_ _ k'=>Ko.later k' s1.gs⟩
noncomputable def aR (k:Nat) (i:yZ):y8:=λρ=>(i ρ).bind λx=>.ret (.next (ρ.set k (.d x)))
theorem aU {k:Nat} (h:PS X st (fI (TAe PK i) (gu k))):PS X st (bG PK (aR k i)):=h.imp λD σ H hz0=>by
 obtain ⟨pa,zm,H₀,m,ρ,G,R,z⟩:=hz0
 refine TAe.then R z λm1 x v G1 H1 s1 w1 R1 d1 q1=>?_
 exact q1 _ G1 H1 s1.gs (R1.set d1 k)
noncomputable def jq (k:Nat) (is:y4):y8:=λρ=>(is ρ).bind λx=>.ret (.next (ρ.set k (.own x)))
theorem mi {k:Nat} (h:PS X st (fI (eM PK is) (gu k))):PS X st (bG PK (jq k is)):=h.imp λD σ H hz0=>by
 obtain ⟨pa,zm,H₀,m,ρ,G,R,z⟩:=hz0
 refine ⟨pa,zm,H₀,m,ρ,G,R,Tr.ok_mono (Tr.ok_bind.mp z) λm1 xs k' p vs G1 H1 s1 w1 h1 h2 h3 h4=>?_⟩
 exact k' _ G1 H1 s1.gs ((R.step s1 w1).setO h3 h2 (R.h0 h1) h4 (λn ys e=>R.apart h1 n ys e) k)
noncomputable def ju (f:zc) (k:Nat) (i:yZ):y8:=λρ=>(aa k ρ).bind λx=>(i ρ).bind λy=>(Tr.of (f x y)).bind λz=>.ret (.next (ρ.set k (.d z)))
theorem pK {k:Nat} {r:R2} {g:zc} (hv:cz r g) (h:PS X st (Zay k (TAe PK i) r)):PS X st (bG PK (ju g k i)):=h.imp λD σ H hz0=>by
 obtain ⟨pa,zm,H₀,m,ρ,G,R,z⟩:=hz0
 unfold ju aa at z
 split at z
 ·rename_i x hx
  obtain ⟨o,h1,h2⟩:=R.sl k _ hx
  cases h2 with
  | d d0 =>
   refine ⟨_,h1,?_⟩
   refine TAe.then R z λm1 y v G1 H1 s1 w1 R1 d1 q1=>?_
   rw [Tr.ok_bind] at q1
   obtain ⟨w,hw,q1⟩:=Tr.ok_of q1
   refine hv PK pa m1 G1 H1 _ v x y w _ w1 (d0.mono s1.gs) d1 hw λu G2 H2 s2 w2 d2=>?_
   exact q1 _ G2 H2 (s1.gs.trans s2.gs) ((R1.step s2 w2).set d2 k)
 ·exact z.elim
noncomputable def jv (k:Nat) (i:yZ):y8:=λρ=>match ρ[k]? with
 | some (.own xs)=>(i ρ).bind λx=>if small (xs.length+1)=true then .ret (.next (ρ.set k (.own (xs++[x])))) else .fail
 | _=>.fail
theorem DnAll.snoc {H:Hp} {vs:zi} {ds:ze} {v:V} {d:PyData} (h:DnAll H vs ds) (h1:Dn H v d):DnAll H (vs++[v]) (ds++[d]):=h.append (.cons h1 .nil)
theorem pL {k:Nat} {K:yY} {st:Stmt} (h:PS X st (qI (tBM K "list" Zco (fj k) (fk (TAe PK i) a9)))):PS X st (bG PK (jv k i)):=h.imp λD σ H hz0=>by
 obtain ⟨pa,zm,H₀,m,ρ,G,R,z⟩:=hz0
 unfold jv at z
 split at z
 ·rename_i xs hx
  obtain ⟨o,h1,h2⟩:=R.sl k _ hx
  cases h2 with
  | @own p vs _ a1 a2 a3 a4 =>
   refine ⟨_,h1,.inl ⟨rfl,_,SqL.of a1⟩,?_⟩
   refine TAe.then R z λm1 x v G1 H1 s1 w1 R1 d1 q1=>?_
   obtain ⟨hs,q1⟩:=gK q1
   obtain ⟨o,h1',h2⟩:=R1.sl k _ hx
   rw [h1] at h1'
   cases h1'
   cases h2 with
   | @own _ vs1 _ b1 b2 b3 b4 =>
    have hs':xs.length+1<=sizeLine:=of_decide_eq_true hs
    refine ⟨p,vs1,v,rfl,rfl,b1,by rw [b4.length]; omega,?_⟩
    exact q1 σ G1 _ s1.gs (R1.change hx h1 (b4.snoc d1))
 ·exact z.elim
theorem DnAll.set {H:Hp}:∀ {vs:zi} {ds:ze} {v:V} {d:PyData} (n:Nat),DnAll H vs ds->Dn H v d->DnAll H (vs.set n v) (ds.set n d)
 | _,_,_,_,_,.nil,_=>.nil
 | _,_,_,_,0,.cons _ t,h=>.cons h t
 | _,_,_,_,n+1,.cons g t,h=>.cons g (DnAll.set n t h)
noncomputable def kK (k:Nat) (n i:yZ):y8:=λρ=>(i ρ).bind λx=>match ρ[k]? with
 | some (.own xs)=>(n ρ).bind λy=>match y with
  | .int y=>(Tr.of (cR xs.length y)).bind λt=>.ret (.next (ρ.set k (.own (xs.set t x))))
  | _=>.fail
 | _=>.fail
theorem uB {k:Nat} {n:yZ} (h:PS X st (fI (TAe PK i) (Zd6 (fj k) (TAe PK n) rL))):PS X st (bG PK (kK k n i)):=h.imp λD σ H hz0=>by
 obtain ⟨pa,zm,H₀,m,ρ,G,R,z⟩:=hz0
 refine TAe.then R z λm1 x v G1 H1 s1 w1 R1 d1 q1=>?_
 split at q1
 ·rename_i xs hx
  obtain ⟨o,h1,h2⟩:=R1.sl k _ hx
  cases h2 with
  | @own p vs _ a1 a2 a3 a4 =>
   refine ⟨_,h1,?_⟩
   refine TAe.then R1 q1 λm2 y u G2 H2 s2 w2 R2 d2 q2=>?_
   obtain ⟨o,h1',h2⟩:=R2.sl k _ hx
   rw [h1] at h1'
   cases h1'
   cases h2 with
   | @own _ vs2 _ b1 b2 b3 b4 =>
    cases d2 with
    | int y =>
     rw [Tr.ok_bind] at q2
     obtain ⟨n',hn,q2⟩:=Tr.ok_of q2
     refine ⟨p,vs2,y,n',rfl,rfl,b1,by rw [b4.length]; exact hn,?_⟩
     exact q2 σ G2 _ (s1.gs.trans s2.gs) (R2.change hx h1 (b4.set n' (d1.mono s2.gs)))
    | _=>exact q2.elim
 ·exact q1.elim
theorem DnAll.reverse {H:Hp} {vs:zi} {ds:ze} (h:DnAll H vs ds):DnAll H vs.reverse ds.reverse:=by
 induction vs generalizing ds with
 | nil=>cases h; exact .nil
 | cons v vs ih=>cases h with | cons r t=>rw [xq,xq]; exact DnAll.append (ih t) (.cons r .nil)
noncomputable def my (k:Nat):y8:=λρ=>match ρ[k]? with
 | some (.own xs)=>.ret (.next (ρ.set k (.own xs.reverse)))
 | _=>.fail
theorem ZiH {k:Nat} {K:yY} (h:PS X st (qI (Zav K "list" Zb7 (fj k)))):PS X st (bG PK (my k)):=h.imp λD σ H hz0=>by
 obtain ⟨pa,zm,H₀,m,ρ,G,R,z⟩:=hz0
 unfold my at z
 split at z
 ·rename_i xs hx
  obtain ⟨o,h1,h2⟩:=R.sl k _ hx
  cases h2 with
  | @own p vs _ a1 a2 a3 a4 =>
   refine ⟨_,h1,.inl ⟨rfl,_,SqL.of a1⟩,p,vs,rfl,rfl,a1,?_⟩
   exact z σ G _ .refl (R.change hx h1 a4.reverse)
 ·exact z.elim
noncomputable def kL (k:Nat) (s:y8):y8:=λρ=>s (fz k ρ)
theorem pJ {k:Nat} (h:PS X st (bG PK s)):PS X st (bG PK (kL k s)):=h.imp λD σ H hz0=>by
 obtain ⟨pa,zm,H₀,m,ρ,G,R,z⟩:=hz0
 obtain ⟨G',sb,R'⟩:=R.freeze k
 exact ⟨pa,zm,H₀,m,_,G',R',Tr.ok_mono z λ_ _ k'=>Ko.later k' sb⟩
def gy (PK:Pk) (g:zb):TG:=λv σ H Q=>∃ pa zm H₀ m ρ G x ρ',Rl PK pa zm H₀ m σ ρ G H/\Dn G v x/\g x ρ=some ρ'/\∀ σ',Rl PK pa zm H₀ m σ' ρ' G H->Q σ' H
noncomputable def p8 (PK:Pk) (g:za):gY:=λvs σ H Q=>∃ pa zm H₀ m ρ G xs ρ',Rl PK pa zm H₀ m σ ρ G H/\DnAll G vs xs/\g xs ρ=some ρ'/\∀ σ',Rl PK pa zm H₀ m σ' ρ' G H->Q σ' H
theorem PG.imp {tg:Expr} {t t':TG} (h:PG X tg t) (q:∀ v σ H Q,t' v σ H Q->t v σ H Q):PG X tg t':=λpins s σ H v u Q I r z=>h pins s σ H v u Q I r (q v σ H Q z)
theorem PGs.imp {tg:List Expr} {t t':gY} (h:PGs X tg t) (q:∀ v σ H Q,t' v σ H Q->t v σ H Q):PGs X tg t':=λpins s σ H v u Q I r z=>h pins s σ H v u Q I r (q v σ H Q z)
noncomputable def af (k:Nat):zb:=λx ρ=>some (ρ.set k (.d x))
theorem aP {k:Nat} (h:PG X e (gu k)):PG X e (gy PK (af k)):=h.imp λv σ H Q hz0=>by
 obtain ⟨pa,zm,H₀,m,ρ,G,x,ρ',R,d,e,q⟩:=hz0
 cases e
 exact q _ (R.set d k)
noncomputable def bc:za:=λxs ρ=>match xs with
 | []=>some ρ
 | _=>none
noncomputable def am (g:zb) (gs:za):za:=λxs ρ=>match xs with
 | x::xs=>(g x ρ).bind λρ'=>gs xs ρ'
 | []=>none
theorem cx:PGs X [] (p8 PK bc):=Zly.imp λvs σ H Q hz0=>by
 obtain ⟨pa,zm,H₀,m,ρ,G,xs,ρ',R,d,e,q⟩:=hz0
 cases d with
 | nil=>cases e; exact ⟨rfl,q _ R⟩
 | cons _ _=>cases e
theorem aZ {g:zb} {gs:za} (h1:PG X e (gy PK g)) (h2:PGs X es (p8 PK gs))
  (hs:(assignEach (e::es) X.env).map (·.2)=assign e X.env::(assignEach es X.env).map (·.2):=by rfl):PGs X (e::es) (p8 PK (am g gs)):=(Zlz h1 h2 hs).imp λvs σ H Q hz0=>by
 obtain ⟨pa,zm,H₀,m,ρ,G,xs,ρ',R,d,e,q⟩:=hz0
 cases d with
 | nil=>cases e
 | cons d1 d2 =>
  have e':(g _ ρ).bind (λρ'=>gs _ ρ')=some ρ':=e
  cases h:g _ ρ with
  | none=>rw [h] at e'; cases e'
  | some ρ1 =>
   rw [h] at e'
   exact ⟨_,_,rfl,pa,zm,H₀,m,ρ,G,_,ρ1,R,d1,h,λσ1 R1=>⟨pa,zm,H₀,m,ρ1,G,_,ρ',R1,d2,e',q⟩⟩
noncomputable def bd (gs:za):zb:=λx ρ=>match x with
 | .tuple xs=>gs xs ρ
 | _=>none
def oV (n:Nat) (gs:za):Prop:=∀ xs ρ ρ',gs xs ρ=some ρ'->xs.length=n
theorem cu:oV 0 bc:=λxs ρ ρ' h=>by cases xs with | nil=>rfl | cons _ _=>cases h
theorem aY {n:Nat} {g:zb} {gs:za} (h:oV n gs):oV (n+1) (am g gs):=λxs ρ ρ' e=>by
 cases xs with
 | nil=>cases e
 | cons x xs =>
  have e':(g x ρ).bind (λρ'=>gs xs ρ')=some ρ':=e
  cases h1:g x ρ with
  | none=>rw [h1] at e'; cases e'
  | some ρ1 =>
   rw [h1] at e'
   exact congrArg (·+1) (h xs ρ1 ρ' e')
theorem cy {k:Nat} {gs:za} {n:Nat} (hc:X.calm=true) (h:PGs X es (p8 PK gs)) (hl:oV n gs)
  (hn:(assignEach es X.env).length=n:=by rfl) (hst:(assignEach es X.env).findIdx? (·.1)=none:=by rfl):PG X (.Tuple es k pos) (gy PK (bd gs)):=(ZlA hc h hn hst).imp λv σ H Q hz0=>by
 obtain ⟨pa,zm,H₀,m,ρ,G,x,ρ',R,d,e,q⟩:=hz0
 cases d with
 | tup h1 h2=>exact ⟨_,_,rfl,SqT.of (R.wd.sub _ _ h1),by rw [h2.length]; exact hl _ _ _ e,pa,zm,H₀,m,ρ,G,_,ρ',R,h2,e,q⟩
 | _=>cases e
noncomputable def fg (g:zb) (i:yZ):y8:=λρ=>(i ρ).bind λx=>(Tr.of (g x ρ)).bind λρ'=>.ret (.next ρ')
theorem fQ {g:zb} (h:PS X st (fI (TAe PK i) (gy PK g))):PS X st (bG PK (fg g i)):=h.imp λD σ H hz0=>by
 obtain ⟨pa,zm,H₀,m,ρ,G,R,z⟩:=hz0
 refine TAe.then R z λm1 x v G1 H1 s1 w1 R1 d1 q1=>?_
 rw [Tr.ok_bind] at q1
 obtain ⟨ρ',hg,q1⟩:=Tr.ok_of q1
 exact ⟨pa,zm,H₀,m1,ρ,G1,x,ρ',R1,d1,hg,λσ' R'=>q1 σ' G1 H1 s1.gs R'⟩
noncomputable def jr (k n:Nat) (is:y4):y8:=λρ=>(is ρ).bind λxs=>match xs with
 | [x,y]=>.ret (.next ((ρ.set k (.d x)).set n (.d y)))
 | _=>.fail
theorem pI {k n:Nat} (h:PS X st (Zas k n (TAd PK is))):PS X st (bG PK (jr k n is)):=h.imp λD σ H hz0=>by
 obtain ⟨pa,zm,H₀,m,ρ,G,R,z⟩:=hz0
 refine TAd.then R z λm1 xs vs G1 H1 s1 w1 R1 d1 q1=>?_
 split at q1
 ·cases d1 with
  | cons e1 d1 =>
   cases d1 with
   | cons e2 d1 =>
    cases d1
    exact ⟨_,_,rfl,q1 _ G1 H1 s1.gs ((R1.set e1 k).set e2 n)⟩
 ·exact q1.elim
def iG (PK:Pk) (pa:Addr) (J:It) (G:Hp) (xs:ze):Prop:=∀ m G2 H2,Sub G G2->Wd PK pa m G2 H2 ->
 (∀ (n:Nat) (d:PyData),xs[n]?=some d->J.go n H2/\∀ x H3,J.yld n H2 x H3->∃ G3,Stp pa G2 H2 G3 H3/\Wd PK pa m G3 H3/\Dn G3 x d)/\J.stop xs.length H2
def eN (PK:Pk) (is:y4):TI:=λσ H R=>∃ pa zm H₀ m ρ G,Rl PK pa zm H₀ m σ ρ G H/\(is ρ).ok m λm' xs=>∀ J G' H',Stp pa G H G' H'->Wd PK pa m' G' H'->iG PK pa J G' xs->R J H'
theorem PI.imp {tg iter:Expr} {t t':TI} (h:PI X tg iter t) (q:∀ σ H R,t' σ H R->t σ H R):PI X tg iter t':=λpins s σ H R I z=>h pins s σ H R I (q σ H R z)
noncomputable def bX (g:zb) (s:y8):List PyData->List Sl->Tr Ou
 | [],ρ=>.ret (.next ρ)
 | x::xs,ρ=>(Tr.of (g x ρ)).bind λρ1=>(s ρ1).bind λo=>match o with
  | .next ρ2=>bX g s xs ρ2
  | .cont ρ2=>bX g s xs ρ2
  | .brk ρ2=>.ret (.next ρ2)
  | .ret r=>.ret (.ret r)
noncomputable def cW (is:y4) (g:zb) (s:y8):y8:=λρ=>(is ρ).bind λxs=>bX g s xs ρ
theorem dc {tg iter:Expr} {body:List Stmt} {g:zb} (hp:PassesOwn (model X.prog X.w) X.A X.env X.xe) (hc:X.calm=true) (hi:PI X tg iter (eN PK is)) (hg:PG X tg (gy PK g)) (hb:PSs X body (bG PK s))
  (hs:∀ x,foldedSetIterable iter X.env x=pure x:=by intro _; rfl):PS X (.For tg iter body [] pos) (bG PK (cW is g s)):=(Zlq hp hc hi hg hb hs).imp λD σ H hz0=>by
 obtain ⟨pa,zm,H₀,m,ρ,G,R,z⟩:=hz0
 refine ⟨pa,zm,H₀,m,ρ,G,R,Tr.ok_mono (Tr.ok_bind.mp z) λm1 xs k J G1 H1 s1 w1 jo=>?_⟩
 let W:Nat->Nat->St->Hp->Prop:=λn mm σ H=>mm=xs.length - n/\n<=xs.length/\∃ m ρ G,Sub G1 G/\Rl PK pa zm H₀ m σ ρ G H/\(bX g s (xs.drop n) ρ).ok m (Ko PK pa zm H₀ G1 D)
 refine ⟨W,⟨xs.length,rfl,xg _,m1,ρ,G1,λ_ _ h=>h,R.step s1 w1,Tr.ok_mono k λ_ _ k'=>Ko.later k' s1.gs⟩,?_⟩
 rintro n mm σ2 H2 ⟨rfl,hn,m2,ρ2,G2,sb,R2,k2⟩
 obtain ⟨j1,j2⟩:=jo m2 G2 H2 sb R2.wd
 by_cases hlt:n < xs.length
 ·have hx:xs[n]?=some xs[n]:=by simp [hlt]
  obtain ⟨jg,jy⟩:=j1 n _ hx
  refine .inr ⟨jg,W (n+1) (xs.length - (n+1)),λσ' H' h'=>⟨_,by omega,h'⟩,λx H3 y=>?_⟩
  obtain ⟨G3,s3,w3,d3⟩:=jy x H3 y
  rw [wm hlt] at k2
  unfold bX at k2
  rw [Tr.ok_bind] at k2
  obtain ⟨ρ3,hg3,k3⟩:=Tr.ok_of k2
  refine ⟨pa,zm,H₀,m2,ρ2,G3,_,ρ3,R2.step s3 w3,d3,hg3,λσ4 R4=>?_⟩
  refine ⟨pa,zm,H₀,m2,ρ3,G3,R4,Tr.ok_mono (Tr.ok_bind.mp k3) λm5 o ko=>?_⟩
  have again:∀ ρ5,(bX g s (xs.drop (n+1)) ρ5).ok m5 (Ko PK pa zm H₀ G1 D)->∀ σ5 G5 H5,Sub G3 G5->Rl PK pa zm H₀ m5 σ5 ρ5 G5 H5->W (n+1) (xs.length - (n+1)) σ5 H5:=λρ5 k5 σ5 G5 H5 sb5 R5 =>
   ⟨rfl,hlt,m5,ρ5,G5,(sb.trans s3.gs).trans sb5,R5,k5⟩
  cases o with
  | next ρ5=>exact again ρ5 ko
  | cont ρ5=>exact again ρ5 ko
  | brk ρ5=>exact λσ5 G5 H5 sb5 R5=>ko σ5 G5 H5 ((sb.trans s3.gs).trans sb5) R5
  | ret r=>exact ko
 ·have e:n=xs.length:=by omega
  subst e
  refine .inl ⟨j2,?_⟩
  rw [wL] at k2
  exact k2 σ2 G2 H2 sb R2
end L2
set_option Elab.async false
set_option linter.all false
set_option maxRecDepth 100000
namespace L2
variable {PK:Pk} {X:Cx} {a b c e:Expr} {es:List Expr} {pos:Pos} {i j l:yZ} {is:y4} {as:List Sl->Tr zl} {f:y9} {p q:y6} {st:Stmt} {sts:List Stmt} {s t u:y8}
noncomputable def c5 (p:y6) (s:y8):Nat->List Sl->Tr Ou
 | 0,_=>.fail
 | n+1,ρ=>(p ρ).bind λb=>if b=true then (s ρ).bind λo=>match o with
   | .next ρ2=>c5 p s n ρ2
   | .cont ρ2=>c5 p s n ρ2
   | .brk ρ2=>.ret (.next ρ2)
   | .ret r=>.ret (.ret r)
  else .ret (.next ρ)
theorem uA {body:List Stmt} (n:Nat) (hp:PassesOwn (model X.prog X.w) X.A X.env X.xe) (hc:PT X c (TAt PK p)) (hb:PSs X body (bG PK s)):PS X (.While c body [] pos) (bG PK (c5 p s n)):=(Zlo hp hc hb).imp λD σ H hz0=>by
 obtain ⟨pa,zm,H₀,m,ρ,G,R,z⟩:=hz0
 let W:Nat->St->Hp->Prop:=λn σ H=>∃ m ρ G1,Sub G G1/\Rl PK pa zm H₀ m σ ρ G1 H/\(c5 p s n ρ).ok m (Ko PK pa zm H₀ G D)
 refine ⟨W,⟨n,m,ρ,G,.refl,R,z⟩,?_⟩
 rintro n σ2 H2 ⟨m2,ρ2,G2,sb,R2,k2⟩
 cases n with
 | zero=>exact k2.elim
 | succ n =>
  unfold c5 at k2
  refine TAt.then R2 k2 λm3 x G3 H3 s3 w3 R3 k3=>?_
  cases x with
  | false =>
   rw [if_neg vD] at k3 ⊢
   exact k3 σ2 G3 H3 (sb.trans s3.gs) R3
  | true =>
   rw [if_pos rfl] at k3 ⊢
   refine ⟨W n,λσ' H' h=>⟨n,by omega,h⟩,pa,zm,H₀,m3,ρ2,G3,R3,Tr.ok_mono (Tr.ok_bind.mp k3) λm4 o ko=>?_⟩
   have again:∀ ρ5,(c5 p s n ρ5).ok m4 (Ko PK pa zm H₀ G D)->∀ σ5 G5 H5,Sub G3 G5->Rl PK pa zm H₀ m4 σ5 ρ5 G5 H5->W n σ5 H5:=λρ5 k5 σ5 G5 H5 sb5 R5 =>
    ⟨m4,ρ5,G5,(sb.trans s3.gs).trans sb5,R5,k5⟩
   cases o with
   | next ρ5=>exact again ρ5 ko
   | cont ρ5=>exact again ρ5 ko
   | brk ρ5=>exact λσ5 G5 H5 sb5 R5=>ko σ5 G5 H5 ((sb.trans s3.gs).trans sb5) R5
   | ret r=>exact ko
noncomputable def pB:Sl->Sl
 | .own _=>.un
 | .dic _=>.un
 | s=>s
noncomputable def blk (n:Nat) (ix:List Nat) (ρ:zl):zl:=List.replicate n .un++ix.map λj=>pB ((ρ[j]?).getD .un)
theorem Rl.blk {pa:Addr} {zm H₀ G H:Hp} {m:Nat} {σ:St} {ρ:zl} (R:Rl PK pa zm H₀ m σ ρ G H) (n:Nat) (ix:List Nat):Rl PK pa zm H₀ m (df n ix σ) (blk n ix ρ) G H:=by
 have key:∀ (k:Nat) (s:Sl),(L2.blk n ix ρ)[k]?=some s->(∃ o,(df n ix σ)[k]?=some o/\SlOk pa H₀ G H o s)/\(∀ xs,s≠.own xs)/\∀ xs,s≠.dic xs:=λk s h=>by
  unfold L2.blk at h
  unfold df
  by_cases hk:k < n
  ·rw [v8 (by simpa using hk),vW,if_pos hk] at h
   rw [v8 (by simpa using hk),vW,if_pos hk]
   cases h
   exact ⟨⟨_,rfl,.un⟩,(λxs h=>by cases h),λxs h=>by cases h⟩
  ·rw [v5 (by simpa using xu hk),wX,vg] at h
   rw [v5 (by simpa using xu hk),wX,vg]
   cases hj:ix[k - n]? with
   | none=>rw [hj] at h; cases h
   | some j =>
    rw [hj] at h
    have h':pB ((ρ[j]?).getD .un)=s:=vX h
    subst h'
    show (∃ o,some ((σ[j]?).getD none)=some o/\_)/\_
    cases hr:ρ[j]? with
    | none=>exact ⟨⟨_,rfl,.un⟩,(λxs h=>by cases h),λxs h=>by cases h⟩
    | some s' =>
     obtain ⟨o,h1,h2⟩:=R.sl j s' hr
     rw [h1]
     cases h2 with
     | un=>exact ⟨⟨_,rfl,.un⟩,(λxs h=>by cases h),λxs h=>by cases h⟩
     | d z=>exact ⟨⟨_,rfl,.d z⟩,(λxs h=>by cases h),λxs h=>by cases h⟩
     | own _ _ _ _=>exact ⟨⟨_,rfl,.un⟩,(λxs h=>by cases h),λxs h=>by cases h⟩
     | dic _ _ _ _=>exact ⟨⟨_,rfl,.un⟩,(λxs h=>by cases h),λxs h=>by cases h⟩
     | pen=>exact ⟨⟨_,rfl,.pen⟩,(λxs h=>by cases h),λxs h=>by cases h⟩
 refine ⟨R.wd,R.st,R.p0,λk s h=>(key k s h).1,?_,λk n' xs ys _ h1 _=>absurd rfl ((key k _ h1).2.1 xs),λk n' xs ys _ h1 _=>absurd rfl ((key k _ h1).2.2 xs)⟩
 unfold L2.blk df
 simp
def iD (n:Nat) (g:zb):Prop:=∀ x ρ ρ',g x ρ=some ρ'->ρ'.length=ρ.length/\∀ k,n<=k->ρ'[k]?=ρ[k]?
def p9 (n:Nat) (g:za):Prop:=∀ x ρ ρ',g x ρ=some ρ'->ρ'.length=ρ.length/\∀ k,n<=k->ρ'[k]?=ρ[k]?
theorem b8 {n k:Nat} (h:k < n):iD n (af k):=λx ρ ρ' e=>by
 cases e
 exact ⟨wc,λj hj=>vI (by omega)⟩
theorem gI {n:Nat}:p9 n bc:=λx ρ ρ' e=>by
 cases x with
 | nil=>cases e; exact ⟨rfl,λ_ _=>rfl⟩
 | cons _ _=>cases e
theorem c6 {n:Nat} {g:zb} {gs:za} (h1:iD n g) (h2:p9 n gs):p9 n (am g gs):=λx ρ ρ' e=>by
 cases x with
 | nil=>cases e
 | cons x xs =>
  have e':(g x ρ).bind (λρ'=>gs xs ρ')=some ρ':=e
  cases h:g x ρ with
  | none=>rw [h] at e'; cases e'
  | some ρ1 =>
   rw [h] at e'
   obtain ⟨a1,a2⟩:=h1 x ρ ρ1 h
   obtain ⟨b1,b2⟩:=h2 xs ρ1 ρ' e'
   exact ⟨b1.trans a1,λk hk=>(b2 k hk).trans (a2 k hk)⟩
theorem gH {n:Nat} {gs:za} (h2:p9 n gs):iD n (bd gs):=λx ρ ρ' e=>by
 cases x with
 | tuple xs=>exact h2 xs ρ ρ' e
 | _=>cases e
noncomputable def br (h:PyData->Tr PyData):List PyData->Tr ze
 | []=>.ret []
 | x::xs=>(h x).bind λy=>(br h xs).bind λys=>.ret (y::ys)
noncomputable def cG (is:y4) (n:Nat) (ix:List Nat) (g:zb) (el:yZ):y4:=λρ =>
 (is ρ).bind λxs=>if small xs.length=true then br (λx=>(Tr.of (g x (blk n ix ρ))).bind el) xs else .fail
theorem Rl.weak {pa:Addr} {zm H₀ G H:Hp} {m:Nat} {σ:St} {ρ ρ':zl} (R:Rl PK pa zm H₀ m σ ρ' G H) (hl:ρ'.length=ρ.length) (h:∀ (k:Nat) (s:Sl),ρ[k]?=some s->s=.un\/ρ'[k]?=some s):Rl PK pa zm H₀ m σ ρ G H:=by
 refine ⟨R.wd,R.st,R.p0,λk s hk=>?_,hl.symm.trans R.len,λk n xs ys hkn h1 h2=>?_,λk n xs ys hkn h1 h2=>?_⟩
 ·rcases h k s hk with e | e
  ·subst e
   have hlt:k < σ.length:=by
    rw [<- R.len,hl]
    exact (vf.mp hk).1
   exact ⟨σ[k],by simp [hlt],.un⟩
  ·exact R.sl k s e
 ·rcases h k _ h1 with e | e
  ·cases e
  ·rcases h n _ h2 with e' | e'
   ·cases e'
   ·exact R.dj k n xs ys hkn e e'
 ·rcases h k _ h1 with e | e
  ·cases e
  ·rcases h n _ h2 with e' | e'
   ·cases e'
   ·exact R.dj2 k n xs ys hkn e e'
theorem Zdu {n:Nat} {ix:List Nat} {g:zb} (hn:iD n g):∀ σ H Q,eM PK (cG is n ix g i) σ H Q->kQ (eN PK is) n ix (λ_=>gy PK g) (λ_=>TAe PK i) σ H Q:=by
 rintro σ H Q ⟨pa,zm,H₀,m,ρ,G,R,z⟩
 refine ⟨pa,zm,H₀,m,ρ,G,R,Tr.ok_mono (Tr.ok_bind.mp z) λm1 xs k J G1 H1 s1 w1 jo=>λB=>?_⟩
 obtain ⟨hs,k⟩:=gK k
 have hs:xs.length<=sizeLine:=of_decide_eq_true hs
 let el:PyData->Tr PyData:=λx=>(Tr.of (g x (blk n ix ρ))).bind i
 let W:Nat->Nat->St->List V->Hp->Prop:=λk mm τ ys H2=>mm=xs.length - k/\k<=xs.length/\ys.length=k/\∃ m G2 ds,Sub G1 G2/\Stp pa G H G2 H2/\Rl PK pa zm H₀ m τ (blk n ix ρ) G2 H2 /\
  DnAll G2 ys ds/\(br el (xs.drop k)).ok m λm' zs=>Ko1 PK pa m' G H (ds++zs) Q
 refine ⟨W,⟨xs.length,rfl,xg _,rfl,m1,G1,[],.refl,s1,(R.step s1 w1).blk n ix,.nil,k⟩,?_⟩
 rintro k mm τ ys H2 ⟨rfl,hk,hy,m2,G2,ds,sb,st2,R2,dn,k2⟩
 obtain ⟨j1,j2⟩:=jo m2 G2 H2 sb R2.wd
 by_cases hlt:k < xs.length
 ·have hx:xs[k]?=some xs[k]:=by simp [hlt]
  obtain ⟨jg,jy⟩:=j1 k _ hx
  refine .inr ⟨jg,by omega,λx H3 y=>?_⟩
  obtain ⟨G3,s3,w3,d3⟩:=jy x H3 y
  rw [wm hlt] at k2
  unfold br at k2
  rw [Tr.ok_bind,Tr.ok_bind] at k2
  obtain ⟨ρ3,hg3,k3⟩:=Tr.ok_of k2
  refine ⟨pa,zm,H₀,m2,_,G3,_,ρ3,R2.step s3 w3,d3,hg3,λτ4 R4=>?_⟩
  refine ⟨pa,zm,H₀,m2,ρ3,G3,R4,Tr.ok_mono k3 λm5 yd k5=>?_⟩
  intro v G5 H5 s5 w5 d5
  have s35:=s3.trans s5 w3.some
  obtain ⟨pl,pk⟩:=hn _ _ _ hg3
  refine ⟨xs.length - (k+1),by omega,rfl,hlt,by rw [v6,hy]; rfl,m5,G5,ds++[yd],sb.trans s35.gs,st2.trans s35 R2.wd.some,?_,(DnAll.mono s35.gs dn).snoc d5,?_⟩
  ·refine (R4.step s5 w5).weak pl λq sl hq=>?_
   by_cases hqn:q < n
   ·left
    unfold blk at hq
    rw [v8 (by simpa using hqn),vW,if_pos hqn] at hq
    cases hq
    rfl
   ·right
    rw [pk q (xu hqn)]
    exact hq
  ·refine Tr.ok_mono (Tr.ok_bind.mp k5) λm6 zs k6=>?_
   rw [xa]
   exact k6
 ·have e:k=xs.length:=by omega
  subst e
  refine .inl ⟨j2,λp v H' hp ev eH=>?_⟩
  subst ev eH
  rw [wL] at k2
  have k2':Ko1 PK pa m2 G H (ds++[]) Q:=k2
  rw [wn] at k2'
  exact (Ko1.later k2' st2 R2.wd.some).new R2.wd dn hp
theorem dB {n:Nat} {ix:List Nat} {g:zb} (h:PE X e (kQ (eN PK is) n ix (λ_=>gy PK g) (λ_=>TAe PK i))) (hn:iD n g):PE X e (eM PK (cG is n ix g i)):=h.imp (Zdu hn)
theorem Zj5 {te te':TE} {g:TG} (h:∀ σ H Q,te' σ H Q->te σ H Q):∀ D σ H,fI te' g D σ H->fI te g D σ H:=λD σ H z=>h σ H _ z
noncomputable def oX:Ou->Tr Re
 | .next _=>.ret (.d .none)
 | .ret r=>.ret r
 | _=>.fail
noncomputable def bg (n k:Nat) (s:y8):y9:=λas=>if decide (as.length=n)=true then (s (as++List.replicate k .un)).bind oX else .fail
theorem Rl.start {pa:Addr} {G H:Hp} {m:Nat} {N:zh} {vs:zi} {as:zl} {k:Nat} (w:Wd PK pa m G H) (ar:ArsOk pa G vs as) (hk:N.length - vs.length=k):Rl PK pa G H m (L2.start N vs) (as++List.replicate k .un) G H:=by
 have key:∀ {vs:zi} {as:zl},ArsOk pa G vs as->∀ (q:Nat) (s:Sl),as[q]?=some s->(∃ o,(vs.map some)[q]?=some o/\SlOk pa H G H o s)/\(∀ xs,s≠.own xs)/\∀ xs,s≠.dic xs:=by
  intro vs as h
  induction h with
  | nil=>intro q s h; simp at h
  | cons h1 h2 ih =>
   intro q s h
   cases q with
   | zero =>
    simp at h
    subst h
    cases h1 with
    | d z=>exact ⟨⟨_,rfl,.d z⟩,(λxs h=>by cases h),λxs h=>by cases h⟩
    | pen=>exact ⟨⟨_,rfl,.pen⟩,(λxs h=>by cases h),λxs h=>by cases h⟩
   | succ q =>
    obtain ⟨⟨o,p1,p2⟩,p3⟩:=ih q s (by simpa using h)
    exact ⟨⟨o,by simpa using p1,p2⟩,p3⟩
 have hl:=ar.length
 have key2:∀ (q:Nat) (s:Sl),(as++List.replicate k .un)[q]?=some s->(∃ o,(L2.start N vs)[q]?=some o/\SlOk pa H G H o s)/\(∀ xs,s≠.own xs)/\∀ xs,s≠.dic xs:=λq s h=>by
  unfold L2.start
  by_cases hq:q < as.length
  ·rw [v8 hq] at h
   rw [v8 (by rw [vd,hl]; exact hq)]
   exact key ar q s h
  ·rw [v5 (by omega),vW] at h
   rw [v5 (by rw [vd]; omega),vW,vd,hl]
   split at h
   ·rename_i hq2
    cases h
    rw [if_pos (by omega)]
    exact ⟨⟨_,rfl,.un⟩,(λxs h=>by cases h),λxs h=>by cases h⟩
   ·cases h
 refine ⟨w,.refl,w.some,λq s h=>(key2 q s h).1,?_,λq n xs ys _ h1 _=>absurd rfl ((key2 q _ h1).2.1 xs),λq n xs ys _ h1 _=>absurd rfl ((key2 q _ h1).2.2 xs)⟩
 unfold L2.start
 simp [hl,hk]
 omega
theorem bA {P:Program} {w:World} {K:yY} {mg:zj} {base:Heap} {x:Str} {N ps:zh} {kk k:Nat} (D:Def K mg x st ps) (S:FnScope N ps (aL st)) (hk:N.length - ps.length=k)
  (hbody:∀ (f:Addr) (cdv:Value) (A:Around) (outer:List Env) (sh:Shared) (H:Hp) (E:XK),Room kk (A.deeper (envOfC x (aL st) sh.heap.objs.size f cdv)) ->
   PSs (gR hU P w K mg base N x (aL st) f cdv A outer sh H E).nox (gv st) (bG PK s)):ACal PK P w K mg base x (kk+1) ps (bg ps.length k s):=by
 have len:∀ as m Z,(bg ps.length k s as).ok m Z->as.length=ps.length:=λas m Z h=>by
  unfold bg at h
  exact of_decide_eq_true (gK h).1
 refine ⟨D.ok S (λvs H Q E h=>h.1) λf cdv A outer sh H vs Q E hr hsp=>?_,len⟩
 obtain ⟨hv,pa,m,G,as,wd,ar,z⟩:=hsp
 refine ⟨_,hbody f cdv A outer sh H E hr,?_⟩
 unfold bg at z
 obtain ⟨_,z⟩:=gK z
 refine ⟨pa,G,H,m,_,G,Rl.start wd ar (by rw [hv]; exact hk),Tr.ok_mono (Tr.ok_bind.mp z) λm1 o ko=>?_⟩
 cases o with
 | next ρ=>exact λσ G1 H1 sb R1=>ko .non G1 H1 R1.st R1.wd .non
 | ret r=>exact ko
 | brk ρ=>exact ko.elim
 | cont ρ=>exact ko.elim
theorem Zlw {tg l:Expr} {tl:TE} (hl:PE X l tl):PI X tg l (λσ H R=>tl σ H λx H1=>∃ a,x=.ref a/\((∃ xs,SqL X.K H1 a xs/\R (u7 X.K a) H1)\/(∃ xs,SqT X.K H1 a xs/\R (u6 X.K a) H1))):=by
 intro pins s σ H R I h
 refine thn (hl pins s σ H _ I h) λv s1 hz0=>?_
 obtain ⟨x,H1,I1,r1,q1⟩:=hz0
 obtain ⟨a,e,q⟩:=q1
 subst e
 cases r1
 rcases q with ⟨xs,hq,q⟩ | ⟨xs,hq,q⟩
 ·obtain ⟨its,rv,p,hz⟩:=I1.list hq
  refine wpAny_pyIter_list p.isList ?_
  refine ⟨s1.heap.objs.size,[s1.heap.objs.size],_,_,H1,rfl,I1.kept (t':=s1.toks) λb o e=>vc _ e,Zjz a _,⟨_,vn _ rfl,rfl,rfl⟩,λb hb=>?_,q⟩
  have e:b=s1.heap.objs.size:=by simpa using hb
  subst e
  exact I1.fpOk (vo _) (I1.hok.fresh (vo _))
 ·obtain ⟨its,rv,p,hz⟩:=I1.tuple hq
  refine wpAny_pyIter_tuple (show s1.heap.IsTuple a its.toArray from p) ?_
  refine ⟨s1.heap.objs.size,[s1.heap.objs.size],_,_,H1,rfl,I1.kept (t':=s1.toks) λb o e=>vc _ e,Zjw a _,⟨_,vn _ rfl,rfl,rfl⟩,λb hb=>?_,q⟩
  have e:b=s1.heap.objs.size:=by simpa using hb
  subst e
  exact I1.fpOk (vo _) (I1.hok.fresh (vo _))
theorem DnAll.get {H:Hp}:∀ {vs:zi} {ds:ze} (n:Nat) {d:PyData},DnAll H vs ds->ds[n]?=some d->∃ v,vs[n]?=some v/\Dn H v d
 | _,_,_,_,.nil,e=>by simp at e
 | _,_,0,_,.cons g t,e=>by simp at e; subst e; exact ⟨_,rfl,g⟩
 | _,_,n+1,_,.cons g t,e=>by
  obtain ⟨v,h1,h2⟩:=DnAll.get n t (by simpa using e)
  exact ⟨v,by simpa using h1,h2⟩
theorem Znq {K:yY} {pa a:Addr} {G:Hp} {vs:zi} {xs:ze} (h:G a=some (.lst vs)) (d:DnAll G vs xs):iG PK pa (u7 K a) G xs:=λm G2 H2 sb w=>by
 have hq:SqL K H2 a vs:=SqL.of (w.sub _ _ (sb _ _ h))
 refine ⟨λn x hx=>?_,vs,hq,by rw [d.length]; exact vo _⟩
 obtain ⟨v,hv,dv⟩:=d.get n hx
 refine ⟨⟨vs,v,hq,hv⟩,λy H3 hz0=>?_⟩
 obtain ⟨e,hy⟩:=hz0
 subst e
 have:=hy vs hq
 rw [hv] at this
 cases this
 exact ⟨G2,.refl,w,dv.mono sb⟩
theorem Zno {K:yY} {pa a:Addr} {G:Hp} {vs:zi} {xs:ze} (h:G a=some (.tup vs)) (d:DnAll G vs xs):iG PK pa (u6 K a) G xs:=λm G2 H2 sb w=>by
 have hq:SqT K H2 a vs:=SqT.of (w.sub _ _ (sb _ _ h))
 refine ⟨λn x hx=>?_,vs,hq,by rw [d.length]; exact vo _⟩
 obtain ⟨v,hv,dv⟩:=d.get n hx
 refine ⟨⟨vs,v,hq,hv⟩,λy H3 hz0=>?_⟩
 obtain ⟨e,hy⟩:=hz0
 subst e
 have:=hy vs hq
 rw [hv] at this
 cases this
 exact ⟨G2,.refl,w,dv.mono sb⟩
noncomputable def fN:PyData->Option ze
 | .list xs=>some xs
 | .tuple xs=>some xs
 | _=>none
@[simp] theorem ZrG (xs:ze):fN (.list xs)=some xs:=rfl
@[simp] theorem ZrF (xs:ze):fN (.tuple xs)=some xs:=rfl
noncomputable def cZ (i:yZ):y4:=λρ=>(i ρ).bind λx=>Tr.of (fN x)
theorem dg {tg l:Expr} (hl:PE X l (TAe PK i)):PI X tg l (eN PK (cZ i)):=(Zlw hl).imp λσ H R0 hz0=>by
 obtain ⟨pa,zm,H₀,m,ρ,G,R,z⟩:=hz0
 refine TAe.then R z λm1 x v G1 H1 s1 w1 R1 d1 q1=>?_
 obtain ⟨xs,hx,q1⟩:=Tr.ok_of q1
 cases d1 with
 | lst h1 h2=>cases hx; exact ⟨_,rfl,.inl ⟨_,SqL.of (w1.sub _ _ h1),q1 _ G1 H1 s1 w1 (Znq h1 h2)⟩⟩
 | tup h1 h2=>cases hx; exact ⟨_,rfl,.inr ⟨_,SqT.of (w1.sub _ _ h1),q1 _ G1 H1 s1 w1 (Zno h1 h2)⟩⟩
 | _=>cases hx
noncomputable def aN (lo hi:Int):ze:=(aG lo (hi - lo).toNat).map PyData.int
theorem ZdH {pa:Addr} {G:Hp} {lo:Int} {n:Nat}:iG PK pa (jz lo n) G ((aG lo n).map PyData.int):=λm G2 H2 sb w=>by
 refine ⟨λk x hx=>?_,by show n<=_; rw [vd,fY]; exact vo _⟩
 have hk:k < n:=by
  have:=(vf.mp hx).1
  rwa [vd,fY] at this
 refine ⟨hk,λy H3 hz0=>?_⟩
 obtain ⟨e1,e2⟩:=hz0
 subst e1 e2
 have:x=.int (lo+k):=by
  unfold aG at hx
  simp [hk] at hx
  exact hx.symm
 subst this
 exact ⟨G2,.refl,w,.int _⟩
noncomputable def fO (n:Int):Bool:=decide (-(2 ^ 62)<=n/\n < 2 ^ 62)
noncomputable def jR:List PyData->Option ze
 | [.int n]=>if fO n=true then some (aN 0 n) else none
 | _=>none
noncomputable def jQ:List PyData->Option ze
 | [.int k,.int n]=>if (fO k && fO n)=true then some (aN k n) else none
 | _=>none
noncomputable def gx (is:y4):y4:=λρ=>(is ρ).bind λxs=>Tr.of (jR xs)
noncomputable def uO (is:y4):y4:=λρ=>(is ρ).bind λxs=>Tr.of (jQ xs)
theorem ZbS {G:Hp} {vs:zi} {xs ys:ze} (d:DnAll G vs xs) (h:jR xs=some ys):∃ n:Int,vs=[.int n]/\-(2 ^ 62)<=n/\n < 2 ^ 62/\ys=aN 0 n:=by
 unfold jR at h
 split at h
 ·rename_i n
  split at h
  ·rename_i hn
   cases h
   cases d with
   | cons d1 d2 =>
    cases d2
    cases d1
    have:=of_decide_eq_true hn
    exact ⟨n,rfl,this.1,this.2,rfl⟩
  ·cases h
 ·cases h
theorem ZbR {G:Hp} {vs:zi} {xs ys:ze} (d:DnAll G vs xs) (h:jQ xs=some ys):∃ k n:Int,vs=[.int k,.int n]/\(-(2 ^ 62)<=k/\k < 2 ^ 62/\-(2 ^ 62)<=n/\n < 2 ^ 62)/\ys=aN k n:=by
 unfold jQ at h
 split at h
 ·rename_i k n
  split at h
  ·rename_i hn
   cases h
   cases d with
   | cons d1 d2 =>
    cases d2 with
    | cons d2 d3 =>
     cases d3
     cases d1
     cases d2
     rw [vU] at hn
     have h1:=of_decide_eq_true hn.1
     have h2:=of_decide_eq_true hn.2
     exact ⟨k,n,rfl,⟨h1.1,h1.2,h2.1,h2.2⟩,rfl⟩
  ·cases h
 ·cases h
theorem iz {tg e:Expr} (h:PI X tg e (ZdW (TAd PK is))):PI X tg e (eN PK (gx is)):=h.imp λσ H R0 hz0=>by
 obtain ⟨pa,zm,H₀,m,ρ,G,R,z⟩:=hz0
 refine TAd.then R z λm1 xs vs G1 H1 s1 w1 R1 d1 q1=>?_
 obtain ⟨ys,hy,q1⟩:=Tr.ok_of q1
 obtain ⟨n,e,h1,h2,rfl⟩:=ZbS d1 hy
 refine ⟨n,e,h1,h2,?_⟩
 have q:=q1 (jz 0 n.toNat) G1 H1 s1 w1
 unfold aN at q
 rw [Int.sub_zero] at q
 exact q ZdH
theorem ZqD {tg e:Expr} (h:PI X tg e (ZdV (TAd PK is))):PI X tg e (eN PK (uO is)):=h.imp λσ H R0 hz0=>by
 obtain ⟨pa,zm,H₀,m,ρ,G,R,z⟩:=hz0
 refine TAd.then R z λm1 xs vs G1 H1 s1 w1 R1 d1 q1=>?_
 obtain ⟨ys,hy,q1⟩:=Tr.ok_of q1
 obtain ⟨k,n,e,h1,rfl⟩:=ZbR d1 hy
 exact ⟨k,n,e,h1,q1 (jz k (n - k).toNat) G1 H1 s1 w1 ZdH⟩
end L2
set_option Elab.async false
set_option linter.all false
set_option maxRecDepth 100000
namespace L2
variable {PK:Pk} {X:Cx} {a b c e:Expr} {es:List Expr} {pos:Pos} {i j l:yZ} {is:y4}
noncomputable def fit (n:Int):Bool:=decide (n.natAbs < 2 ^ 8000)
noncomputable def ba:zc
 | .int m,.int n=>some (.int (m+n))
 | .tuple xs,.tuple ys=>if (!xs.isEmpty && small (xs.length+ys.length))=true then some (.tuple (xs++ys)) else none
 | .list xs,.list ys=>if small (xs.length+ys.length)=true then some (.list (xs++ys)) else none
 | _,_=>none
noncomputable def rP (K:yY):R2:=λx y H Q=>eS (λi j=>.int (i+j)) x y H Q\/Zcl K x y H Q\/Zcn x y H Q
theorem bD:OpR X (binaryOp .Add) (rP X.K):=ig.or (Zl5.or Zl7)
theorem bB {K:yY}:cz (rP K) ba:=λPK pa m G H x y dx dy dz Q w hx hy hz k=>by
 unfold ba at hz
 split at hz
 ·cases hz; cases hx; cases hy
  exact .inl ⟨_,_,rfl,rfl,k.here w (.int _)⟩
 ·rename_i xs ys
  split at hz
  ·rename_i hc
   rw [vU] at hc
   have h1:xs.isEmpty=false:=by simpa using hc.1
   have h2:xs.length+ys.length<=sizeLine:=of_decide_eq_true hc.2
   cases hz
   cases hx with
   | tup a1 a2 =>
    cases hy with
    | tup b1 b2 =>
     refine .inr (.inl ⟨_,_,_,_,rfl,rfl,SqT.of (w.sub _ _ a1),SqT.of (w.sub _ _ b1),?_,by rw [a2.length,b2.length]; exact h2,λe=>?_,λe p hp=>k.tup w (a2.append b2) hp⟩)
     ·intro e
      rw [<- a2.isEmpty,e] at h1
      cases h1
     ·subst e
      cases b2
      refine k.here w ?_
      rw [wn]
      exact .tup a1 a2
  ·cases hz
 ·rename_i xs ys
  split at hz
  ·rename_i hc
   have h2:xs.length+ys.length<=sizeLine:=of_decide_eq_true hc
   cases hz
   cases hx with
   | lst a1 a2 =>
    cases hy with
    | lst b1 b2=>exact .inr (.inr ⟨_,_,_,_,rfl,rfl,w.sub _ _ a1,w.sub _ _ b1,by rw [a2.length,b2.length]; exact h2,λp hp=>k.lst w (a2.append b2) hp⟩)
  ·cases hz
 ·cases hz
noncomputable def bW:zc
 | .int m,.int n=>some (.int (m - n))
 | _,_=>none
theorem cb:cz (eS λi j=>.int (i - j)) bW:=λPK pa m G H x y dx dy dz Q w hx hy hz k=>by
 unfold bW at hz
 split at hz
 ·cases hz; cases hx; cases hy
  exact ⟨_,_,rfl,rfl,k.here w (.int _)⟩
 ·cases hz
theorem DnAll.rep {H:Hp} {vs:zi} {ds:ze} (h:DnAll H vs ds):∀ k:Nat,DnAll H (List.replicate k vs).flatten (List.replicate k ds).flatten
 | 0=>.nil
 | k+1=>by
  rw [vP,vP,wa,wa]
  exact h.append (h.rep k)
noncomputable def Zcd (K:yY):R2:=λx y H Q=>rI CMulG (λi j=>.int (i * j)) x y H Q\/rM K x y H Q\/rN x y H Q
theorem bi:OpR X (binaryOp .Mult) (Zcd X.K):=Zl1.or (ZcN.or ZcP)
noncomputable def aX:zc
 | .int m,.int n=>if (fit m && fit n)=true then some (.int (m * n)) else none
 | .tuple xs,.int n=>if (decide (1 < n) && decide (n<=1000) && !xs.isEmpty && decide (xs.length<=1000))=true then some (.tuple (List.replicate n.toNat xs).flatten) else none
 | .list xs,.int n=>if (decide (-(2 ^ 63)<=n) && decide (n < 2 ^ 63) && small (xs.length * n.toNat))=true then some (.list (List.replicate n.toNat xs).flatten) else none
 | _,_=>none
theorem bh {K:yY}:cz (Zcd K) aX:=λPK pa m G H x y dx dy dz Q w hx hy hz k=>by
 unfold aX at hz
 split at hz
 ·split at hz
  ·rename_i hc
   rw [vU] at hc
   cases hz; cases hx; cases hy
   exact .inl ⟨_,_,rfl,rfl,⟨of_decide_eq_true hc.1,of_decide_eq_true hc.2⟩,k.here w (.int _)⟩
  ·cases hz
 ·split at hz
  ·rename_i hc
   simp only [vU,decide_eq_true_eq,xP] at hc
   cases hz; cases hy
   cases hx with
   | tup a1 a2 =>
    refine .inr (.inl ⟨_,_,_,rfl,rfl,SqT.of (w.sub _ _ a1),hc.1.1.1,hc.1.1.2,?_,by rw [a2.length]; exact hc.2,λp hp=>k.tup w (a2.rep _) hp⟩)
    intro e
    have:=hc.1.2
    rw [<- a2.isEmpty,e] at this
    cases this
  ·cases hz
 ·split at hz
  ·rename_i hc
   simp only [vU,decide_eq_true_eq] at hc
   cases hz; cases hy
   cases hx with
   | lst a1 a2=>exact .inr (.inr ⟨_,_,_,rfl,rfl,w.sub _ _ a1,hc.1.1,hc.1.2,by rw [a2.length]; exact of_decide_eq_true hc.2,λp hp=>k.lst w (a2.rep _) hp⟩)
  ·cases hz
 ·cases hz
noncomputable def fx:zc
 | .int m,.int n=>if (decide (n≠0) && fit n)=true then some (.int (m.fdiv n)) else none
 | _,_=>none
theorem iJ:cz (rI Zi8 λi j=>.int (i.fdiv j)) fx:=λPK pa m G H x y dx dy dz Q w hx hy hz k=>by
 unfold fx at hz
 split at hz
 ·split at hz
  ·rename_i hc
   rw [vU] at hc
   cases hz; cases hx; cases hy
   exact ⟨_,_,rfl,rfl,⟨of_decide_eq_true hc.1,of_decide_eq_true hc.2⟩,k.here w (.int _)⟩
  ·cases hz
 ·cases hz
noncomputable def gg:zc
 | .int m,.int n=>if decide (n≠0)=true then some (.int (m.fmod n)) else none
 | _,_=>none
theorem mQ:cz (rI (λ_ j=>j≠0) λi j=>.int (i.fmod j)) gg:=λPK pa m G H x y dx dy dz Q w hx hy hz k=>by
 unfold gg at hz
 split at hz
 ·split at hz
  ·rename_i hc
   cases hz; cases hx; cases hy
   exact ⟨_,_,rfl,rfl,of_decide_eq_true hc,k.here w (.int _)⟩
  ·cases hz
 ·cases hz
noncomputable def sg:zc
 | .int m,.int n=>if (decide (0<=n) && decide (n<=1000000) && decide (m.natAbs < 2 ^ 64))=true then some (.int (m ^ n.toNat)) else none
 | _,_=>none
theorem Zjj:cz (rI Zi7 λi j=>.int (i ^ j.toNat)) sg:=λPK pa m G H x y dx dy dz Q w hx hy hz k=>by
 unfold sg at hz
 split at hz
 ·split at hz
  ·rename_i hc
   simp only [vU,decide_eq_true_eq] at hc
   cases hz; cases hx; cases hy
   exact ⟨_,_,rfl,rfl,⟨hc.1.1,hc.1.2,hc.2⟩,k.here w (.int _)⟩
  ·cases hz
 ·cases hz
noncomputable def fB (i:yZ):yZ:=λρ=>(i ρ).bind λx=>match x with
 | .int n=>.ret (.int (-n))
 | _=>.fail
theorem gW (ha:PE X a (TAe PK i)):PE X (.UnaryOp .USub a pos) (TAe PK (fB i)):=(ZlG Zjt ha).imp λσ H Q hz0=>by
 obtain ⟨pa,zm,H₀,m,ρ,G,R,z⟩:=hz0
 refine TAe.then R z λm1 x v G1 H1 s1 w1 R1 d1 q1=>?_
 cases d1 with
 | int n=>exact ⟨n,rfl,(Kn.later q1 s1 w1.some).here w1 (.int _)⟩
 | _=>exact q1.elim
noncomputable def cK (f:Int->Int->Bool):zc
 | .int m,.int n=>some (.bool (f m n))
 | _,_=>none
theorem cS {f:Int->Int->Bool}:cz (eS λi j=>.bl (f i j)) (cK f):=λPK pa m G H x y dx dy dz Q w hx hy hz k=>by
 unfold cK at hz
 split at hz
 ·cases hz; cases hx; cases hy
  exact ⟨_,_,rfl,rfl,k.here w (.bl _)⟩
 ·cases hz
noncomputable def eG:zc
 | .str m,.str n=>some (.bool (m == n))
 | x,y=>if (SeqAt.shaped x && SeqAt.shaped y)=true then some (.bool (PyData.eqv x y)) else none
noncomputable def dX:zc
 | .str m,.str n=>some (.bool (!(m == n)))
 | x,y=>if (SeqAt.shaped x && SeqAt.shaped y)=true then some (.bool (!PyData.eqv x y)) else none
noncomputable def Zcj:R2:=λx y H Q=>rEq x y H Q\/∃ d e,Dn H x d/\Dn H y e/\SeqAt.shaped d=true/\SeqAt.shaped e=true/\Q (.bl (PyData.eqv d e)) H
noncomputable def Zcb:R2:=λx y H Q=>rNe x y H Q\/∃ d e,Dn H x d/\Dn H y e/\SeqAt.shaped d=true/\SeqAt.shaped e=true/\Q (.bl (!PyData.eqv d e)) H
theorem nS {k:Nat} (hr:Room k X.A):OpR X (compareOp .Eq) Zcj:=Zl4.or (Zl3 hr)
theorem jY {k:Nat} (hr:Room k X.A):OpR X (compareOp .NotEq) Zcb:=Zl0.or (ZlZ hr)
theorem mR:cz Zcj eG:=λPK pa m G H x y dx dy dz Q w hx hy hz k=>by
 unfold eG at hz
 split at hz
 ·cases hz; cases hx; cases hy
  exact .inl ⟨rfl,by rw [o9]; exact k.here w (.bl _)⟩
 ·split at hz
  ·rename_i hc
   rw [vU] at hc
   cases hz
   exact .inr ⟨_,_,hx.mono w.sub,hy.mono w.sub,hc.1,hc.2,k.here w (.bl _)⟩
  ·cases hz
theorem jE:cz Zcb dX:=λPK pa m G H x y dx dy dz Q w hx hy hz k=>by
 unfold dX at hz
 split at hz
 ·cases hz; cases hx; cases hy
  exact .inl ⟨rfl,by rw [o9]; exact k.here w (.bl _)⟩
 ·split at hz
  ·rename_i hc
   rw [vU] at hc
   cases hz
   exact .inr ⟨_,_,hx.mono w.sub,hy.mono w.sub,hc.1,hc.2,k.here w (.bl _)⟩
  ·cases hz
noncomputable def ZrH:zc
 | .bool m,.bool n=>some (.bool (m == n))
 | _,_=>none
noncomputable def oP:zc
 | .bool m,.bool n=>some (.bool (!(m == n)))
 | _,_=>none
theorem Zjk:cz (λx y H Q=>∃ a b,x=.bl a/\y=.bl b/\Q (.bl (!(a == b))) H) oP:=λPK pa m G H x y dx dy dz Q w hx hy hz k=>by
 unfold oP at hz
 split at hz
 ·cases hz; cases hx; cases hy
  exact ⟨_,_,rfl,rfl,k.here w (.bl _)⟩
 ·cases hz
noncomputable def ao:zc
 | .list xs,.int n=>bw xs n
 | .tuple xs,.int n=>bw xs n
 | _,_=>none
theorem DnAll.at {H:Hp} {vs:zi} {ds:ze} {n:Int} {d:PyData} (h:DnAll H vs ds) (e:bw ds n=some d):∃ v,bw vs n=some v/\Dn H v d:=by
 unfold bw at e ⊢
 rw [<- h.length] at e
 cases hn:cR vs.length n with
 | none=>rw [hn] at e; cases e
 | some j =>
  rw [hn] at e
  exact h.get j e
theorem aI {K:yY}:cz (rIx K) ao:=λPK pa m G H x y dx dy dz Q w hx hy hz k=>by
 unfold ao at hz
 split at hz
 ·cases hy
  cases hx with
  | lst a1 a2 =>
   obtain ⟨v,h1,h2⟩:=a2.at hz
   exact .inl ⟨_,_,_,v,rfl,rfl,SqL.of (w.sub _ _ a1),h1,k.here w h2⟩
 ·cases hy
  cases hx with
  | tup a1 a2 =>
   obtain ⟨v,h1,h2⟩:=a2.at hz
   exact .inr (.inl ⟨_,_,_,v,rfl,rfl,SqT.of (w.sub _ _ a1),h1,k.here w h2⟩)
 ·cases hz
noncomputable def c9:List PyData->Option PyData
 | [.list xs]=>some (.int xs.length)
 | [.tuple xs]=>some (.int xs.length)
 | _=>none
theorem fH {K:yY}:fE (λxs H Q=>∃ p ys,xs=[.ref p]/\(SqL K H p ys\/SqT K H p ys)/\Q (.int ys.length) H) c9:=λPK pa m G H vs ds d Q w hv hd k=>by
 unfold c9 at hd
 split at hd
 ·cases hd
  cases hv with
  | cons h1 h2 =>
   cases h2
   cases h1 with
   | lst a1 a2=>exact ⟨_,_,rfl,.inl (SqL.of (w.sub _ _ a1)),by rw [a2.length]; exact k.here w (.int _)⟩
 ·cases hd
  cases hv with
  | cons h1 h2 =>
   cases h2
   cases h1 with
   | tup a1 a2=>exact ⟨_,_,rfl,.inr (SqT.of (w.sub _ _ a1)),by rw [a2.length]; exact k.here w (.int _)⟩
 ·cases hd
noncomputable def pP (n:Int):Int:=if n < 0 then -n else n
noncomputable def kI:List PyData->Option PyData
 | [.int n]=>some (.int (pP n))
 | _=>none
theorem qz:fE (λxs H Q=>∃ i,xs=[.int i]/\Q (.int (if i < 0 then -i else i)) H) kI:=λPK pa m G H vs ds d Q w hv hd k=>by
 unfold kI at hd
 split at hd
 ·cases hd
  cases hv with
  | cons h1 h2=>cases h2; cases h1; exact ⟨_,rfl,k.here w (.int _)⟩
 ·cases hd
noncomputable def bR (m n:Int):Int:=if n > m then n else m
noncomputable def iY:List PyData->Option PyData
 | [.int m,.int n]=>some (.int (bR m n))
 | _=>none
theorem mS:fE (λxs H Q=>∃ i j,xs=[.int i,.int j]/\Q (.int (if j > i then j else i)) H) iY:=λPK pa m G H vs ds d Q w hv hd k=>by
 unfold iY at hd
 split at hd
 ·cases hd
  cases hv with
  | cons h1 h2=>cases h2 with | cons h2 h3=>cases h3; cases h1; cases h2; exact ⟨_,_,rfl,k.here w (.int _)⟩
 ·cases hd
noncomputable def jf:List PyData->Option PyData
 | [.int n]=>some (.int n)
 | [.bool n]=>some (.int (if n then 1 else 0))
 | _=>none
theorem qy:fE (λxs H Q=>(∃ i,xs=[.int i]/\Q (.int i) H)\/∃ k,xs=[.bl k]/\Q (.int (if k then 1 else 0)) H) jf:=λPK pa m G H vs ds d Q w hv hd k=>by
 unfold jf at hd
 split at hd
 ·cases hd
  cases hv with
  | cons h1 h2=>cases h2; cases h1; exact .inl ⟨_,rfl,k.here w (.int _)⟩
 ·cases hd
  cases hv with
  | cons h1 h2=>cases h2; cases h1; exact .inr ⟨_,rfl,k.here w (.int _)⟩
 ·cases hd
noncomputable def eP:List PyData->Option PyData
 | [.list xs]=>some (.tuple xs)
 | [.tuple xs]=>some (.tuple xs)
 | _=>none
theorem gz {K:yY}:fE (λxs H Q=>∃ p ys,xs=[.ref p]/\((SqL K H p ys/\∀ l,H l=none->Q (.ref l) (upd H l (.tup ys)))\/(SqT K H p ys/\Q (.ref p) H))) eP:=λPK pa m G H vs ds d Q w hv hd k=>by
 unfold eP at hd
 split at hd
 ·cases hd
  cases hv with
  | cons h1 h2 =>
   cases h2
   cases h1 with
   | lst a1 a2=>exact ⟨_,_,rfl,.inl ⟨SqL.of (w.sub _ _ a1),λp hp=>k.tup w a2 hp⟩⟩
 ·cases hd
  cases hv with
  | cons h1 h2 =>
   cases h2
   cases h1 with
   | tup a1 a2=>exact ⟨_,_,rfl,.inr ⟨SqT.of (w.sub _ _ a1),k.here w (.tup a1 a2)⟩⟩
 ·cases hd
noncomputable def ka:List PyData->Option ze
 | [.list xs]=>some xs
 | [.tuple xs]=>some xs
 | _=>none
theorem Zjo {K:yY}:uW (λxs H Q=>∃ p ys,xs=[.ref p]/\(SqL K H p ys\/SqT K H p ys)/\∀ l,H l=none->Q (.ref l) (upd H l (.lst ys))) ka:=λPK pa m G H vs ds d Q w hv hd k=>by
 unfold ka at hd
 split at hd
 ·cases hd
  cases hv with
  | cons h1 h2 =>
   cases h2
   cases h1 with
   | lst a1 a2=>exact ⟨_,_,rfl,.inl (SqL.of (w.sub _ _ a1)),λp hp=>k.new w a2 hp⟩
 ·cases hd
  cases hv with
  | cons h1 h2 =>
   cases h2
   cases h1 with
   | tup a1 a2=>exact ⟨_,_,rfl,.inr (SqT.of (w.sub _ _ a1)),λp hp=>k.new w a2 hp⟩
 ·cases hd
noncomputable def hW:PyData->String
 | .none=>"NoneType"
 | .bool _=>"bool"
 | .int _=>"int"
 | .str _=>"str"
 | .list _=>"list"
 | .tuple _=>"tuple"
 | .dict _=>"dict"
theorem Dn.ty {K:yY} {G H:Hp} (sb:Sub G H) {v:V} {d:PyData} (h:Dn G v d):TyOf K H v (.type (hW d)):=by
 cases h with
 | non=>exact .non
 | bl b=>exact .bl b
 | int i=>exact .int i
 | str x=>exact .str x
 | tup h _=>exact .tup (sb _ _ h)
 | lst h _=>exact .lst (sb _ _ h)
 | dct h _=>exact h.elim (λh=>.dK (sb _ _ h)) λ⟨o,h⟩=>.frzD (sb _ _ h)
noncomputable def ki (T:String) (t:String):Bool:=decide (t=T) || (decide (T="int") && decide (t="bool"))
noncomputable def iC (T:String) (i:yZ):yZ:=λρ=>(i ρ).bind λx=>.ret (.bool (ki T (hW x)))
def ZdN (T:String):Prop:=T="int"\/T="bool"\/T="str"\/T="list"\/T="tuple"\/T="dict"
theorem Znf {K:yY} {T:String} (h:ZdN T) (d:PyData):PySem.W.kitOne K (.type (hW d)) (.type T)=some (ki T (hW d)):=by
 rcases h with rfl | rfl | rfl | rfl | rfl | rfl <;> cases d <;> rfl
theorem kH {T:String} {tc:TE} (hT:ZdN T) (htc:tc=tC (.ty T)) (h:PE X e (fo (λxs H Q=>∃ x T t b,xs=[x,.ty T]/\TyOf X.K H x t/\PySem.W.kitOne X.K t (.type T)=some b/\Q (.bl b) H) (fk (TAe PK i) (fk tc a9)))):PE X e (TAe PK (iC T i)):=h.imp λσ H Q hz0=>by
 obtain ⟨pa,zm,H₀,m,ρ,G,R,z⟩:=hz0
 subst htc
 refine TAe.then R z λm1 x v G1 H1 s1 w1 R1 d1 q1=>?_
 exact ⟨v,T,_,_,rfl,d1.ty w1.sub,Znf hT x,(Kn.later q1 s1 w1.some).here w1 (.bl _)⟩
noncomputable def gw (xs:ze) (lo hi:Option Int):ze:=(xs.drop (HT.aT xs.length 0 lo)).take (HT.aT xs.length xs.length hi - HT.aT xs.length 0 lo)
theorem DnAll.take {H:Hp}:∀ {vs:zi} {ds:ze} (n:Nat),DnAll H vs ds->DnAll H (vs.take n) (ds.take n)
 | _,_,0,_=>.nil
 | _,_,_+1,.nil=>.nil
 | _,_,n+1,.cons r t=>.cons r (DnAll.take n t)
theorem DnAll.drop {H:Hp}:∀ {vs:zi} {ds:ze} (n:Nat),DnAll H vs ds->DnAll H (vs.drop n) (ds.drop n)
 | _,_,0,r=>r
 | _,_,_+1,.nil=>.nil
 | _,_,n+1,.cons r t=>DnAll.drop n t
theorem DnAll.cut {H:Hp} {vs:zi} {ds:ze} (h:DnAll H vs ds) (lo hi:Option Int):DnAll H (fA vs lo hi) (gw ds lo hi):=by
 unfold fA gw
 rw [h.length]
 exact (h.drop _).take _
noncomputable abbrev fS:=List Sl->Tr (Option Int)
noncomputable def pT:fS:=λ_=>.ret none
noncomputable def mz (i:yZ):fS:=λρ=>(i ρ).bind λx=>match x with
 | .int n=>.ret (some n)
 | _=>.fail
noncomputable def TAp (PK:Pk) (i:fS):TO:=λσ H Q=>∃ pa zm H₀ m ρ G,Rl PK pa zm H₀ m σ ρ G H/\(i ρ).ok m λm' x=>∀ G' H',Stp pa G H G' H'->Wd PK pa m' G' H'->Q x H'
theorem PO.imp {e:Option Expr} {t t':TO} (h:PO X e t) (q:∀ σ H Q,t' σ H Q->t σ H Q):PO X e t':=λpins s σ H Q I z=>h pins s σ H Q I (q σ H Q z)
theorem ZiQ:PO X none (TAp PK pT):=Zcz.imp λσ H Q hz0=>by
 obtain ⟨pa,zm,H₀,m,ρ,G,R,z⟩:=hz0
 exact z G H .refl R.wd
theorem ZiP (h:PE X e (TAe PK i)):PO X (some e) (TAp PK (mz i)):=(Zcy h).imp λσ H Q hz0=>by
 obtain ⟨pa,zm,H₀,m,ρ,G,R,z⟩:=hz0
 refine TAe.then R z λm1 x v G1 H1 s1 w1 R1 d1 q1=>?_
 cases d1 with
 | int n=>exact ⟨n,rfl,q1 G1 H1 s1 w1⟩
 | _=>exact q1.elim
theorem ZnE {prog:Program} {w:World} {A:Around} {E:zd} {s:Shared} {t sl:Addr} {items:Array Value} {vl vu:Value} {lo hi:Option Int} {Q:zd} (ht:IsTup s.heap t items) (hs:s.heap.IsSliceOf sl vl vu .none) (pl:IsPart vl lo) (pu:IsPart vu hi)
  (hw:HT.aT items.size 0 lo=0/\HT.aT items.size items.size hi=items.size) (h:Q (.ref t) s):wpAny (model prog w) A (getItem (.ref t) (.ref sl)) Q E s:=by
 obtain ⟨os,hos,hcs,hds⟩:=id hs
 have hTs:s.TypeIs (.ref sl) "slice":=⟨os,hos,hcs⟩
 unfold getItem
 try with_reducible refine wpAny_holding ?_
 first | refine wpAny_bind (wpAny_pure ?_) | skip
 refine wpAny_bind (wpAny_sequenceKey ht.typeIs (by decide) ?_)
 refine wpAny_bind (wpAny_callSpecial?_slot (name:=Str.ofString "__getitem__") ht.typeIs wQ
  (wpAny_call_entry wQ ht.typeIs entry_tuple_getitem ?_ (args_tuple_getitem _ _)))
 show wpAny _ _ (Builtin.Tuple.tupleItemsOf (.ref t) >>= _) _ _ s
 refine wpAny_bind (tupleItemsOf_ ht ?_)
 refine wpAny_bind (wpAny_typeOf hTs ?_)
 rw [if_pos (by decide)]
 refine wpAny_bind (HT.ZaP hs pl pu ?_)
 have hyes:(((HT.aT items.size 0 lo:Nat):Int) == 0 && (1:Int) == 1 && (HT.aT items.size items.size hi - HT.aT items.size 0 lo) == items.size)=true:=by
  rw [hw.1,hw.2]
  simp
 show wpAny _ _ (if (((HT.aT items.size 0 lo:Nat):Int) == 0 && (1:Int) == 1 && (HT.aT items.size items.size hi - HT.aT items.size 0 lo) == items.size)=true then _ else _) _ _ s
 rw [if_pos hyes]
 refine wpAny_bind (m:=Builtin.Tuple.tupleIsExact (.ref t)) ?_
 unfold Builtin.Tuple.tupleIsExact
 refine wpAny_bind (wpAny_typeOf ht.typeIs ?_)
 refine wpAny_pure ?_
 rw [if_pos (by decide)]
 refine wpAny_bind (wpAny_rule ?_)
 exact wpAny_pure ⟨_,rfl,wpAny_pure h⟩
noncomputable def Zb4 (K:yY):V->Option Int->Option Int->Hp->VK->Prop:=λx lo hi H Q=>∃ a xs,x=.ref a/\SqT K H a xs/\(HT.aT xs.length 0 lo=0/\HT.aT xs.length xs.length hi=xs.length)/\Q (.ref a) H
theorem Zko:SlR X (Zb4 X.K):=by
 intro pins s σ H x v vl vu lo hi sl Q I rx hs pl pu h
 obtain ⟨a,xs,rfl,hx,hw,q⟩:=h
 cases rx
 obtain ⟨its,r,ht,hz⟩:=I.tuple hx
 have hlen:its.toArray.size=xs.length:=by rw [vq]; exact r.length.symm
 refine ⟨"tuple",_,PyProof.Rows.slot_tuple_getitem.lookup,ht.typeIs,?_⟩
 exact ZnE ht hs pl pu (by rw [hlen]; exact hw) ⟨.ref a,H,I,rfl,q⟩
noncomputable def Zlc (K:yY):V->Option Int->Option Int->Hp->VK->Prop:=λx lo hi H Q=>Zb6 K x lo hi H Q\/Zb5 K x lo hi H Q\/Zb4 K x lo hi H Q
theorem Zkq:SlR X (Zlc X.K):=ZaQ.or (Zkp.or Zko)
noncomputable def ZaO (x:PyData) (lo hi:Option Int):Option PyData:=match x with
 | .list xs=>some (.list (gw xs lo hi))
 | .tuple xs=>some (.tuple (gw xs lo hi))
 | _=>none
noncomputable def pR (i:yZ) (p q:fS):yZ:=λρ=>(i ρ).bind λx=>(p ρ).bind λlo=>(q ρ).bind λhi=>Tr.of (ZaO x lo hi)
theorem TAp.then {p:fS} {σ:St} {H:Hp} {β:Type} {k:Option Int->Tr β} {Z:Nat->β->Prop} {Q:Option Int->Hp->Prop} {pa:Addr} {zm H₀ G:Hp} {m:Nat} {ρ:zl} (R:Rl PK pa zm H₀ m σ ρ G H) (h:((p ρ).bind k).ok m Z)
  (hq:∀ m1 x G1 H1,Stp pa G H G1 H1->Wd PK pa m1 G1 H1->Rl PK pa zm H₀ m1 σ ρ G1 H1->(k x).ok m1 Z->Q x H1):TAp PK p σ H Q:=by
 refine ⟨pa,zm,H₀,m,ρ,G,R,Tr.ok_mono (Tr.ok_bind.mp h) λm1 x hx G1 H1 s1 w1=>?_⟩
 exact hq m1 x G1 H1 s1 w1 (R.step s1 w1) hx
theorem ZiU {p q:fS} {lo hi:Option Expr} {p2:Pos} (he:PE X e (TAe PK i)) (hl:PO X lo (TAp PK p)) (hu:PO X hi (TAp PK q)):PE X (.Subscript e (.Slice lo hi none p2) pos) (TAe PK (pR i p q)):=(ZcD Zkq he hl hu).imp λσ H Q hz0=>by
 obtain ⟨pa,zm,H₀,m,ρ,G,R,z⟩:=hz0
 refine TAe.then R z λm1 x v G1 H1 s1 w1 R1 d1 q1=>?_
 refine TAp.then R1 q1 λm2 lo G2 H2 s2 w2 R2 q2=>?_
 refine TAp.then R2 q2 λm3 hi G3 H3 s3 w3 R3 q3=>?_
 obtain ⟨d,hd,k⟩:=Tr.ok_of q3
 have s13:=(s1.trans s2 w1.some).trans s3 w2.some
 have k':=Kn.later k s13 w3.some
 have d3:=d1.mono (s2.gs.trans s3.gs)
 cases d3 with
 | lst a1 a2=>cases hd; exact .inl ⟨_,_,rfl,SqL.of (w3.sub _ _ a1),λp hp=>k'.lst w3 (a2.cut lo hi) hp⟩
 | @tup a xs ds a1 a2 =>
  cases hd
  by_cases hw:HT.aT xs.length 0 lo=0/\HT.aT xs.length xs.length hi=xs.length
  ·refine .inr (.inr ⟨_,_,rfl,SqT.of (w3.sub _ _ a1),hw,k'.here w3 ?_⟩)
   have e:gw ds lo hi=ds:=by
    unfold gw
    rw [<- a2.length,hw.1,hw.2]
    simp
    rw [a2.length]
    exact yz
   rw [e]
   exact .tup a1 a2
  ·exact .inr (.inl ⟨_,_,rfl,SqT.of (w3.sub _ _ a1),hw,λp hp=>k'.tup w3 (a2.cut lo hi) hp⟩)
 | _=>cases hd
theorem DnAll.range {H:Hp} (lo:Int) (n:Nat):DnAll H (fK lo n) ((aG lo n).map PyData.int):=by
 rw [Zla]
 exact DnAll.ints _
noncomputable def li (lo hi:Int):Bool:=fO lo && fO hi && decide ((hi - lo).toNat<=1000)
noncomputable def lh:List PyData->Option ze
 | [.int lo,.int hi]=>if li lo hi=true then some (aN lo hi) else none
 | _=>none
theorem Zk0 {G:Hp} {vs:zi} {xs ys:ze} (d:DnAll G vs xs) (h:lh xs=some ys):∃ k n:Int,vs=[.int k,.int n]/\(-(2 ^ 62)<=k/\k < 2 ^ 62/\-(2 ^ 62)<=n/\n < 2 ^ 62/\(n - k).toNat<=1000)/\ys=aN k n:=by
 unfold lh at h
 split at h
 ·split at h
  ·rename_i hn
   cases h
   cases d with
   | cons d1 d2 =>
    cases d2 with
    | cons d2 d3 =>
     cases d3
     cases d1
     cases d2
     unfold li at hn
     rw [vU,vU] at hn
     have h1:=of_decide_eq_true hn.1.1
     have h2:=of_decide_eq_true hn.1.2
     exact ⟨_,_,rfl,⟨h1.1,h1.2,h2.1,h2.2,of_decide_eq_true hn.2⟩,rfl⟩
  ·cases h
 ·cases h
def ZjN (t:TA):TE:=fo (λxs H Q=>∃ a lo hi,xs=[.ref a]/\H a=some (.rng lo hi)/\-(2 ^ 62)<=lo/\lo < 2 ^ 62/\-(2 ^ 62)<=hi/\hi < 2 ^ 62/\(hi - lo).toNat<=1000/\∀ p,H p=none->Q (.ref p) (upd H p (.tup (fK lo (hi - lo).toNat))))
 (fk (fo (λxs H Q=>∃ i j:Int,xs=[.int i,.int j]/\∀ p,H p=none->Q (.ref p) (upd H p (.rng i j))) t) a9)
noncomputable def uN (is:y4):yZ:=λρ=>(is ρ).bind λxs=>(Tr.of (lh xs)).bind λys=>.ret (.tuple ys)
theorem ZqI (h:PE X e (ZjN (TAd PK is))):PE X e (TAe PK (uN is)):=h.imp λσ H Q hz0=>by
 obtain ⟨pa,zm,H₀,m,ρ,G,R,z⟩:=hz0
 refine TAd.then R z λm1 xs vs G1 H1 s1 w1 R1 d1 q1=>?_
 rw [Tr.ok_bind] at q1
 obtain ⟨ys,hy,k⟩:=Tr.ok_of q1
 obtain ⟨lo,hi,rfl,⟨b1,b2,b3,b4,b5⟩,rfl⟩:=Zk0 d1 hy
 refine ⟨lo,hi,rfl,λp hp=>?_⟩
 obtain ⟨w2,s2⟩:=w1.own (o:=.rng lo hi) hp
 refine ⟨p,lo,hi,rfl,ce,b1,b2,b3,b4,b5,λq hq=>?_⟩
 exact (Kn.later k (s1.trans s2 w1.some) w2.some).tup w2 (DnAll.range _ _) hq
noncomputable def ints?:List PyData->Option zf
 | []=>some []
 | .int n::xs=>(ints? xs).bind λns=>some (n::ns)
 | _=>none
@[simp] theorem ints?_map:∀ ns:zf,ints? (ns.map PyData.int)=some ns
 | []=>rfl
 | n::ns=>by rw [vC,ints?,ints?_map ns]; rfl
theorem DnAll.ints_inv {H:Hp} {vs:zi} {ds:ze} {ns:zf} (a:DnAll H vs ds) (h:ints? ds=some ns):vs=ns.map V.int/\ds=ns.map PyData.int:=by
 induction vs generalizing ds ns with
 | nil=>cases a; cases h; exact ⟨rfl,rfl⟩
 | cons v vs ih =>
  cases a with
  | cons g t =>
   cases g with
   | int n =>
    unfold ints? at h
    rename_i ds
    cases e:ints? ds with
    | none=>rw [e] at h; cases h
    | some ms =>
     rw [e] at h
     cases h
     obtain ⟨h1,h2⟩:=ih t e
     exact ⟨by rw [h1]; rfl,by rw [h2]; rfl⟩
   | _=>unfold ints? at h; cases h
end L2
set_option Elab.async false
set_option linter.all false
set_option maxRecDepth 100000
namespace L2
section
variable {prog:Program} {w:World} {A:Around} {E:zd} {s:Shared}
def ItAt (b:Bool) (h:Heap) (it a:Addr) (k:Nat):Prop:=match b with
 | true=>h.IsListIter it a k
 | false=>h.IsTupleIter it a k
def SqAt (b:Bool) (h:Heap) (a:Addr) (items:Array Value):Prop:=match b with
 | true=>h.IsList a items
 | false=>h.IsTuple a items
theorem ItAt.at {b:Bool} {h h':Heap} {it a:Addr} {k:Nat} (x:ItAt b h it a k) (e:∀ o,h.get? it=some o->h'.get? it=some o):ItAt b h' it a k:=by
 cases b with
 | true=>exact Heap.IsListIter.at x e
 | false=>obtain ⟨o,ho,r⟩:=(show h.IsTupleIter it a k from x); exact ⟨o,e o ho,r⟩
theorem SqAt.at {b:Bool} {h h':Heap} {a:Addr} {items:Array Value} (x:SqAt b h a items) (e:∀ o,h.get? a=some o->h'.get? a=some o):SqAt b h' a items:=by
 cases b with
 | true=>exact Heap.IsList.at x e
 | false=>exact Heap.IsTuple.at x e
theorem ItAt.there {b:Bool} {h:Heap} {it a:Addr} {k:Nat} (x:ItAt b h it a k):∃ o,h.get? it=some o/\∀ v,o.data≠.cell v:=by
 cases b with
 | true=>obtain ⟨o,ho,_,hd⟩:=(show h.IsListIter it a k from x); exact ⟨o,ho,λv z=>by rw [hd] at z; cases z⟩
 | false=>obtain ⟨o,ho,_,hd⟩:=(show h.IsTupleIter it a k from x); exact ⟨o,ho,λv z=>by rw [hd] at z; cases z⟩
theorem Zmt {it l:Addr} {i:Nat} {items:Array Value} {x:Value} {Q:zd} (hit:s.heap.IsTupleIter it l i) (hl:s.heap.IsTuple l items) (hx:items[i]?=some x)
  (hQ:∀ h',h'.IsTupleIter it l (i+1)->Heap.SameBut it s.heap h'->Q x { s with heap:=h' }):wpAny (model prog w) A (Builtin.SmallTypes.nextOf (.ref it)) Q E s:=by
 obtain ⟨o,ho,hc,hd⟩:=id hit; obtain ⟨ol,hol,_,nl,hdl⟩:=hl
 unfold Builtin.SmallTypes.nextOf
 refine wpAny_bind (wpAny_callSpecial?_slot (name:=Str.ofString "__next__") hit.typeIs xj (wpAny_call_entry xj hit.typeIs F.entry_tuple_iterator_next ?_ (F.args_tuple_iterator_next_1 _)))
 show wpAny _ _ (field (.ref it) 0 >>= _) _ _ s; refine wpAny_bind (wpAny_field ho hd (x:=.ref l) rfl ?_)
 show wpAny _ _ (if (Value.ref l == Value.none)=true then _ else _) _ _ s; rw [if_neg (show ¬ ((Value.ref l == Value.none)=true) from vD)]
 show wpAny _ _ (field (.ref it) 1 >>= _) _ _ s; refine wpAny_bind (wpAny_field ho hd (x:=.int i 0) rfl ?_)
 show wpAny _ _ (seqItems? (.ref l) >>= _) _ _ s; refine wpAny_bind (wpAny_seqItems hol hdl ?_); simp only [v3,hx]
 refine wpAny_bind (wpAny_setField ho hd (by simp) (wpAny_pure ⟨x,rfl,wpAny_pure (hQ _ ⟨_,wU _ ho (yo (xb hd _)),(Obj.cls_mapFields ..).trans hc,?_⟩ (xm ..))⟩))
 rw [xb hd]; simp [rawInt]
theorem Zmu {it l:Addr} {i:Nat} {items:Array Value} {Q:zd} (hh:A.handled=none) (hit:s.heap.IsTupleIter it l i) (hl:s.heap.IsTuple l items) (hx:items[i]?=none)
  (hE:∀ h' e,Heap.ExtBut it s.heap h'->(∃ o,h'.get? e=some o/\o.cls=.type "StopIteration")->E (.ref e) { s with heap:=h' }):wpAny (model prog w) A (Builtin.SmallTypes.nextOf (.ref it)) Q E s:=by
 obtain ⟨o,ho,hc,hd⟩:=id hit; obtain ⟨ol,hol,_,nl,hdl⟩:=hl
 unfold Builtin.SmallTypes.nextOf
 refine wpAny_bind (wpAny_callSpecial?_slot (name:=Str.ofString "__next__") hit.typeIs xj (wpAny_call_entry xj hit.typeIs F.entry_tuple_iterator_next ?_ (F.args_tuple_iterator_next_1 _)))
 show wpAny _ _ (field (.ref it) 0 >>= _) _ _ s; refine wpAny_bind (wpAny_field ho hd (x:=.ref l) rfl ?_)
 show wpAny _ _ (if (Value.ref l == Value.none)=true then _ else _) _ _ s; rw [if_neg (show ¬ ((Value.ref l == Value.none)=true) from vD)]
 show wpAny _ _ (field (.ref it) 1 >>= _) _ _ s; refine wpAny_bind (wpAny_field ho hd (x:=.int i 0) rfl ?_)
 show wpAny _ _ (seqItems? (.ref l) >>= _) _ _ s; refine wpAny_bind (wpAny_seqItems hol hdl ?_); simp only [v3,hx]
 refine wpAny_bind (wpAny_rule (wpAny_bind (wpAny_setField ho hd (by simp) ?_))); show wpAny _ _ (newExc (.type "StopIteration") [] >>= _) _ _ _
 refine wpAny_bind ?_; simp only [newExc,newTuple]; refine wpAny_bind (wpAny_newObj_type ?_ (by size_fits))
 refine wpAny_bind (m:=firstArgMember _ _) (wpAny_of_eq (a:=Value.none) (by first | rfl | (simp only [firstArgMember]; rfl)) ?_); refine wpAny_newObj_type ?_ (by size_fits); simp only [raiseNew]
 refine wpAny_bind (wpAny_handled ?_); first | rw [show A.in1.handled=none from hh] | rw [hh]
 refine wpAny_bind (wpAny_pure (wpAny_throw (hE _ _ (((xm ..).extBut.push _).push _) ⟨_,vn _ rfl,rfl⟩)))
theorem nV {b:Bool} {it l:Addr} {i:Nat} {items:Array Value} {x:Value} {Q:zd} (hit:ItAt b s.heap it l i) (hl:SqAt b s.heap l items) (hx:items[i]?=some x)
  (hQ:∀ h',ItAt b h' it l (i+1)->Heap.SameBut it s.heap h'->Q x { s with heap:=h' }):wpAny (model prog w) A (Builtin.SmallTypes.nextOf (.ref it)) Q E s:=by
 cases b with
 | true=>exact wpAny_nextOf_list_item hit hl hx hQ
 | false=>exact Zmt hit hl hx hQ
theorem sI {b:Bool} {it l:Addr} {i:Nat} {items:Array Value} {Q:zd} (hh:A.handled=none) (hit:ItAt b s.heap it l i) (hl:SqAt b s.heap l items) (hx:items[i]?=none)
  (hE:∀ h' e,Heap.ExtBut it s.heap h'->(∃ o,h'.get? e=some o/\o.cls=.type "StopIteration")->E (.ref e) { s with heap:=h' }):wpAny (model prog w) A (Builtin.SmallTypes.nextOf (.ref it)) Q E s:=by
 cases b with
 | true=>exact wpAny_nextOf_list_end hh hit hl hx hE
 | false=>exact Zmu hh hit hl hx hE
theorem ItAt.bt {b:Bool} {h h':Heap} {it a c:Addr} {k:Nat} (x:ItAt b h it a k) (e:Heap.ExtBut c h h') (n:it≠c):ItAt b h' it a k:=x.at λo q=>e it o n q
theorem SqAt.bt {b:Bool} {h h':Heap} {a c:Addr} {items:Array Value} (x:SqAt b h a items) (e:Heap.ExtBut c h h') (n:a≠c):SqAt b h' a items:=x.at λo q=>e a o n q
theorem Zi9 {b1 b2:Bool} {z TI TO i1 i2 l1 l2:Addr} {k1 k2:Nat} {xs ys:Array Value} {x y a b:Value} {Q:zd} (D:ZipApart z TI TO i1 i2 l1 l2)
  (hz:IsZip s.heap z TI TO .none) (hTI:IsPair s.heap TI (.ref i1) (.ref i2)) (hTO:IsPair s.heap TO a b) (h1:ItAt b1 s.heap i1 l1 k1) (h2:ItAt b2 s.heap i2 l2 k2) (hl1:SqAt b1 s.heap l1 xs) (hl2:SqAt b2 s.heap l2 ys) (hx:xs[k1]?=some x) (hy:ys[k2]?=some y)
  (hQ:∀ h',IsZip h' z TI TO (rawInt s.heap.objs.size)->IsPair h' TO x y->ItAt b1 h' i1 l1 (k1+1)->ItAt b2 h' i2 l2 (k2+1)->IsPair h' s.heap.objs.size x y ->
   (∀ c o,c≠z->c≠TO->c≠i1->c≠i2->s.heap.get? c=some o->h'.get? c=some o)->Q (.ref s.heap.objs.size) { s with heap:=h' }) :
  wpAny (model prog w) A (Builtin.«zip.__next__» ⟨[.ref z],[]⟩) (λfin s'=>∃ v,fin=.done (.ret v)/\Q v s') E s:=by
 show wpAny _ _ (field (.ref z) 2 >>= _) _ _ _; refine wpAny_bind (wpAny_field hz rfl (x:=.bool false) rfl ?_)
 show wpAny _ _ (field (.ref z) 3 >>= _) _ _ _; refine wpAny_bind (wpAny_field hz rfl (x:=.ref TI) rfl ?_); refine wpAny_bind (wpAny_seqItems hTI rfl ?_)
 show wpAny _ _ (Builtin.SmallTypes.ownedTupleIsFree (.ref z) >>= _) _ _ _; refine wpAny_bind ?_; unfold Builtin.SmallTypes.ownedTupleIsFree
 refine wpAny_bind (wpAny_field hz rfl (x:=.none) rfl (wpAny_pure ?_)); simp only [if_true]; refine wpAny_bind (wpAny_rule ?_); refine wpAny_bind (wpAny_field hz rfl (x:=.ref TO) rfl ?_)
 refine wpAny_bind (wpAny_setField_rec hz (by simp) λg1 hz1 e1=>?_); replace hz1:IsZip g1 z TI TO .ellipsis:=hz1
 refine wpAny_bind ?_; simp only [List.zipIdx_cons,List.zipIdx_nil,yc,yP]; refine wpAny_bind (wpAny_bind (wpAny_onRaise ?_))
 show wpAny _ _ (Builtin.SmallTypes.nextOf (.ref i1) >>= _) _ _ _; refine wpAny_bind (nV (h1.bt e1.extBut D.i1z) (hl1.bt e1.extBut D.l1z) hx λg2 t1 e2=>wpAny_pure ?_)
 have p2:IsPair g2 TO a b:=e2.extBut _ _ D.TOi1 (e1.extBut _ _ D.TOz hTO)
 refine wpAny_bind (wpAny_seqItems p2 rfl ?_); refine wpAny_bind (wpAny_updateSeq_pair p2 λg3 p3 e3=>?_); replace p3:IsPair g3 TO x b:=p3
 refine wpAny_bind (wpAny_letGo (wpAny_pure ?_)); refine wpAny_bind (wpAny_bind (wpAny_onRaise ?_))
 show wpAny _ _ (Builtin.SmallTypes.nextOf (.ref i2) >>= _) _ _ _
 refine wpAny_bind (nV (((h2.bt e1.extBut D.i2z).bt e2.extBut D.i12.symm).bt e3.extBut D.TOi2.symm) (((hl2.bt e1.extBut D.l2z).bt e2.extBut D.l2i1).bt e3.extBut D.l2TO) hy λg4 t2 e4=>wpAny_pure ?_)
 have p4:IsPair g4 TO x b:=e4.extBut _ _ D.TOi2 p3
 refine wpAny_bind (wpAny_seqItems p4 rfl ?_); refine wpAny_bind (wpAny_updateSeq_pair p4 λg5 p5 e5=>?_); replace p5:IsPair g5 TO x y:=p5
 refine wpAny_bind (wpAny_letGo (wpAny_pure (wpAny_pure ?_))); refine wpAny_bind (wpAny_seqItems p5 rfl ?_); refine wpAny_bind (wpAny_newTuple ?_)
 have hsz:g5.objs.size=s.heap.objs.size:=by rw [e5.1,e4.1,e3.1,e2.1,e1.1]
 have z5:IsZip g5 z TI TO .ellipsis:=e5.extBut _ _ D.TOz.symm (e4.extBut _ _ D.i2z.symm (e3.extBut _ _ D.TOz.symm (e2.extBut _ _ D.i1z.symm hz1)))
 have k5:∀ c o,c≠z->c≠TO->c≠i1->c≠i2->s.heap.get? c=some o->g5.get? c=some o:=λc o c1 c2 c3 c4 q=>e5.extBut _ _ c2 (e4.extBut _ _ c4 (e3.extBut _ _ c2 (e2.extBut _ _ c3 (e1.extBut _ _ c1 q))))
 have u1:ItAt b1 g5 i1 l1 (k1+1):=((t1.bt e3.extBut D.TOi1.symm).bt e4.extBut D.i12).bt e5.extBut D.TOi1.symm
 have u2:ItAt b2 g5 i2 l2 (k2+1):=t2.bt e5.extBut D.TOi2.symm
 have zlt:z < g5.objs.size:=vE z5
 show wpAny _ _ (Builtin.SmallTypes.ownedTupleHandOut (.ref z) (.ref g5.objs.size) >>= _) _ _ _; refine wpAny_bind ?_; unfold Builtin.SmallTypes.ownedTupleHandOut
 have z6:IsZip (g5.push { cls:=.type "tuple",data:=.seq #[x,y] }) z TI TO .ellipsis:=vc _ z5
 refine wpAny_bind (wpAny_setField_rec z6 (by simp) λg7 z7 e7=>?_); replace z7:IsZip g7 z TI TO (rawInt g5.objs.size):=z7
 refine wpAny_setField_rec z7 (by simp) λg8 z8 e8=>?_; replace z8:IsZip g8 z TI TO (rawInt g5.objs.size):=z8
 have up:∀ c o,c≠z->g5.get? c=some o->g8.get? c=some o:=λc o c1 q=>e8.extBut _ _ c1 (e7.extBut _ _ c1 (vc _ q))
 have t8:IsPair g8 g5.objs.size x y:=e8.extBut _ _ (wj zlt) (e7.extBut _ _ (wj zlt) (vn _ rfl))
 rw [hsz] at z8 t8
 refine wpAny_pure ⟨_,rfl,?_⟩; show Q (.ref g5.objs.size) _; rw [hsz]
 exact hQ g8 z8 (up _ _ D.TOz p5) (u1.at λo q=>up _ o D.i1z q) (u2.at λo q=>up _ o D.i2z q) t8 λc o c1 c2 c3 c4 q=>up c o c1 (k5 c o c1 c2 c3 c4 q)
theorem Zja {b1 b2:Bool} {z TI TO i1 i2 l1 l2:Addr} {k1 k2:Nat} {xs ys:Array Value} {a b:Value} {Q:Fin->Shared->Prop} (hh:A.handled=none) (D:ZipApart z TI TO i1 i2 l1 l2)
  (hz:IsZip s.heap z TI TO .none) (hTI:IsPair s.heap TI (.ref i1) (.ref i2)) (hTO:IsPair s.heap TO a b) (h1:ItAt b1 s.heap i1 l1 k1) (h2:ItAt b2 s.heap i2 l2 k2) (hl1:SqAt b1 s.heap l1 xs) (hl2:SqAt b2 s.heap l2 ys) (hend:xs[k1]?=none\/ys[k2]?=none)
  (hE:∀ h' e,(∀ c o,c≠z->c≠TO->c≠i1->c≠i2->s.heap.get? c=some o->h'.get? c=some o)->(∃ o,h'.get? e=some o/\o.cls=.type "StopIteration")->E (.ref e) { s with heap:=h' }) :
  wpAny (model prog w) A (Builtin.«zip.__next__» ⟨[.ref z],[]⟩) Q E s:=by
 show wpAny _ _ (field (.ref z) 2 >>= _) _ _ _; refine wpAny_bind (wpAny_field hz rfl (x:=.bool false) rfl ?_)
 show wpAny _ _ (field (.ref z) 3 >>= _) _ _ _; refine wpAny_bind (wpAny_field hz rfl (x:=.ref TI) rfl ?_); refine wpAny_bind (wpAny_seqItems hTI rfl ?_)
 show wpAny _ _ (Builtin.SmallTypes.ownedTupleIsFree (.ref z) >>= _) _ _ _; refine wpAny_bind ?_; unfold Builtin.SmallTypes.ownedTupleIsFree
 refine wpAny_bind (wpAny_field hz rfl (x:=.none) rfl (wpAny_pure ?_)); simp only [if_true]; refine wpAny_bind (wpAny_rule ?_); refine wpAny_bind (wpAny_field hz rfl (x:=.ref TO) rfl ?_)
 refine wpAny_bind (wpAny_setField_rec hz (by simp) λg1 hz1 e1=>?_); replace hz1:IsZip g1 z TI TO .ellipsis:=hz1
 refine wpAny_bind ?_; simp only [List.zipIdx_cons,List.zipIdx_nil,yc,yP]; refine wpAny_bind (wpAny_bind (wpAny_onRaise ?_))
 show wpAny _ _ (Builtin.SmallTypes.nextOf (.ref i1) >>= _) _ _ _
 cases hx:xs[k1]? with
 | none =>
  refine wpAny_bind (sI hh (h1.bt e1.extBut D.i1z) (hl1.bt e1.extBut D.l1z) hx λg2 e e2 he=>?_)
  obtain ⟨oe,hoe,hce⟩:=he
  have z2:IsZip g2 z TI TO .ellipsis:=e2 _ _ D.i1z.symm hz1
  have ne:e≠z:=λq=>by subst q; rw [z2] at hoe; cases hoe; simp at hce
  exact wpAny_setField_rec z2 (by simp) λg3 _ e3=>hE g3 e (λc o c1 _ c3 _ q=>e3.extBut _ _ c1 (e2 _ _ c3 (e1.extBut _ _ c1 q))) ⟨oe,e3.extBut _ _ ne hoe,hce⟩
 | some x =>
  have hy:ys[k2]?=none:=by rcases hend with h | h; rw [hx] at h; cases h; exact h
  refine wpAny_bind (nV (h1.bt e1.extBut D.i1z) (hl1.bt e1.extBut D.l1z) hx λg2 t1 e2=>wpAny_pure ?_)
  have p2:IsPair g2 TO a b:=e2.extBut _ _ D.TOi1 (e1.extBut _ _ D.TOz hTO)
  refine wpAny_bind (wpAny_seqItems p2 rfl ?_); refine wpAny_bind (wpAny_updateSeq_pair p2 λg3 p3 e3=>?_)
  refine wpAny_bind (wpAny_letGo (wpAny_pure ?_)); refine wpAny_bind (wpAny_bind (wpAny_onRaise ?_))
  show wpAny _ _ (Builtin.SmallTypes.nextOf (.ref i2) >>= _) _ _ _
  refine wpAny_bind (sI hh (((h2.bt e1.extBut D.i2z).bt e2.extBut D.i12.symm).bt e3.extBut D.TOi2.symm) (((hl2.bt e1.extBut D.l2z).bt e2.extBut D.l2i1).bt e3.extBut D.l2TO) hy λg4 e e4 he=>?_)
  obtain ⟨oe,hoe,hce⟩:=he
  have z4:IsZip g4 z TI TO .ellipsis:=e4 _ _ D.i2z.symm (e3.extBut _ _ D.TOz.symm (e2.extBut _ _ D.i1z.symm hz1))
  have ne:e≠z:=λq=>by subst q; rw [z4] at hoe; cases hoe; simp at hce
  exact wpAny_setField_rec z4 (by simp) λg5 _ e5=>hE g5 e (λc o c1 c2 c3 c4 q=>e5.extBut _ _ c1 (e4 _ _ c4 (e3.extBut _ _ c2 (e2.extBut _ _ c3 (e1.extBut _ _ c1 q))))) ⟨oe,e5.extBut _ _ ne hoe,hce⟩
noncomputable def eu (b:Bool) (l:Addr):Obj:=match b with
 | true=>{ cls:=.type "list_iterator",data:=.fields #[.ref l,.int 0 0] }
 | false=>{ cls:=.type "tuple_iterator",data:=.fields #[.ref l,.int 0 0] }
theorem ia {b:Bool} {l:Addr} {items:Array Value} {Q:zd} (hl:SqAt b s.heap l items) (hQ:Q (.ref s.heap.objs.size) { s with heap:=s.heap.push (eu b l) }):wpAny (model prog w) A (pyIter (.ref l)) Q E s:=by
 cases b with
 | true=>exact wpAny_pyIter_list hl hQ
 | false=>exact wpAny_pyIter_tuple hl hQ
theorem SqAt.push {b:Bool} {h:Heap} {l:Addr} {items:Array Value} (x:SqAt b h l items) (o:Obj):SqAt b (h.push o) l items:=x.at λ_ q=>vc _ q
theorem kh {b:Bool} {h:Heap} {it l:Addr} (e:h.get? it=some (eu b l)):ItAt b h it l 0:=by
 cases b with
 | true=>exact ⟨_,e,rfl,rfl⟩
 | false=>exact ⟨_,e,rfl,rfl⟩
noncomputable abbrev zA (b1:Bool) (h:Heap) (l1:Addr):Heap:=h.push (eu b1 l1)
noncomputable abbrev zB (b1 b2:Bool) (h:Heap) (l1 l2:Addr):Heap:=(zA b1 h l1).push (eu b2 l2)
noncomputable abbrev zC (b1 b2:Bool) (h:Heap) (l1 l2:Addr):Heap:=(zB b1 b2 h l1 l2).push { cls:=.type "tuple",data:=.seq #[.ref h.objs.size,.ref (zA b1 h l1).objs.size] }
noncomputable abbrev zD (b1 b2:Bool) (h:Heap) (l1 l2:Addr):Heap:=(zC b1 b2 h l1 l2).push { cls:=.type "tuple",data:=.seq #[.none,.none] }
noncomputable abbrev zH (b1 b2:Bool) (h:Heap) (l1 l2:Addr):Heap:=(zD b1 b2 h l1 l2).push { cls:=.type "zip",data:=.fields #[.none,.bool false,.bool false,.ref (zB b1 b2 h l1 l2).objs.size,.ref (zC b1 b2 h l1 l2).objs.size] }
theorem ZmH (b1 b2:Bool) (l1 l2:Addr) (xs ys:Array Value) :
  Meets (Builtin.«zip.__new__» ⟨[.type "zip",.ref l1,.ref l2],[]⟩) (λ_ R s=>SqAt b1 s.heap l1 xs/\SqAt b2 s.heap l2 ys/\R (.ok (.ret (.ref (zD b1 b2 s.heap l1 l2).objs.size))) { s with heap:=zH b1 b2 s.heap l1 l2 }) :=
 .of_wp λprog w A R s h=>by
  obtain ⟨hp,g,d,tk,os⟩:=s
  obtain ⟨hl1,hl2,h⟩:=h
  have hsub:=sub_zip
  have q1:SqAt b1 (Shared.heap ⟨hp,g,d,tk,os⟩) l1 xs:=hl1
  have q2:SqAt b2 (Shared.heap ⟨hp.push (eu b1 l1),g,d,tk,os⟩) l2 ys:=hl2.push _
  wp_walk using ia q1,ia q2
  exact ⟨_,rfl,h⟩
theorem ZpI {b1 b2:Bool} {l1 l2:Addr} {xs ys:Array Value} {Q:zd} (hl1:SqAt b1 s.heap l1 xs) (hl2:SqAt b2 s.heap l2 ys)
  (h:∀ h',IsZip h' (s.heap.objs.size+4) (s.heap.objs.size+2) (s.heap.objs.size+3) .none->IsPair h' (s.heap.objs.size+2) (.ref s.heap.objs.size) (.ref (s.heap.objs.size+1))->IsPair h' (s.heap.objs.size+3) .none .none ->
   ItAt b1 h' s.heap.objs.size l1 0->ItAt b2 h' (s.heap.objs.size+1) l2 0->(∀ c o,s.heap.get? c=some o->h'.get? c=some o)->Q (.ref (s.heap.objs.size+4)) { s with heap:=h' }) :
  wpAny (model prog w) A (call (.type "zip") [.ref l1,.ref l2]) Q E s:=by
 refine callType_new F.called_zip (by decide) (F.typeCall_zip_2 _ _) (F.newCall_zip_2 _ _) (λobj=>F.args_object_init_3 obj _ _) F.entry_zip_new (ZmH b1 b2 l1 l2 xs ys) ⟨hl1,hl2,?_⟩
 have n1:(zA b1 s.heap l1).objs.size=s.heap.objs.size+1:=we ..
 have n2:(zB b1 b2 s.heap l1 l2).objs.size=s.heap.objs.size+2:=(we ..).trans (by rw [n1])
 have n3:(zC b1 b2 s.heap l1 l2).objs.size=s.heap.objs.size+3:=(we ..).trans (by rw [n2])
 have n4:(zD b1 b2 s.heap l1 l2).objs.size=s.heap.objs.size+4:=(we ..).trans (by rw [n3])
 have a5:IsZip (zH b1 b2 s.heap l1 l2) (zD b1 b2 s.heap l1 l2).objs.size (zB b1 b2 s.heap l1 l2).objs.size (zC b1 b2 s.heap l1 l2).objs.size .none:=vn _ rfl
 have a4:IsPair (zH b1 b2 s.heap l1 l2) (zC b1 b2 s.heap l1 l2).objs.size .none .none:=vc _ (vn _ rfl)
 have a3:IsPair (zH b1 b2 s.heap l1 l2) (zB b1 b2 s.heap l1 l2).objs.size (.ref s.heap.objs.size) (.ref (zA b1 s.heap l1).objs.size):=vc _ (vc _ (vn _ rfl))
 have a2:(zH b1 b2 s.heap l1 l2).get? (zA b1 s.heap l1).objs.size=some (eu b2 l2):=vc _ (vc _ (vc _ (vn _ (by cases b2 <;> rfl))))
 have a1:(zH b1 b2 s.heap l1 l2).get? s.heap.objs.size=some (eu b1 l1):=vc _ (vc _ (vc _ (vc _ (vn _ (by cases b1 <;> rfl)))))
 rw [n2,n3,n4] at a5
 rw [n3] at a4
 rw [n1,n2] at a3
 rw [n1] at a2
 show _/\_
 rw [n4]
 exact ⟨⟨_,a5,rfl⟩,h _ a5 a3 a4 (kh a1) (kh a2) λc o x=>vc _ (vc _ (vc _ (vc _ (vc _ x))))⟩
theorem Zld {b1 b2:Bool} {z TI TO i1 i2 l1 l2:Addr} {k1 k2:Nat} {xs ys:Array Value} {x y a b:Value} {Q:Option Value->Shared->Prop} (D:ZipApart z TI TO i1 i2 l1 l2)
  (hz:IsZip s.heap z TI TO .none) (hTI:IsPair s.heap TI (.ref i1) (.ref i2)) (hTO:IsPair s.heap TO a b) (h1:ItAt b1 s.heap i1 l1 k1) (h2:ItAt b2 s.heap i2 l2 k2) (hl1:SqAt b1 s.heap l1 xs) (hl2:SqAt b2 s.heap l2 ys) (hx:xs[k1]?=some x) (hy:ys[k2]?=some y)
  (hQ:∀ h',IsZip h' z TI TO (rawInt s.heap.objs.size)->IsPair h' TO x y->ItAt b1 h' i1 l1 (k1+1)->ItAt b2 h' i2 l2 (k2+1)->IsPair h' s.heap.objs.size x y ->
   (∀ c o,c≠z->c≠TO->c≠i1->c≠i2->s.heap.get? c=some o->h'.get? c=some o)->Q (some (.ref s.heap.objs.size)) { s with heap:=h' }):wpAny (model prog w) A (pyNext (.ref z)) Q E s:=by
 have hT:s.TypeIs (.ref z) "zip":=⟨_,hz,rfl⟩
 unfold pyNext
 exact wpAny_bind (wpAny_attempt (wpAny_callSpecial?_slot (name:=Str.ofString "__next__") hT yt (wpAny_call_entry yt hT F.entry_zip_next (Zi9 D hz hTI hTO h1 h2 hl1 hl2 hx hy λh' a1 a2 a3 a4 a5 a6=>wpAny_pure (hQ h' a1 a2 a3 a4 a5 a6)) (F.args_zip_next_1 _))))
theorem Zle {b1 b2:Bool} {z TI TO i1 i2 l1 l2:Addr} {k1 k2:Nat} {xs ys:Array Value} {a b:Value} {Q:Option Value->Shared->Prop} (hh:A.handled=none) (D:ZipApart z TI TO i1 i2 l1 l2)
  (hz:IsZip s.heap z TI TO .none) (hTI:IsPair s.heap TI (.ref i1) (.ref i2)) (hTO:IsPair s.heap TO a b) (h1:ItAt b1 s.heap i1 l1 k1) (h2:ItAt b2 s.heap i2 l2 k2) (hl1:SqAt b1 s.heap l1 xs) (hl2:SqAt b2 s.heap l2 ys) (hend:xs[k1]?=none\/ys[k2]?=none)
  (hQ:∀ h',(∀ c o,c≠z->c≠TO->c≠i1->c≠i2->s.heap.get? c=some o->h'.get? c=some o)->Q none { s with heap:=h' }):wpAny (model prog w) A (pyNext (.ref z)) Q E s:=by
 have hT:s.TypeIs (.ref z) "zip":=⟨_,hz,rfl⟩
 unfold pyNext
 refine wpAny_bind (wpAny_attempt (wpAny_callSpecial?_slot (name:=Str.ofString "__next__") hT yt (wpAny_call_entry yt hT F.entry_zip_next (Zja hh D hz hTI hTO h1 h2 hl1 hl2 hend λh' e hk he=>?_) (F.args_zip_next_1 _))))
 obtain ⟨o,ho,hc⟩:=he
 exact wpAny_bind (wpAny_isInstance (T:="StopIteration") (b:=true) ⟨o,ho,hc⟩ isSubtype_stop (wpAny_pure (hQ _ hk)))
end
section
variable {X:Cx} {pins:List (Addr×Obj)} {σ:St} {H:Hp} {s:Shared} {h':Heap}
theorem Inv.turns {t':Nat} {ch:List Addr} (I:Inv X pins σ H s) (k:∀ b o,b ∉ ch->s.heap.get? b=some o->h'.get? b=some o) (hf:∀ b∈ch,fV X pins H b):Inv X pins σ H { s with heap:=h',toks:=t' }:=by
 have nit:∀ b u,H b=some u->b ∉ ch:=λb u e z=>by rw [(hf b z).1] at e; cases e
 refine I.step (g':=s.gens) (d':=s.drawn) (ch:=ch) (λb hb=>?_) (λb o _ _ hc e _=>k b o hc e) (λb o _ _ hc e _=>⟨o.slots,k b o hc e⟩) (λ_ _ _ _ n=>n)
  (λb o hc e=>⟨o,k b o hc e⟩) (λ_ _ e=>e) (λ_ _ _ e=>e) (λb ps e=>⟨#[],by rw [e]; simp⟩) (λm hm=>?_) (λb u e=>?_) I.bare
 ·obtain ⟨_,f1,_,f3,f4,f5⟩:=hf b hb
  exact ⟨f3,f1,f4,f5⟩
 ·obtain ⟨o,es,ep,ho,r⟩:=hm
  exact ⟨o,es,ep,k _ o (λz=>(hf _ z).2.1 rfl) ho,r⟩
 ·refine (I.hok b u e).stay (λc v hc q=>k c v ?_ q) (λ_ q=>q) λ_ _ q=>q
  rcases hc with z | z
  ·rw [z]; exact nit b u e
  ·exact nit c _ z
theorem Inv.pair {T:Addr} {x y:V} {u v:Value} (I:Inv X pins σ H s) (hT:H T=none) (ho:IsPair s.heap T u v) (r1:RelV x u) (r2:RelV y v)
  (hL:T≠X.env.locals) (hs0:X.s₀.heap.objs.size<=T) (hc:∀ x c,X.env.cells.lookup x=some c->c≠T) (hp:∀ p∈X.pn++pins,p.1≠T):Inv X pins σ (upd H T (.tup [x,y])) s:=by
 have ne:∀ {b:Addr} {o:HO},H b=some o->b≠T:=λe=>cT e hT
 refine I.step (g':=s.gens) (d':=s.drawn) (t':=s.toks) (h':=s.heap) (ch:=[T]) (λb hb=>?_) (λb o _ _ _ e _=>e) (λb o _ _ _ e _=>⟨o.slots,e⟩) (λb o hb e n=>?_) (λb o _ e=>⟨o,e⟩)
  (λb xs e=>by rw [aV (ne e)]; exact e) (λb o u e=>by rw [aV (ne e)]; exact e) (λb ps e=>⟨#[],by rw [aV (ne e),e]; simp⟩) (λm hm=>hm) (λb u e=>?_) I.bare
 ·have e:b=T:=by simpa using hb
  subst e
  exact ⟨.inr hs0,hL,hc,hp⟩
 ·have hb':b≠T:=by simpa using hb
  rw [aV hb']
  exact n
 ·by_cases hb:b=T
  ·subst hb
   rw [ce] at e
   cases e
   exact ⟨by show 2<=sizeLine; decide,[_,_],.cons r1 (.cons r2 .nil),⟨_,ho,rfl,_,rfl⟩⟩
  ·rw [aV hb] at e
   exact (I.hok b u e).stay (λc v _ q=>q) (λc q=>by rw [aV (ne q)]; exact q) λc xs q=>by rw [aV (ne q)]; exact q
end
noncomputable def bm (b:Bool) (xs:zi):HO:=match b with
 | true=>.lst xs
 | false=>.tup xs
theorem dl {P:Program} {w:World} {H:Hp} {h:Heap} (ok:HOk P w H h) {b:Bool} {a:Addr} {xs:zi} (e:H a=some (bm b xs)):∃ its:zg,Vals xs its/\SqAt b h a its.toArray:=by
 cases b with
 | true=>obtain ⟨_,its,n,r,q⟩:=ok a _ e; exact ⟨its,r,⟨_,q,rfl,n,rfl⟩⟩
 | false=>obtain ⟨_,its,r,q⟩:=ok a _ e; exact ⟨its,r,q⟩
noncomputable def iH (b1 b2:Bool) (l1 l2:Addr):It :=
 ⟨λi H=>∃ xs ys x y,H l1=some (bm b1 xs)/\H l2=some (bm b2 ys)/\xs[i]?=some x/\ys[i]?=some y,
  λi H v H'=>∃ xs ys x y p,H l1=some (bm b1 xs)/\H l2=some (bm b2 ys)/\xs[i]?=some x/\ys[i]?=some y/\H p=none/\v=.ref p/\H'=upd H p (.tup [x,y]),
  λi H=>∃ xs ys,H l1=some (bm b1 xs)/\H l2=some (bm b2 ys)/\(xs[i]?=none\/ys[i]?=none)⟩
noncomputable def ZSt (b1 b2:Bool) (z TI TO i1 i2 l1 l2:Addr) (i:Nat) (h:Heap):Prop :=
 IsZip h z TI TO .none/\IsPair h TI (.ref i1) (.ref i2)/\(∃ a b,IsPair h TO a b)/\ItAt b1 h i1 l1 i/\ItAt b2 h i2 l2 i
theorem Zjv {P:Program} {w:World} {K:yY} {elts:List Expr} {x1:Nat} {pos:Pos} {b1 b2:Bool} {l1 l2:Addr} (z TI TO i1 i2:Addr)
  (d:TI≠z/\TO≠z/\i1≠z/\i2≠z/\TI≠TO/\TI≠i1/\TI≠i2/\TO≠i1/\TO≠i2/\i1≠i2) :
  Turn P w K (.Tuple elts x1 pos) (iH b1 b2 l1 l2) [z,TI,TO,i1,i2] z (ZSt b1 b2 z TI TO i1 i2 l1 l2) where
 mem:=by simp
 obj:=λi h st b hb=>by
  obtain ⟨hz,hTI,⟨a,c,hTO⟩,h1,h2⟩:=st
  simp at hb
  rcases hb with rfl | rfl | rfl | rfl | rfl
  ·exact ⟨_,hz,λv q=>by cases q⟩
  ·exact ⟨_,hTI,λv q=>by cases q⟩
  ·exact ⟨_,hTO,λv q=>by cases q⟩
  ·exact h1.there
  ·exact h2.there
 keep:=λi h h' st k=>by
  obtain ⟨hz,hTI,⟨a,c,hTO⟩,h1,h2⟩:=st
  exact ⟨k _ (by simp) _ hz,k _ (by simp) _ hTI,⟨a,c,k _ (by simp) _ hTO⟩,h1.at λo e=>k _ (by simp) o e,h2.at λo e=>k _ (by simp) o e⟩
 item:=by
  intro X hP hw hK hc i pins s σ H E I hf st hg
  subst hP hw hK
  obtain ⟨xs,ys,x,y,e1,e2,hx,hy⟩:=hg
  obtain ⟨hz,hTI,⟨a,c,hTO⟩,h1,h2⟩:=st
  obtain ⟨us,r1,q1⟩:=dl I.hok e1
  obtain ⟨vs,r2,q2⟩:=dl I.hok e2
  obtain ⟨u,hu,ru⟩:=r1.get hx
  obtain ⟨v,hv,rv⟩:=r2.get hy
  have n1:∀ b∈[z,TI,TO,i1,i2],l1≠b/\l2≠b:=λb hb=>⟨cT e1 (hf b hb).1,cT e2 (hf b hb).1⟩
  obtain ⟨d1,d2,d3,d4,d5,d6,d7,d8,d9,d10⟩:=d
  have D:ZipApart z TI TO i1 i2 l1 l2:=⟨d1,d2,d3,d4,d5,d6,d7,d8,d9,d10,(n1 z (by simp)).1,(n1 TO (by simp)).1,(n1 i1 (by simp)).1,(n1 i2 (by simp)).1,(n1 z (by simp)).2,(n1 TO (by simp)).2,(n1 i1 (by simp)).2,(n1 i2 (by simp)).2⟩
  refine Zld D hz hTI hTO h1 h2 q1 q2 (by simpa using hu) (by simpa using hv) λh' z' p' t1 t2 pr kk=>?_
  refine ⟨_,rfl,wpAny_letOwnedTupleGo_zip z' λh2' z2 sb=>?_⟩
  have lt:∀ {b:Addr} {o:Obj},s.heap.get? b=some o->s.heap.objs.size≠b:=λq=>wj (vE q)
  have zlt:=lt hz
  have I1:Inv X pins σ H { s with heap:=h2' }:=I.turns (ch:=[z,TI,TO,i1,i2]) (t':=s.toks) (λb o hb e=>by
   simp at hb
   exact sb.extBut _ _ hb.1 (kk b o hb.1 hb.2.2.1 hb.2.2.2.1 hb.2.2.2.2 e)) hf
  have hTn:H s.heap.objs.size=none:=I.hok.fresh (vo _)
  have I2:=I1.pair (T:=s.heap.objs.size) (x:=x) (y:=y) hTn (sb.extBut _ _ zlt pr) ru rv (wj I.lt) I.sz
   (λq cc e hq=>by obtain ⟨vv,zz⟩:=I.cell q cc e; exact absurd zz.lt (by rw [hq]; exact vV _)) (λp hp hq=>absurd (vE (I.pin p hp).1) (by rw [hq]; exact vV _))
  refine ⟨.ref s.heap.objs.size,_,I2,rfl,⟨xs,ys,x,y,_,e1,e2,hx,hy,hTn,rfl,rfl⟩,⟨z2,sb.extBut _ _ d1 (kk _ _ d1 d5 d6 d7 hTI),⟨u,v,sb.extBut _ _ d2 p'⟩,t1.at λo e=>sb.extBut _ _ d3 e,t2.at λo e=>sb.extBut _ _ d4 e⟩,λb hb=>?_⟩
  have hbn:b≠s.heap.objs.size:=by
   simp at hb
   obtain ⟨o1,g1,_⟩:=h1.there
   obtain ⟨o2,g2,_⟩:=h2.there
   rcases hb with rfl | rfl | rfl | rfl | rfl
   ·exact (lt hz).symm
   ·exact (lt hTI).symm
   ·exact (lt hTO).symm
   ·exact (lt g1).symm
   ·exact (lt g2).symm
  rw [aV hbn]
  exact (hf b hb).1
 done:=by
  intro X hP hw hK hc i pins s σ H E I hf st hg
  subst hP hw hK
  obtain ⟨xs,ys,e1,e2,hend⟩:=hg
  obtain ⟨hz,hTI,⟨a,c,hTO⟩,h1,h2⟩:=st
  obtain ⟨us,r1,q1⟩:=dl I.hok e1
  obtain ⟨vs,r2,q2⟩:=dl I.hok e2
  have n1:∀ b∈[z,TI,TO,i1,i2],l1≠b/\l2≠b:=λb hb=>⟨cT e1 (hf b hb).1,cT e2 (hf b hb).1⟩
  obtain ⟨d1,d2,d3,d4,d5,d6,d7,d8,d9,d10⟩:=d
  have D:ZipApart z TI TO i1 i2 l1 l2:=⟨d1,d2,d3,d4,d5,d6,d7,d8,d9,d10,(n1 z (by simp)).1,(n1 TO (by simp)).1,(n1 i1 (by simp)).1,(n1 i2 (by simp)).1,(n1 z (by simp)).2,(n1 TO (by simp)).2,(n1 i1 (by simp)).2,(n1 i2 (by simp)).2⟩
  refine Zle (I.ok.hd hc) D hz hTI hTO h1 h2 q1 q2 (hend.imp (λq=>by simpa using r1.none_of q) (λq=>by simpa using r2.none_of q)) λh' kk=>⟨rfl,?_⟩
  exact I.turns (ch:=[z,TI,TO,i1,i2]) (t':=s.toks) (λb o hb e=>by
   simp at hb
   exact kk b o hb.1 hb.2.2.1 hb.2.2.2.1 hb.2.2.2.2 e) hf
 self:=λ_ _ _ _ _ st h=>wpAny_pyIter_zip st.1 h
end L2
set_option Elab.async false
set_option linter.all false
set_option maxRecDepth 100000
namespace L2
open AutoSeq1 (wpAny_loadPart')
section
variable {X:Cx} {tg:Expr} {PK:Pk} {a b:Expr} {i j:yZ} {p pos:Pos}
def ZdU (ta tb:TE):TI:=λσ H R=>ta σ H λx H1=>tb σ H1 λy H2=>∃ b1 b2 l1 l2 xs ys,x=.ref l1/\y=.ref l2/\H2 l1=some (bm b1 xs)/\H2 l2=some (bm b2 ys)/\R (iH b1 b2 l1 l2) H2
theorem lw {elts:List Expr} {x1:Nat} {tpos:Pos} {ta tb:TE} (hc:X.calm=true) (hg:Gl X "zip") (hm:X.mg "zip"=none) (ha:PE X a ta) (hb:PE X b tb)
  (hs:starEach [a,b] X.env=[(false,eval a X.env),(false,eval b X.env)]:=by rfl) (hs2:starEach [b] X.env=[(false,eval b X.env)]:=by rfl):PI X (.Tuple elts x1 tpos) (.Call (.Name "zip" p) [a,b] [] pos) (ZdU ta tb):=by
 intro pins s σ H R I h
 have hab:PA X [a,b] (fk ta (fk tb a9)):=bH ha (bH hb cC (by rw [hs2]; rfl)) (by rw [hs,hs2])
 refine Call_ (ir I hg hm boot_zip (wp (thn (hab pos pins s σ H (λvs H2=>∃ b1 b2 l1 l2 xs ys,vs=[.ref l1,.ref l2]/\H2 l1=some (bm b1 xs)/\H2 l2=some (bm b2 ys)/\R (iH b1 b2 l1 l2) H2) I ?_) λus s1 ⟨vs,H1,I1,r1,q1⟩=>?_) (by rw [hs,hs2]) (by rw [hs2]; rfl)))
 ·refine (show ta σ H _ from ?_)
  have h':ta σ H λx H1=>tb σ H1 λy H2=>∃ b1 b2 l1 l2 xs ys,x=.ref l1/\y=.ref l2/\H2 l1=some (bm b1 xs)/\H2 l2=some (bm b2 ys)/\R (iH b1 b2 l1 l2) H2:=h
  have e:(λ(x:V) (H1:Hp)=>tb σ H1 λy H2=>∃ b1 b2 l1 l2 xs ys,x=.ref l1/\y=.ref l2/\H2 l1=some (bm b1 xs)/\H2 l2=some (bm b2 ys)/\R (iH b1 b2 l1 l2) H2) =
    λx H1=>fk tb a9 σ H1 λxs H2=>∃ b1 b2 l1 l2 us ys,x::xs=[.ref l1,.ref l2]/\H2 l1=some (bm b1 us)/\H2 l2=some (bm b2 ys)/\R (iH b1 b2 l1 l2) H2:=by
   funext x H1
   show _=tb σ H1 _
   congr 1
   funext y H2
   show _=(∃ b1 b2 l1 l2 us ys,[x,y]=[.ref l1,.ref l2]/\H2 l1=some (bm b1 us)/\H2 l2=some (bm b2 ys)/\R (iH b1 b2 l1 l2) H2)
   apply propext
   constructor
   ·rintro ⟨b1,b2,l1,l2,xs,ys,rfl,rfl,q⟩; exact ⟨b1,b2,l1,l2,xs,ys,rfl,q⟩
   ·rintro ⟨b1,b2,l1,l2,xs,ys,e,q⟩
    have e1:x=V.ref l1/\y=V.ref l2:=by simpa using e
    exact ⟨b1,b2,l1,l2,xs,ys,e1.1,e1.2,q⟩
  rw [e] at h'
  exact h'
 ·obtain ⟨b1,b2,l1,l2,xs,ys,rfl,e1,e2,q⟩:=q1
  obtain ⟨u1,u2,rfl,r1,r2⟩:=mT r1
  cases r1
  cases r2
  obtain ⟨us,ru,q1⟩:=dl I1.hok e1
  obtain ⟨vs,rv,q2⟩:=dl I1.hok e2
  refine ZpI q1 q2 λh' z pTI pTO t1 t2 kk=>?_
  have I2:Inv X pins σ H1 { s1 with heap:=h' }:=I1.kept (t':=s1.toks) kk
  have na:∀ n k:Nat,n≠k->(s1.heap.objs.size+n:Nat)≠s1.heap.objs.size+k:=λn k h e=>h (by omega)
  refine wpAny_pyIter_zip z ⟨s1.heap.objs.size+4,[s1.heap.objs.size+4,s1.heap.objs.size+2,s1.heap.objs.size+3,s1.heap.objs.size,s1.heap.objs.size+1],_,_,H1,rfl,I2,Zjv _ _ _ _ _ ⟨na 2 4 (by decide),na 3 4 (by decide),na 0 4 (by decide),na 1 4 (by decide),na 2 3 (by decide),na 2 0 (by decide),na 2 1 (by decide),na 3 0 (by decide),na 3 1 (by decide),na 0 1 (by decide)⟩,⟨z,pTI,⟨_,_,pTO⟩,t1,t2⟩,λb hb=>?_,q⟩
  have hle:s1.heap.objs.size<=b:=by
   simp at hb
   rcases hb with rfl | rfl | rfl | rfl | rfl <;> first | exact Nat.le_add_right _ _ | exact vo _
  exact I1.fpOk hle (I1.hok.fresh hle)
noncomputable def bP (xs ys:ze):ze:=(xs.zip ys).map λ(x,y)=>.tuple [x,y]
theorem l5 {G:Hp} {v:V} {x:PyData} {xs:ze} (d:Dn G v x) (h:fN x=some xs):∃ b a vs,v=.ref a/\G a=some (bm b vs)/\DnAll G vs xs:=by
 cases d with
 | lst h1 h2=>cases h; exact ⟨true,_,_,rfl,h1,h2⟩
 | tup h1 h2=>cases h; exact ⟨false,_,_,rfl,h1,h2⟩
 | _=>cases h
theorem oU {b:Bool} {xs ys:zi} (h:some (bm b xs)=some (bm b ys)):xs=ys:=by
 cases b <;> (cases h; rfl)
theorem Znn {pa:Addr} {G:Hp} {b1 b2:Bool} {l1 l2:Addr} {us vs:zi} {xs ys:ze} (h1:G l1=some (bm b1 us)) (h2:G l2=some (bm b2 vs)) (d1:DnAll G us xs) (d2:DnAll G vs ys):iG PK pa (iH b1 b2 l1 l2) G (bP xs ys):=λm G2 H2 sb w=>by
 have e1:H2 l1=some (bm b1 us):=w.sub _ _ (sb _ _ h1)
 have e2:H2 l2=some (bm b2 vs):=w.sub _ _ (sb _ _ h2)
 refine ⟨λn d hd=>?_,us,vs,e1,e2,?_⟩
 ·unfold bP at hd
  rw [vg] at hd
  cases hz:(xs.zip ys)[n]? with
  | none=>rw [hz] at hd; cases hd
  | some xy =>
   rw [hz] at hd
   cases hd
   have hxy:=yN.mp hz
   obtain ⟨u,hu,du⟩:=d1.get n hxy.1
   obtain ⟨v,hv,dv⟩:=d2.get n hxy.2
   refine ⟨⟨us,vs,u,v,e1,e2,hu,hv⟩,λx H3 hz0=>?_⟩
   obtain ⟨us',vs',u',v',p,f1,f2,hu',hv',hp,ex,eH⟩:=hz0
   rw [e1] at f1
   rw [e2] at f2
   have:=oU f1
   have:=oU f2
   subst us' vs'
   rw [hu] at hu'
   rw [hv] at hv'
   cases hu'
   cases hv'
   subst ex eH
   obtain ⟨w3,s3⟩:=w.new (o:=.tup [u,v]) hp
   exact ⟨_,s3,w3,.tup ce (.cons ((du.mono sb).mono s3.gs) (.cons ((dv.mono sb).mono s3.gs) .nil))⟩
 ·unfold bP
  rw [vd,xz,d1.length.symm,d2.length.symm]
  rcases Nat.le_total us.length vs.length with hle | hle
  ·left
   rw [x8 hle]
   simp
  ·right
   rw [Nat.min_eq_right hle]
   simp
noncomputable def jp (i j:yZ):y4:=λρ=>(i ρ).bind λx=>(j ρ).bind λy=>(Tr.of (fN x)).bind λxs=>(Tr.of (fN y)).bind λys=>.ret (bP xs ys)
theorem mq {iter:Expr} (h:PI X tg iter (ZdU (TAe PK i) (TAe PK j))):PI X tg iter (eN PK (jp i j)):=h.imp λσ H R0 hz0=>by
 obtain ⟨pa,zm,H₀,m,ρ,G,R,z⟩:=hz0
 refine TAe.then R z λm1 x v G1 H1 s1 w1 R1 d1 q1=>?_
 refine TAe.then R1 q1 λm2 y u G2 H2 s2 w2 R2 d2 q2=>?_
 rw [Tr.ok_bind] at q2
 obtain ⟨xs,hx,q2⟩:=Tr.ok_of q2
 rw [Tr.ok_bind] at q2
 obtain ⟨ys,hy,q2⟩:=Tr.ok_of q2
 obtain ⟨b1,l1,us,rfl,e1,f1⟩:=l5 (d1.mono s2.gs) hx
 obtain ⟨b2,l2,vs,rfl,e2,f2⟩:=l5 d2 hy
 exact ⟨b1,b2,l1,l2,us,vs,rfl,rfl,w2.sub _ _ e1,w2.sub _ _ e2,q2 _ G2 H2 (s1.trans s2 w1.some) w2 (Znn e1 e2 f1 f2)⟩
end
theorem ZhG {prog:Program} {w:World} {A:Around} (hh:A.handled=none) (b:Bool) (it l:Addr) (hne:l≠it) (items:Array Value):Draws prog w A it [it,l] items.size (λi v=>items[i]?=some v) (λi h=>ItAt b h it l i/\SqAt b h l items) where
 live:=λ_ _ st=>let ⟨o,ho,_⟩:=st.1.there; ⟨o,ho⟩
 frame:=λ_ _ _ st hk=>⟨st.1.at λo e=>hk it (by simp) o e,st.2.at λo e=>hk l (by simp) o e⟩
 item:=λi s Q E hi st hQ=>nV st.1 st.2 (x:=items[i]) (by simp [hi]) λh' hit' hs'=>hQ _ h' s.toks (by simp [hi]) ⟨hit',st.2.bt hs'.extBut hne⟩ hs'
 done:=λs Q E st hE=>sI hh st.1 st.2 (by simp) hE
theorem ZmK (b:Bool) (l:Addr) (items:Array Value) :
  Meets (Builtin.«enumerate.__new__» ⟨[.type "enumerate",.ref l],[]⟩) (λ_ R s=>SqAt b s.heap l items /\
   R (.ok (.ret (.ref (s.heap.push (eu b l)).objs.size))) { s with heap:=(s.heap.push (eu b l)).push { cls:=.type "enumerate",data:=.fields #[.none,.bool false,.ref s.heap.objs.size,rawInt 0,.none,.none] } }) :=
 .of_wp λprog w A R s h=>by
  obtain ⟨hp,g,d,tk,os⟩:=s
  obtain ⟨hl,h⟩:=h
  have hsub:=sub_enumerate
  have q:SqAt b (Shared.heap ⟨hp,g,d,tk,os⟩) l items:=hl
  have ho:∃ ob,hp.get? l=some ob:=by
   cases b with
   | true=>obtain ⟨ob,e,_⟩:=hl; exact ⟨ob,e⟩
   | false=>obtain ⟨ob,e,_⟩:=hl; exact ⟨ob,e⟩
  obtain ⟨ob,ho⟩:=ho
  wp_walk using wpAny_loadPart' ho
  refine wpAny_stack_any λst=>wpAny_pure ?_
  split
  ·rename_i c _ _ _ _ _
   cases (c == Value.type "enumerate")
   ·wp_walk using wpAny_loadPart' ho,ia q
    exact ⟨_,rfl,h⟩
   ·wp_walk using wpAny_loadPart' ho,ia q
    exact ⟨_,rfl,h⟩
  ·wp_walk using wpAny_loadPart' ho,ia q
   exact ⟨_,rfl,h⟩
section
variable {prog:Program} {w:World} {A:Around} {E:zd} {s:Shared}
theorem ZpO {b:Bool} {l:Addr} {items:Array Value} {Q:zd} (hl:SqAt b s.heap l items)
  (h:∀ h',IsEnum h' (s.heap.objs.size+1) s.heap.objs.size 0 .none->ItAt b h' s.heap.objs.size l 0->(∀ c o,s.heap.get? c=some o->h'.get? c=some o)->Q (.ref (s.heap.objs.size+1)) { s with heap:=h' }) :
  wpAny (model prog w) A (call (.type "enumerate") [.ref l]) Q E s:=by
 refine callType_new F.called_enumerate (by decide) (F.typeCall_enumerate_1 _) (F.newCall_enumerate_1 _) (λobj=>yw obj _) F.entry_enumerate_new (ZmK b l items) ⟨hl,?_⟩
 have n1:(s.heap.push (eu b l)).objs.size=s.heap.objs.size+1:=we ..
 have a2:IsEnum ((s.heap.push (eu b l)).push { cls:=.type "enumerate",data:=.fields #[.none,.bool false,.ref s.heap.objs.size,rawInt 0,.none,.none] }) (s.heap.push (eu b l)).objs.size s.heap.objs.size 0 .none:=vn _ rfl
 have a1:((s.heap.push (eu b l)).push { cls:=.type "enumerate",data:=.fields #[.none,.bool false,.ref s.heap.objs.size,rawInt 0,.none,.none] }).get? s.heap.objs.size=some (eu b l):=vc _ (vn _ (by cases b <;> rfl))
 rw [n1] at a2
 show _/\_
 rw [n1]
 exact ⟨⟨_,a2,rfl⟩,h _ a2 (kh a1) λc o x=>vc _ (vc _ x)⟩
end
noncomputable def jA (b:Bool) (l:Addr):It :=
 ⟨λi H=>∃ xs x,H l=some (bm b xs)/\xs[i]?=some x,
  λi H v H'=>∃ xs x p,H l=some (bm b xs)/\xs[i]?=some x/\H p=none/\v=.ref p/\H'=upd H p (.tup [.int i,x]),
  λi H=>∃ xs,H l=some (bm b xs)/\xs.length=i⟩
theorem ZjA {P:Program} {w:World} {K:yY} {elts:List Expr} {x1:Nat} {pos:Pos} {b:Bool} {l:Addr} (e it:Addr) (hne:e≠it) :
  Turn P w K (.Tuple elts x1 pos) (jA b l) [e,it] e (λi h=>(∃ old,IsEnum h e it i old)/\ItAt b h it l i) where
 mem:=by simp
 obj:=λi h st c hb=>by
  obtain ⟨⟨old,he⟩,h1⟩:=st
  simp at hb
  rcases hb with rfl | rfl
  ·exact ⟨_,he,λv q=>by cases q⟩
  ·exact h1.there
 keep:=λi h h' st k=>by
  obtain ⟨⟨old,he⟩,h1⟩:=st
  exact ⟨⟨old,k _ (by simp) _ he⟩,h1.at λo q=>k _ (by simp) o q⟩
 item:=by
  intro X hP hw hK hc i pins s σ H E I hf st hg
  subst hP hw hK
  obtain ⟨xs,x,e1,hx⟩:=hg
  obtain ⟨⟨old,he⟩,h1⟩:=st
  obtain ⟨us,r1,q1⟩:=dl I.hok e1
  obtain ⟨u,hu,ru⟩:=r1.get hx
  have nl:∀ c∈[e,it],l≠c:=λc hc=>cT e1 (hf c hc).1
  have hlt:i < us.toArray.size:=by
   have:=(vf.mp hu).1
   simpa using this
  refine wpAny_pyNext_enum_itemD (ZhG (A:=X.A.in1) (show X.A.in1.handled=none from I.ok.hd hc) b it l (nl it (by simp)) us.toArray) he ⟨h1,q1⟩ hlt hne (by simp only [vJ,yA,or_false,not_or]; exact ⟨hne,(nl e (by simp)).symm⟩) λx' h' tk hP' ho st' hT hsz kk=>?_
  have hxu:x'=u:=by
   have q:us[i]?=some x':=by simpa using hP'
   rw [hu] at q
   cases q
   rfl
  subst hxu
  refine ⟨_,rfl,wpAny_letOwnedTupleGo_enum ho λh2' z2 sb=>?_⟩
  have lt:∀ {c:Addr} {o:Obj},s.heap.get? c=some o->s.heap.objs.size≠c:=λq=>wj (vE q)
  have I1:Inv X pins σ H { s with heap:=h2',toks:=tk+1 }:=I.turns (ch:=[e,it]) (λc o hb q=>by
   simp at hb
   exact sb.extBut _ _ hb.1 (kk c o hb.1 hb.2 q)) hf
  have hTn:H s.heap.objs.size=none:=I.hok.fresh (vo _)
  have I2:=I1.pair (T:=s.heap.objs.size) (x:=.int i) (y:=x) hTn (sb.extBut _ _ (lt he) hT) ⟨tk,rfl⟩ ru (wj I.lt) I.sz
   (λq cc ee hq=>by obtain ⟨vv,zz⟩:=I.cell q cc ee; exact absurd zz.lt (by rw [hq]; exact vV _)) (λp hp hq=>absurd (vE (I.pin p hp).1) (by rw [hq]; exact vV _))
  refine ⟨.ref s.heap.objs.size,_,I2,rfl,⟨xs,x,_,e1,hx,hTn,rfl,rfl⟩,⟨⟨_,z2⟩,st'.1.at λo q=>sb.extBut _ _ (Ne.symm hne) q⟩,λc hb=>?_⟩
  have hbn:c≠s.heap.objs.size:=by
   simp at hb
   obtain ⟨o1,g1,_⟩:=h1.there
   rcases hb with rfl | rfl
   ·exact (lt he).symm
   ·exact (lt g1).symm
  rw [aV hbn]
  exact (hf c hb).1
 done:=by
  intro X hP hw hK hc i pins s σ H E I hf st hg
  subst hP hw hK
  obtain ⟨xs,e1,hend⟩:=hg
  obtain ⟨⟨old,he⟩,h1⟩:=st
  obtain ⟨us,r1,q1⟩:=dl I.hok e1
  have nl:∀ c∈[e,it],l≠c:=λc hc=>cT e1 (hf c hc).1
  have hsz:us.toArray.size=i:=by rw [vq,<- r1.length]; exact hend
  subst hsz
  refine wpAny_pyNext_enum_endD (ZhG (A:=X.A.in1) (show X.A.in1.handled=none from I.ok.hd hc) b it l (nl it (by simp)) us.toArray) he ⟨h1,q1⟩ λh' eb=>⟨rfl,?_⟩
  exact I.turns (ch:=[e,it]) (t':=s.toks) (λc o hb q=>by
   simp at hb
   exact eb c o hb.2 q) hf
 self:=λ_ _ _ _ _ st h=>by
  obtain ⟨⟨old,he⟩,_⟩:=st
  exact wpAny_pyIter_enum he h
section
variable {X:Cx} {tg:Expr} {PK:Pk} {a b:Expr} {i j:yZ} {p pos:Pos}
def ZdX (ta:TE):TI:=λσ H R=>ta σ H λx H1=>∃ b l xs,x=.ref l/\H1 l=some (bm b xs)/\R (jA b l) H1
theorem lx {elts:List Expr} {x1:Nat} {tpos:Pos} {ta:TE} (hc:X.calm=true) (hg:Gl X "enumerate") (hm:X.mg "enumerate"=none) (ha:PE X a ta)
  (hs:starEach [a] X.env=[(false,eval a X.env)]:=by rfl):PI X (.Tuple elts x1 tpos) (.Call (.Name "enumerate" p) [a] [] pos) (ZdX ta):=by
 intro pins s σ H R I h
 have hab:PA X [a] (fk ta a9):=bH ha cC (by rw [hs]; rfl)
 have h':fk ta a9 σ H λvs H1=>∃ x,vs=[x]/\∃ b l xs,x=.ref l/\H1 l=some (bm b xs)/\R (jA b l) H1:=by
  have e:(λ(x:V) (H1:Hp)=>∃ b l xs,x=.ref l/\H1 l=some (bm b xs)/\R (jA b l) H1)=λx H1=>a9 σ H1 λxs H2=>∃ y,x::xs=[y]/\∃ b l xs,y=.ref l/\H2 l=some (bm b xs)/\R (jA b l) H2:=by
   funext x H1
   apply propext
   constructor
   ·exact λq=>⟨x,rfl,q⟩
   ·rintro ⟨y,e,q⟩
    have e':x=y:=by simpa using e
    subst e'
    exact q
  have h0:ta σ H λx H1=>∃ b l xs,x=.ref l/\H1 l=some (bm b xs)/\R (jA b l) H1:=h
  rw [e] at h0
  exact h0
 refine Call_ (ir I hg hm boot_enumerate (wp (thn (hab pos pins s σ H _ I h') λus s1 hz0=>?_) (by rw [hs]; rfl) rfl))
 obtain ⟨vs,H1,I1,r1,q1⟩:=hz0
 obtain ⟨x,rfl,b,l,xs,rfl,e1,q⟩:=q1
 obtain ⟨u,rfl,ru⟩:=fi r1
 cases ru
 obtain ⟨us,ru,q1⟩:=dl I1.hok e1
 refine ZpO q1 λh' z t1 kk=>?_
 have I2:Inv X pins σ H1 { s1 with heap:=h' }:=I1.kept (t':=s1.toks) kk
 refine wpAny_pyIter_enum z ⟨s1.heap.objs.size+1,[s1.heap.objs.size+1,s1.heap.objs.size],_,_,H1,rfl,I2,ZjA _ _ (λq=>absurd (show (s1.heap.objs.size+1:Nat)=s1.heap.objs.size from q) (by omega)),⟨⟨_,z⟩,t1⟩,λc hb=>?_,q⟩
 have hle:s1.heap.objs.size<=c:=by
  simp at hb
  rcases hb with rfl | rfl <;> first | exact Nat.le_add_right _ _ | exact vo _
 exact I1.fpOk hle (I1.hok.fresh hle)
noncomputable def dJ (xs:ze):ze:=(List.range xs.length).zipWith (λ(n:Nat) x=>.tuple [.int n,x]) xs
theorem Znr {pa:Addr} {G:Hp} {b:Bool} {l:Addr} {us:zi} {xs:ze} (h1:G l=some (bm b us)) (d1:DnAll G us xs):iG PK pa (jA b l) G (dJ xs):=λm G2 H2 sb w=>by
 have e1:H2 l=some (bm b us):=w.sub _ _ (sb _ _ h1)
 have hlen:(dJ xs).length=xs.length:=by unfold dJ; simp
 refine ⟨λn d hd=>?_,us,e1,by rw [hlen,d1.length]⟩
 have hn:n < xs.length:=by rw [<- hlen]; exact (vf.mp hd).1
 have hd':d=.tuple [.int n,xs[n]]:=by
  unfold dJ at hd
  rw [List.getElem?_zipWith] at hd
  simp [hn] at hd
  exact hd.symm
 subst hd'
 obtain ⟨u,hu,du⟩:=d1.get n (show xs[n]?=some xs[n] by simp [hn])
 refine ⟨⟨us,u,e1,hu⟩,λx H3 hz0=>?_⟩
 obtain ⟨us',u',p,f1,hu',hp,ex,eH⟩:=hz0
 rw [e1] at f1
 have:=oU f1
 subst us'
 rw [hu] at hu'
 cases hu'
 subst ex eH
 obtain ⟨w3,s3⟩:=w.new (o:=.tup [.int n,u]) hp
 exact ⟨_,s3,w3,.tup ce (.cons (.int n) (.cons ((du.mono sb).mono s3.gs) .nil))⟩
noncomputable def js (i:yZ):y4:=λρ=>(i ρ).bind λx=>(Tr.of (fN x)).bind λxs=>.ret (dJ xs)
theorem mr {iter:Expr} (h:PI X tg iter (ZdX (TAe PK i))):PI X tg iter (eN PK (js i)):=h.imp λσ H R0 hz0=>by
 obtain ⟨pa,zm,H₀,m,ρ,G,R,z⟩:=hz0
 refine TAe.then R z λm1 x v G1 H1 s1 w1 R1 d1 q1=>?_
 rw [Tr.ok_bind] at q1
 obtain ⟨xs,hx,q1⟩:=Tr.ok_of q1
 obtain ⟨b1,l1,us,rfl,e1,f1⟩:=l5 d1 hx
 exact ⟨b1,l1,us,rfl,w1.sub _ _ e1,q1 _ G1 H1 s1 w1 (Znr e1 f1)⟩
end
end L2
set_option Elab.async false
set_option linter.all false
set_option maxRecDepth 100000
namespace L2
section
variable {prog:Program} {w:World} {A:Around}
theorem qr (hh:A.handled=none) (b:Bool) (I ax:Addr) (hne:ax≠I) (items:Array Value):Walks prog w A I [I,ax] [I] items.size (λi v=>items[i]?=some v) (λi h=>ItAt b h I ax i/\SqAt b h ax items):=by
 cases b with
 | true=>exact Walks.list hh I ax hne items
 | false=>exact Walks.tuple hh I ax hne items
end
theorem tz {ns:zf} {us:zg} (r:Vals (ns.map V.int) us) {i:Nat} {v:Value} (h:us[i]?=some v):∃ t,v=.int ((ns[i]?).getD 0) t:=by
 have hi:i < us.length:=(vf.mp h).1
 have hl:us.length=ns.length:=by rw [<- r.length,vd]
 obtain ⟨u,e1,e2⟩:=r.get (i:=i) (x:=V.int ns[i]) (by simp [show i < ns.length by omega])
 rw [h] at e1
 cases e1
 obtain ⟨t,e2⟩:=e2
 exact ⟨t,by simp [show i < ns.length by omega,e2]⟩
theorem Zls (ns:zf):preSum (λi=>(ns[i]?).getD 0) ns.length=ns.sum:=by
 have key:∀ k,k<=ns.length->preSum (λi=>(ns[i]?).getD 0) k=(ns.take k).sum:=by
  intro k
  induction k with
  | zero=>intro _; simp [preSum]
  | succ k ih =>
   intro hk
   rw [preSum,ih (by omega),List.take_add_one,List.sum_append]
   simp [show k < ns.length by omega]
 rw [key _ (vo _),yz]
section
variable {X:Cx} {PK:Pk}
theorem fc (hc:X.calm=true):dE X (.builtin "sum") (λxs H Q=>∃ (b:Bool) (l:Addr) (ns:zf),xs=[.ref l]/\H l=some (bm b (ns.map V.int))/\Q (.int ns.sum) H):=by
 intro pins s σ H xs us Q I r h
 obtain ⟨b,l,ns,rfl,e1,q⟩:=h
 obtain ⟨u,rfl,ru⟩:=fi r
 cases ru
 obtain ⟨vs,rv,sq⟩:=dl I.hok e1
 have hlt:l < s.heap.objs.size:=I.hok.lt e1
 refine call_sum_walkG (ia sq ?_)
 refine ⟨s.heap.objs.size,[s.heap.objs.size,l],[s.heap.objs.size],vs.toArray.size,_,_,λi=>(ns[i]?).getD 0,rfl,qr (A:=X.A.in1) (I.ok.hd hc) b _ l (vM hlt) vs.toArray,
  ⟨kh (vn _ (by cases b <;> rfl)),sq.push _⟩,λc hc=>?_,λi v hv=>tz rv (by simpa using hv),λh' tk t' hk=>?_⟩
 ·rw [we]
  simp at hc
  rcases hc with rfl | rfl
  ·exact xW _
  ·exact xp hlt
 ·refine ⟨.int ns.sum,H,I.kept (t':=tk) λc o e=>hk c o (λz=>?_) (vc _ e),⟨t',?_⟩,q⟩
  ·have:c=s.heap.objs.size:=by simpa using z
   subst this
   exact vV _ (vE e)
  ·have e:vs.toArray.size=ns.length:=by rw [vq,<- rv.length,vd]
   rw [e,Zls]
theorem Zk9 (bs:List Bool):((List.range bs.length).all λi=>(bs[i]?).getD true)=bs.all id:=by
 rw [xB,xv,xv]
 constructor
 ·intro h x hx
  obtain ⟨i,hi,rfl⟩:=List.getElem_of_mem hx
  have:=h i (v7.mpr hi)
  simpa [hi] using this
 ·intro h i hi
  have hi':=v7.mp hi
  simpa [hi'] using h _ (ww hi')
theorem Zqi {bs:List Bool} {us:zg} (r:Vals (bs.map V.bl) us) {i:Nat} {v:Value} (h:us[i]?=some v):v=.bool ((bs[i]?).getD true):=by
 have hi:i < us.length:=(vf.mp h).1
 have hl:us.length=bs.length:=by rw [<- r.length,vd]
 obtain ⟨u,e1,e2⟩:=r.get (i:=i) (x:=V.bl bs[i]) (by simp [show i < bs.length by omega])
 rw [h] at e1
 cases e1
 cases e2
 simp [show i < bs.length by omega]
theorem Zib (hc:X.calm=true):dE X (.builtin "all") (λxs H Q=>∃ (b:Bool) (l:Addr) (bs:List Bool),xs=[.ref l]/\H l=some (bm b (bs.map V.bl))/\Q (.bl (bs.all id)) H):=by
 intro pins s σ H xs us Q I r h
 obtain ⟨b,l,bs,rfl,e1,q⟩:=h
 obtain ⟨u,rfl,ru⟩:=fi r
 cases ru
 obtain ⟨vs,rv,sq⟩:=dl I.hok e1
 have hlt:l < s.heap.objs.size:=I.hok.lt e1
 refine call_all_walk (ia sq ?_)
 refine ⟨s.heap.objs.size,[s.heap.objs.size,l],[s.heap.objs.size],vs.toArray.size,_,_,λi=>(bs[i]?).getD true,rfl,qr (A:=X.A.in1) (I.ok.hd hc) b _ l (vM hlt) vs.toArray,
  ⟨kh (vn _ (by cases b <;> rfl)),sq.push _⟩,λi v s' Q' E' hP hQ=>?_,λh' tk hk=>?_⟩
 ·have e:=Zqi rv (i:=i) (v:=v) (by simpa using hP)
  subst e
  exact wpAny_truthy_bool hQ
 ·have e:vs.toArray.size=bs.length:=by rw [vq,<- rv.length,vd]
  rw [e,Zk9]
  refine ⟨.bl _,H,I.kept (t':=tk) λc o e=>hk c o (λz=>?_) (vc _ e),rfl,q⟩
  have:c=s.heap.objs.size:=by simpa using z
  subst this
  exact vV _ (vE e)
noncomputable def eY:List Int->Int
 | []=>0
 | [n]=>n
 | n::m::r=>bR (eY (m::r)) n
theorem nZ:∀ {ns:zf},ns≠[]->eY ns∈ns/\∀ m∈ns,m<=eY ns
 | [],h=>absurd rfl h
 | [n],_=>⟨by simp [eY],by simp [eY]⟩
 | n::m::r,_=>by
  obtain ⟨h1,h2⟩:=nZ (ns:=m::r) (by simp)
  unfold eY bR
  split
  ·refine ⟨by simp,λk hk=>?_⟩
   rcases vJ.mp hk with rfl | hk
   ·exact vN _
   ·have:=h2 k hk; omega
  ·refine ⟨ve _ h1,λk hk=>?_⟩
   rcases vJ.mp hk with rfl | hk
   ·omega
   ·exact h2 k hk
theorem Ziz (f:Nat->Int):∀ k,argBest (λi j=>decide (f i > f j)) k<=k/\∀ j,j<=k->f j<=f (argBest (λi j=>decide (f i > f j)) k)
 | 0=>⟨vo _,λj hj=>by
  have:j=0:=by omega
  subst this
  exact vN _⟩
 | k+1=>by
  obtain ⟨h1,h2⟩:=Ziz f k
  unfold argBest
  by_cases hc:f (k+1) > f (argBest (λi j=>decide (f i > f j)) k)
  ·rw [if_pos (by simpa using hc)]
   refine ⟨vo _,λj hj=>?_⟩
   rcases Nat.lt_or_eq_of_le hj with h | h
   ·have:=h2 j (by omega); omega
   ·subst h; exact vN _
  ·rw [if_neg (by simpa using hc)]
   refine ⟨by omega,λj hj=>?_⟩
   rcases Nat.lt_or_eq_of_le hj with h | h
   ·exact h2 j (by omega)
   ·subst h; omega
theorem ZpN (hc:X.calm=true):dE X (.builtin "max") (λxs H Q=>∃ (b:Bool) (l:Addr) (ns:zf),xs=[.ref l]/\H l=some (bm b (ns.map V.int))/\ns≠[]/\Q (.int (eY ns)) H):=by
 intro pins s σ H xs us Q I r h
 obtain ⟨b,l,ns,rfl,e1,hne,q⟩:=h
 obtain ⟨u,rfl,ru⟩:=fi r
 cases ru
 obtain ⟨vs,rv,sq⟩:=dl I.hok e1
 have hlt:l < s.heap.objs.size:=I.hok.lt e1
 have hsz:vs.toArray.size=ns.length:=by rw [vq,<- rv.length,vd]
 have hpos:0 < ns.length:=yj.mpr hne
 refine call_max_walk (ia sq ?_)
 refine ⟨s.heap.objs.size,[s.heap.objs.size,l],[s.heap.objs.size],vs.toArray.size,_,_,λi j=>decide ((ns[i]?).getD 0 > (ns[j]?).getD 0),rfl,qr (A:=X.A.in1) (I.ok.hd hc) b _ l (vM hlt) vs.toArray,
  ⟨kh (vn _ (by cases b <;> rfl)),sq.push _⟩,λc hc=>?_,by omega,CmpOf.ints_gt (λi=>(ns[i]?).getD 0) (λi v hv=>tz rv (by simpa using hv)),λv h' tk hv hk=>?_⟩
 ·rw [we]
  simp at hc
  rcases hc with rfl | rfl
  ·exact xW _
  ·exact xp hlt
 ·obtain ⟨t,rfl⟩:=tz rv (by rw [<- List.getElem?_toArray]; exact hv)
  obtain ⟨b1,b2⟩:=Ziz (λi=>(ns[i]?).getD 0) (vs.toArray.size - 1)
  obtain ⟨m1,m2⟩:=nZ hne
  refine ⟨.int (eY ns),H,I.kept (t':=tk) λc o e=>hk c o (λz=>?_) (vc _ e),⟨t,?_⟩,q⟩
  ·have:c=s.heap.objs.size:=by simpa using z
   subst this
   exact vV _ (vE e)
  ·congr 1
   obtain ⟨i,hi,ei⟩:=List.getElem_of_mem m1
   have h1:=b2 i (by omega)
   simp only [hi,vx,Option.getD_some,ei] at h1
   have hb:argBest (λi j=>decide ((ns[i]?).getD 0 > (ns[j]?).getD 0)) (vs.toArray.size - 1) < ns.length:=by omega
   have h2:=m2 _ (ww hb)
   simp only [hb,vx,Option.getD_some] at h1 ⊢
   omega
noncomputable def bools?:List PyData->Option (List Bool)
 | []=>some []
 | .bool n::xs=>(bools? xs).bind λns=>some (n::ns)
 | _=>none
@[simp] theorem bools?_map:∀ ns:List Bool,bools? (ns.map PyData.bool)=some ns
 | []=>rfl
 | n::ns=>by rw [vC,bools?,bools?_map ns]; rfl
theorem DnAll.bools_inv {H:Hp} {vs:zi} {ds:ze} {ns:List Bool} (a:DnAll H vs ds) (h:bools? ds=some ns):vs=ns.map V.bl/\ds=ns.map PyData.bool:=by
 induction vs generalizing ds ns with
 | nil=>cases a; cases h; exact ⟨rfl,rfl⟩
 | cons v vs ih =>
  cases a with
  | cons g t =>
   cases g with
   | bl n =>
    unfold bools? at h
    rename_i ds
    cases e:bools? ds with
    | none=>rw [e] at h; cases h
    | some ms =>
     rw [e] at h
     cases h
     obtain ⟨h1,h2⟩:=ih t e
     exact ⟨by rw [h1]; rfl,by rw [h2]; rfl⟩
   | _=>unfold bools? at h; cases h
noncomputable def gb {α:Type} (p:List PyData->Option α) (f:α->Option PyData):List PyData->Option PyData
 | [x]=>(fN x).bind λxs=>(p xs).bind f
 | _=>none
noncomputable def cH:List PyData->Option PyData:=gb ints? λns=>some (.int ns.sum)
noncomputable def iZ:List PyData->Option PyData:=gb ints? λns=>if (!ns.isEmpty)=true then some (.int (eY ns)) else none
noncomputable def ml:List PyData->Option PyData:=gb bools? λns=>some (.bool (ns.all id))
theorem sE {α:Type} {p:List PyData->Option α} {f:α->Option PyData} {G:Hp} {vs:zi} {ds:ze} {d:PyData} (hv:DnAll G vs ds) (h:gb p f ds=some d):∃ b l us xs y,vs=[.ref l]/\G l=some (bm b us)/\DnAll G us xs/\p xs=some y/\f y=some d:=by
 unfold gb at h
 split at h
 ·rename_i x
  cases hx:fN x with
  | none=>rw [hx] at h; cases h
  | some xs =>
   rw [hx] at h
   have h':(p xs).bind f=some d:=h
   cases hp:p xs with
   | none=>rw [hp] at h'; cases h'
   | some y =>
    rw [hp] at h'
    cases hv with
    | cons h1 h2 =>
     cases h2
     obtain ⟨b,l,us,rfl,e1,e2⟩:=l5 h1 hx
     exact ⟨b,l,us,xs,y,rfl,e1,e2,hp,h'⟩
 ·cases h
theorem eO:fE (λxs H Q=>∃ (b:Bool) (l:Addr) (ns:zf),xs=[.ref l]/\H l=some (bm b (ns.map V.int))/\Q (.int ns.sum) H) cH:=λPK pa m G H vs ds d Q w hv hd k=>by
 obtain ⟨b,l,us,xs,ns,rfl,e1,e2,hp,hf⟩:=sE hv hd
 obtain ⟨rfl,rfl⟩:=e2.ints_inv hp
 cases hf
 exact ⟨b,l,ns,rfl,w.sub _ _ e1,k.here w (.int _)⟩
theorem Zjn:fE (λxs H Q=>∃ (b:Bool) (l:Addr) (ns:zf),xs=[.ref l]/\H l=some (bm b (ns.map V.int))/\ns≠[]/\Q (.int (eY ns)) H) iZ:=λPK pa m G H vs ds d Q w hv hd k=>by
 obtain ⟨b,l,us,xs,ns,rfl,e1,e2,hp,hf⟩:=sE hv hd
 obtain ⟨rfl,rfl⟩:=e2.ints_inv hp
 split at hf
 ·rename_i hc
  cases hf
  exact ⟨b,l,ns,rfl,w.sub _ _ e1,(λz=>by subst z; cases hc),k.here w (.int _)⟩
 ·cases hf
theorem Zak:fE (λxs H Q=>∃ (b:Bool) (l:Addr) (bs:List Bool),xs=[.ref l]/\H l=some (bm b (bs.map V.bl))/\Q (.bl (bs.all id)) H) ml:=λPK pa m G H vs ds d Q w hv hd k=>by
 obtain ⟨b,l,us,xs,ns,rfl,e1,e2,hp,hf⟩:=sE hv hd
 obtain ⟨rfl,rfl⟩:=e2.bools_inv hp
 cases hf
 exact ⟨b,l,ns,rfl,w.sub _ _ e1,k.here w (.bl _)⟩
variable {a b c e:Expr} {pos:Pos} {i j l:yZ}
noncomputable def pW (f g:zc) (i j l:yZ):yZ:=λρ=>(i ρ).bind λx=>(j ρ).bind λy=>(Tr.of (f x y)).bind λz=>(Tr.of (iK z)).bind λk =>
 if k=true then (l ρ).bind λu=>Tr.of (g y u) else .ret (.bool false)
theorem ZpB {r r':R2} {f g:zc} (hv:cz r f) (hv':cz r' g):∀ σ H Q,TAe PK (pW f g i j l) σ H Q->Zat r r' (TAe PK i) (TAe PK j) (TAe PK l) σ H Q:=by
 rintro σ H Q ⟨pa,zm,H₀,m,ρ,G,R,q⟩
 refine TAe.then R q λm1 x v G1 H1 s1 w1 R1 d1 q1=>?_
 refine TAe.then R1 q1 λm2 y u G2 H2 s2 w2 R2 d2 q2=>?_
 rw [Tr.ok_bind] at q2
 obtain ⟨z,hz,q3⟩:=Tr.ok_of q2
 rw [Tr.ok_bind] at q3
 obtain ⟨k,hk,q5⟩:=Tr.ok_of q3
 have s12:=s1.trans s2 w1.some
 refine hv PK pa m2 G2 H2 v u x y z _ w2 (d1.mono s2.gs) d2 hz λzz G3 H3 s3 w3 d3=>?_
 cases d3 <;> simp only [iK] at hk <;> cases hk
 refine ⟨_,rfl,?_⟩
 have s13:=s12.trans s3 w2.some
 cases k with
 | true =>
  rw [if_pos rfl] at q5 ⊢
  refine TAe.then (R2.step s3 w3) q5 λm4 t vt G4 H4 s4 w4 R4 d4 q4=>?_
  obtain ⟨zz,hzz,q4⟩:=Tr.ok_of q4
  exact hv' PK pa m4 G4 H4 u vt y t zz Q w4 (d2.mono (s3.gs.trans s4.gs)) d4 hzz (Kn.later q4 (s13.trans s4 w3.some) w4.some)
 | false =>
  rw [if_neg vD] at q5 ⊢
  exact (Kn.later q5 s13 w3.some).here w3 (.bl false)
theorem ZqM {op op':CmpOp} {r r':R2} {f g:zc} (ho:OpR X (compareOp op) r) (hv:cz r f) (ho':OpR X (compareOp op') r') (hv':cz r' g) (ha:PE X a (TAe PK i)) (hb:PE X b (TAe PK j)) (hc:PE X c (TAe PK l))
  (hm:lastMarks [op,op'] [b,c]=false:=by with_unfolding_all rfl):PE X (.Compare a [op,op'] [b,c] pos) (TAe PK (pW f g i j l)):=(ZlQ ho ho' ha hb hc hm).imp (ZpB hv hv')
theorem tw:OpR X (inplaceOp .Mult) (rI CMulG λi j=>.int (i * j)):=ii λ_ _ _ _ _ _ _ hc q=>imul_int q hc.ok
theorem pip {op:Operator} {r:R2} (h:OpR X (inplaceOp op) r):mF X op r:=h
noncomputable def oR:zc
 | .int m,.int n=>some (.int (m+n))
 | _,_=>none
theorem Zjl:cz (eS λi j=>.int (i+j)) oR:=λPK pa m G H x y dx dy dz Q w hx hy hz k=>by
 unfold oR at hz
 split at hz
 ·cases hz; cases hx; cases hy
  exact ⟨_,_,rfl,rfl,k.here w (.int _)⟩
 ·cases hz
noncomputable def jh:zc
 | .int m,.int n=>if (fit m && fit n)=true then some (.int (m * n)) else none
 | _,_=>none
theorem qx:cz (rI CMulG λi j=>.int (i * j)) jh:=λPK pa m G H x y dx dy dz Q w hx hy hz k=>by
 unfold jh at hz
 split at hz
 ·split at hz
  ·rename_i hc
   rw [vU] at hc
   cases hz; cases hx; cases hy
   exact ⟨_,_,rfl,rfl,⟨of_decide_eq_true hc.1,of_decide_eq_true hc.2⟩,k.here w (.int _)⟩
  ·cases hz
 ·cases hz
end
theorem Zmj {PK:Pk} {is:y4}:∀ σ H Q,TAe PK (bV is) σ H Q->eM PK is σ H Q:=by
 intro σ H Q z
 obtain ⟨pa,zm,H₀,m,ρ,G,R,z⟩:=z
 exact ⟨pa,zm,H₀,m,ρ,G,R,Tr.ok_mono (Tr.ok_bind.mp z) λm1 xs k=>Ko1.of k R.wd.some⟩
theorem pH {PK:Pk} {X:Cx} {st:Stmt} {is:y4} {i:yZ} {n k:Nat} {ix:List Nat} {g:zb} (h:PS X st (fI (kQ (eN PK is) n ix (λ_=>gy PK g) (λ_=>TAe PK i)) (gu k))) (hn:iD n g):PS X st (bG PK (aR k (bV (cG is n ix g i)))) :=
 aU (h.imp (Zj5 λσ H Q z=>Zdu hn σ H Q (Zmj σ H Q z)))
end L2
set_option Elab.async false
set_option linter.all false
set_option maxRecDepth 100000
namespace L2
variable {ρ:zl} {s t:y8} {i j l:yZ} {is:y4} {as:List Sl->Tr zl} {f:y9} {p q:y6} {k n:Nat} {x y d:PyData} {xs ys:ze} {sl:Sl}
theorem Zep:aa 0 (.d x::ρ)=.ret x:=rfl
theorem Zeo:aa (k+1) (sl::ρ)=aa k ρ:=rfl
theorem Zhp:aC d ρ=.ret d:=rfl
noncomputable def aS (g:zc) (x y:PyData):Tr PyData:=Tr.of (g x y)
noncomputable def Ziy (g:zc) (j:yZ) (ρ:zl) (x:PyData):Tr PyData:=(j ρ).bind (aS g x)
theorem ZgU {g:zc}:ac g i j ρ=(i ρ).bind (Ziy g j ρ):=rfl
theorem ZgT {g:zc}:Ziy g j ρ x=(j ρ).bind (aS g x):=rfl
theorem Zhh (m n:Int):aS ba (.int m) (.int n)=.ret (.int (m+n)):=rfl
theorem Zhe (h1:xs.isEmpty=false) (h2:small (xs.length+ys.length)=true):aS ba (.tuple xs) (.tuple ys)=.ret (.tuple (xs++ys)):=by
 simp [aS,ba,h1,h2]
theorem md (h2:small (xs.length+ys.length)=true):aS ba (.list xs) (.list ys)=.ret (.list (xs++ys)):=by
 simp [aS,ba,h2]
theorem ZeD (m n:Int):aS bW (.int m) (.int n)=.ret (.int (m - n)):=rfl
theorem ZfF {m n:Int} (h1:fit m=true) (h2:fit n=true):aS aX (.int m) (.int n)=.ret (.int (m * n)):=by
 simp [aS,aX,h1,h2]
theorem kr {m n:Int} (h1:n≠0) (h2:fit n=true):aS fx (.int m) (.int n)=.ret (.int (m.fdiv n)):=by
 simp [aS,fx,h1,h2]
theorem o0 {m n:Int} (h1:n≠0):aS gg (.int m) (.int n)=.ret (.int (m.fmod n)):=by
 simp [aS,gg,h1]
theorem ZgH {g:Int->Int->Bool} (m n:Int):aS (cK g) (.int m) (.int n)=.ret (.bool (g m n)):=rfl
theorem Zgy (m n:Int):aS eG (.int m) (.int n)=.ret (.bool (m == n)):=rfl
theorem ZfE (m n:Int):aS dX (.int m) (.int n)=.ret (.bool (!(m == n))):=rfl
theorem Zgz (m n:Bool):aS eG (.bool m) (.bool n)=.ret (.bool (m == n)):=rfl
theorem Zgx (m n:Str):aS eG (.str m) (.str n)=.ret (.bool (m == n)):=rfl
theorem ZfD (m n:Str):aS dX (.str m) (.str n)=.ret (.bool (!(m == n))):=rfl
theorem Zn6 (h1:SeqAt.shaped x=true) (h2:SeqAt.shaped y=true) (h3:∀ a b,¬ (x=.str a/\y=.str b)):aS eG x y=.ret (.bool (PyData.eqv x y)):=by
 unfold aS eG
 split
 ·exact absurd ⟨rfl,rfl⟩ (h3 _ _)
 ·rw [h1,h2]; rfl
theorem Zmv (h1:SeqAt.shaped x=true) (h2:SeqAt.shaped y=true) (h3:∀ a b,¬ (x=.str a/\y=.str b)):aS dX x y=.ret (.bool (!PyData.eqv x y)):=by
 unfold aS dX
 split
 ·exact absurd ⟨rfl,rfl⟩ (h3 _ _)
 ·rw [h1,h2]; rfl
theorem Zn0 (h1:SeqAt.shaped (.list xs)=true) (h2:SeqAt.shaped (.list ys)=true):aS eG (.list xs) (.list ys)=.ret (.bool (PyData.eqvAll xs ys)):=by
 rw [Zn6 h1 h2 (λa b z=>by cases z.1)]
 simp only [PyData.eqv]
theorem ZnZ (h1:SeqAt.shaped (.list xs)=true) (h2:SeqAt.shaped (.list ys)=true):aS dX (.list xs) (.list ys)=.ret (.bool (!PyData.eqvAll xs ys)):=by
 rw [Zmv h1 h2 (λa b z=>by cases z.1)]
 simp only [PyData.eqv]
theorem Zf7 (m n:Bool):aS oP (.bool m) (.bool n)=.ret (.bool (!(m == n))):=rfl
theorem ma (n:Int):aS ao (.list xs) (.int n)=Tr.of (bw xs n):=rfl
theorem dI (n:Int):aS ao (.tuple xs) (.int n)=Tr.of (bw xs n):=rfl
theorem fe {α:Type} {xs:List α} {n:Int} {v:α} (h0:0<=n) (h:xs[n.toNat]?=some v):bw xs n=some v:=by
 have e:(n.toNat:Int)=n:=Int.toNat_of_nonneg h0
 rw [<- e]
 exact fP h
section
variable {α:Type} {a0 a1 a2 a3 a4 a5 a6 a7 a8:α} {r:List α}
theorem mh:bw (a0::r) 0=some a0:=fP (j:=0) rfl
theorem pF:bw (a0::a1::r) 1=some a1:=fP (j:=1) rfl
theorem pE:bw (a0::a1::a2::r) 2=some a2:=fP (j:=2) rfl
theorem pD:bw (a0::a1::a2::a3::r) 3=some a3:=fP (j:=3) rfl
theorem pC:bw (a0::a1::a2::a3::a4::r) 4=some a4:=fP (j:=4) rfl
theorem uy:bw (a0::a1::a2::a3::a4::a5::r) 5=some a5:=fP (j:=5) rfl
theorem ux:bw (a0::a1::a2::a3::a4::a5::a6::r) 6=some a6:=fP (j:=6) rfl
theorem uw:bw (a0::a1::a2::a3::a4::a5::a6::a7::r) 7=some a7:=fP (j:=7) rfl
theorem uv:bw (a0::a1::a2::a3::a4::a5::a6::a7::a8::r) 8=some a8:=fP (j:=8) rfl
end
noncomputable def ZcW:PyData->Tr PyData
 | .int n=>.ret (.int (-n))
 | _=>.fail
theorem ZfC:fB i ρ=(i ρ).bind ZcW:=by
 unfold fB
 refine congrArg (Tr.bind (i ρ)) (funext λx=>?_)
 cases x <;> rfl
theorem ZfB (n:Int):ZcW (.int n)=.ret (.int (-n)):=rfl
noncomputable def qE (x:PyData):Tr Bool:=Tr.of (iK x)
theorem ZeC:bO i ρ=(i ρ).bind qE:=rfl
theorem Zev (b:Bool):qE (.bool b)=.ret b:=rfl
noncomputable def jH (x:PyData):Tr Bool:=Tr.of (Zap x)
theorem ZeB:di i ρ=(i ρ).bind jH:=rfl
theorem ZeA (b:Bool):jH (.bool b)=.ret b:=rfl
theorem Zez (n:Int):jH (.int n)=.ret (n != 0):=rfl
theorem Zey:jH (.list xs)=.ret (!xs.isEmpty):=rfl
theorem Zew:jH (.tuple xs)=.ret (!xs.isEmpty):=rfl
theorem Zex:jH .none=.ret false:=rfl
noncomputable def uD (q:y6) (ρ:zl) (b:Bool):Tr Bool:=if b=true then q ρ else .ret false
noncomputable def sy (q:y6) (ρ:zl) (b:Bool):Tr Bool:=if b=true then .ret true else q ρ
noncomputable def ZcU (b:Bool):Tr Bool:=.ret (!b)
theorem Zg9:p6 p q ρ=(p ρ).bind (uD q ρ):=rfl
theorem Zfu:gX p q ρ=(p ρ).bind (sy q ρ):=rfl
theorem Zfz:dD p ρ=(p ρ).bind ZcU:=rfl
theorem Zg7:uD q ρ true=q ρ:=rfl
theorem Zg8:uD q ρ false=.ret false:=rfl
theorem Zfs:sy q ρ true=.ret true:=rfl
theorem Zft:sy q ρ false=q ρ:=rfl
theorem Zfy (b:Bool):ZcU b=.ret (!b):=rfl
noncomputable def uC (j:yZ) (ρ:zl) (b:Bool):Tr PyData:=if b=true then j ρ else .ret (.bool false)
noncomputable def ZcT (b:Bool):Tr PyData:=.ret (.bool (!b))
theorem Zg6:kM i j ρ=(bO i ρ).bind (uC j ρ):=rfl
theorem Zfx:uS i ρ=(bO i ρ).bind ZcT:=rfl
theorem Zg4:uC j ρ true=j ρ:=rfl
theorem Zg5:uC j ρ false=.ret (.bool false):=rfl
theorem Zfw (b:Bool):ZcT b=.ret (.bool (!b)):=rfl
noncomputable def tG (i j:yZ) (ρ:zl) (b:Bool):Tr PyData:=if b=true then i ρ else j ρ
theorem Zgm:uT p i j ρ=(p ρ).bind (tG i j ρ):=rfl
theorem Zgk:tG i j ρ true=i ρ:=rfl
theorem Zgl:tG i j ρ false=j ρ:=rfl
noncomputable def ph (g:zc) (l:yZ) (ρ:zl) (y:PyData) (k:Bool):Tr PyData:=if k=true then (l ρ).bind (aS g y) else .ret (.bool false)
noncomputable def ub (g:zc) (l:yZ) (ρ:zl) (y z:PyData):Tr PyData:=(qE z).bind (ph g l ρ y)
noncomputable def uc (f g:zc) (l:yZ) (ρ:zl) (x y:PyData):Tr PyData:=(aS f x y).bind (ub g l ρ y)
noncomputable def ch1 (f g:zc) (j l:yZ) (ρ:zl) (x:PyData):Tr PyData:=(j ρ).bind (uc f g l ρ x)
theorem ZgI {f g:zc}:pW f g i j l ρ=(i ρ).bind (ch1 f g j l ρ):=rfl
theorem ZgN {f g:zc}:ch1 f g j l ρ x=(j ρ).bind (uc f g l ρ x):=rfl
theorem ZgM {f g:zc}:uc f g l ρ x y=(aS f x y).bind (ub g l ρ y):=rfl
theorem ZgL {g:zc} (b:Bool):ub g l ρ y (.bool b)=ph g l ρ y b:=rfl
theorem ZgJ {g:zc}:ph g l ρ y true=(l ρ).bind (aS g y):=rfl
theorem ZgK {g:zc}:ph g l ρ y false=.ret (.bool false):=rfl
noncomputable def t9 (x:PyData) (xs:ze):Tr ze:=.ret (x::xs)
noncomputable def Zh0 (is:y4) (ρ:zl) (x:PyData):Tr ze:=(is ρ).bind (t9 x)
theorem ZfA:ay ρ=.ret []:=rfl
theorem ZgG:ag i is ρ=(i ρ).bind (Zh0 is ρ):=rfl
theorem ZgF:Zh0 is ρ x=(is ρ).bind (t9 x):=rfl
theorem ZgE:t9 x xs=.ret (x::xs):=rfl
noncomputable def qD (xs:ze):Tr PyData:=if small xs.length=true then .ret (.tuple xs) else .fail
theorem Zeu:cD is ρ=(is ρ).bind qD:=rfl
theorem Zet (h:small xs.length=true):qD xs=.ret (.tuple xs):=by unfold qD; rw [if_pos h]
noncomputable def Zdg (xs:ze):Tr PyData:=.ret (.list xs)
theorem ZfL:bV is ρ=(is ρ).bind Zdg:=rfl
theorem ZfK:Zdg xs=.ret (.list xs):=rfl
noncomputable def ip (xs:ze):Tr ze:=if small xs.length=true then .ret xs else .fail
theorem ZfN:dN is ρ=(is ρ).bind ip:=rfl
theorem ZfM (h:small xs.length=true):ip xs=.ret xs:=by unfold ip; rw [if_pos h]
theorem b7 {n:Nat} (h:n<=10000):small n=true:=decide_eq_true (vS h (by decide))
noncomputable def bZ (g:List PyData->Option PyData) (xs:ze):Tr PyData:=Tr.of (g xs)
noncomputable def pi (g:List PyData->Option ze) (xs:ze):Tr ze:=Tr.of (g xs)
theorem ZgR {g:List PyData->Option PyData}:bo g is ρ=(is ρ).bind (bZ g):=rfl
theorem ZgO {g:List PyData->Option ze}:pX g is ρ=(is ρ).bind (pi g):=rfl
theorem ZfR:bZ c9 [.list xs]=.ret (.int xs.length):=rfl
theorem ZfP:bZ c9 [.tuple xs]=.ret (.int xs.length):=rfl
theorem Zhi (n:Int):bZ kI [.int n]=.ret (.int (pP n)):=rfl
theorem ZfH (m n:Int):bZ iY [.int m,.int n]=.ret (.int (bR m n)):=rfl
theorem Zga (n:Int):bZ jf [.int n]=.ret (.int n):=rfl
theorem Zgb (b:Bool):bZ jf [.bool b]=.ret (.int (if b then 1 else 0)):=rfl
theorem Zes:bZ eP [.list xs]=.ret (.tuple xs):=rfl
theorem Zeq:bZ eP [.tuple xs]=.ret (.tuple xs):=rfl
theorem ZfJ:pi ka [.list xs]=.ret xs:=rfl
theorem ZfI:pi ka [.tuple xs]=.ret xs:=rfl
theorem tQ (ns:zf):bZ cH [.list (ns.map .int)]=.ret (.int ns.sum):=by
 unfold bZ cH gb
 simp
theorem oZ (ns:zf):bZ cH [.tuple (ns.map .int)]=.ret (.int ns.sum):=by
 unfold bZ cH gb
 simp
theorem ZfG (ns:zf) (h:ns.isEmpty=false):bZ iZ [.list (ns.map .int)]=.ret (.int (eY ns)):=by
 have h':ns≠[]:=λz=>by subst z; cases h
 unfold bZ iZ gb
 simp [h']
theorem Zha (ns:List Bool):bZ ml [.list (ns.map .bool)]=.ret (.bool (ns.all id)):=by
 unfold bZ ml gb
 simp
noncomputable def ZdO (T:String) (x:PyData):Tr PyData:=.ret (.bool (ki T (hW x)))
theorem Zf9 {T:String}:iC T i ρ=(i ρ).bind (ZdO T):=rfl
theorem Zf8 {T:String}:ZdO T x=.ret (.bool (ki T (hW x))):=rfl
noncomputable def jJ (x:PyData) (lo:Option Int) (hi:Option Int):Tr PyData:=Tr.of (ZaO x lo hi)
noncomputable def fr (q:fS) (ρ:zl) (x:PyData) (lo:Option Int):Tr PyData:=(q ρ).bind (jJ x lo)
noncomputable def sl1 (p q:fS) (ρ:zl) (x:PyData):Tr PyData:=(p ρ).bind (fr q ρ x)
theorem ZeH {p q:fS}:pR i p q ρ=(i ρ).bind (sl1 p q ρ):=rfl
theorem ZeG {p q:fS}:sl1 p q ρ x=(p ρ).bind (fr q ρ x):=rfl
theorem ZeF {q:fS} {lo:Option Int}:fr q ρ x lo=(q ρ).bind (jJ x lo):=rfl
theorem tR {lo hi:Option Int}:jJ (.list xs) lo hi=.ret (.list (gw xs lo hi)):=rfl
theorem ZeE {lo hi:Option Int}:jJ (.tuple xs) lo hi=.ret (.tuple (gw xs lo hi)):=rfl
theorem Zfp:pT ρ=.ret none:=rfl
noncomputable def pa1:PyData->Tr (Option Int)
 | .int n=>.ret (some n)
 | _=>.fail
theorem Zfo:mz i ρ=(i ρ).bind pa1:=by
 unfold mz
 refine congrArg (Tr.bind (i ρ)) (funext λx=>?_)
 cases x <;> rfl
theorem Zfn (n:Int):pa1 (.int n)=.ret (some n):=rfl
noncomputable def qC (xs:ze):Tr PyData:=(Tr.of (lh xs)).bind λys=>.ret (.tuple ys)
theorem Zer:uN is ρ=(is ρ).bind qC:=rfl
theorem tP {lo hi:Int} (h:li lo hi=true):qC [.int lo,.int hi]=.ret (.tuple (aN lo hi)):=by
 simp [qC,lh,h]
theorem Zhl:au ρ=.ret []:=rfl
noncomputable def mw (x:Sl) (xs:zl):Tr zl:=.ret (x::xs)
noncomputable def pQ (as:List Sl->Tr zl) (ρ:zl) (x:PyData):Tr zl:=(as ρ).bind (mw (.d x))
theorem Zhm:ad i as ρ=(i ρ).bind (pQ as ρ):=rfl
theorem Zho:pQ as ρ x=(as ρ).bind (mw (.d x)):=rfl
theorem Zhn {xs:zl}:mw sl xs=.ret (sl::xs):=rfl
noncomputable def jV:Nat->List Sl->Tr Unit
 | 0,.pen::_=>.ret ()
 | k+1,_::ρ=>jV k ρ
 | _,_=>.fail
theorem Zfk:jV 0 (.pen::ρ)=.ret ():=rfl
theorem Zfj:jV (k+1) (sl::ρ)=jV k ρ:=rfl
noncomputable def aap (as:List Sl->Tr zl) (ρ:zl) (_:Unit):Tr zl:=(as ρ).bind (mw .pen)
theorem Zhk:cP k as ρ=(jV k ρ).bind (aap as ρ):=by
 have key:∀ (k:Nat) (σ:zl) (as:List Sl->Tr zl) (ρ:zl),(match σ[k]? with | some Sl.pen=>(as ρ).bind λxs=>Tr.ret (Sl.pen::xs) | _=>Tr.fail)=(jV k σ).bind (aap as ρ):=by
  intro k
  induction k with
  | zero =>
   intro σ as ρ
   cases σ with
   | nil=>rfl
   | cons s r=>cases s <;> rfl
  | succ k ih =>
   intro σ as ρ
   cases σ with
   | nil=>rfl
   | cons s r=>exact ih r as ρ
 exact key k ρ as ρ
theorem Zhj (u:Unit):aap as ρ u=(as ρ).bind (mw .pen):=rfl
theorem ZgS:aw f as ρ=(as ρ).bind f:=rfl
noncomputable def re1 (r:Re):Tr PyData:=.ret r.val
theorem Zfi:aB f ρ=(f ρ).bind re1:=rfl
theorem Zfh (r:Re):re1 r=.ret r.val:=rfl
theorem ZgD {as:zl} (h:as.length=n):bg n k s as=(s (as++List.replicate k .un)).bind oX:=by
 unfold bg
 rw [if_pos (decide_eq_true h)]
theorem Zgw:oX (.next ρ)=.ret (.d .none):=rfl
theorem Zgv (r:Re):oX (.ret r)=.ret r:=rfl
noncomputable def kZ (t:y8):Ou->Tr Ou
 | .next ρ=>t ρ
 | o=>.ret o
theorem ZeU:aj s t ρ=(s ρ).bind (kZ t):=by
 unfold aj
 refine congrArg (Tr.bind (s ρ)) (funext λo=>?_)
 cases o <;> rfl
theorem ZeR:kZ t (.next ρ)=t ρ:=rfl
theorem ZeQ (r:Re):kZ t (.ret r)=.ret (.ret r):=rfl
theorem ZeT:kZ t (.brk ρ)=.ret (.brk ρ):=rfl
theorem ZeS:kZ t (.cont ρ)=.ret (.cont ρ):=rfl
theorem ZeI:ck ρ=.ret (.next ρ):=rfl
noncomputable def tD (s t:y8) (ρ:zl) (b:Bool):Tr Ou:=if b=true then s ρ else t ρ
theorem Zgf:cm p s t ρ=(p ρ).bind (tD s t ρ):=rfl
theorem Zgd:tD s t ρ true=s ρ:=rfl
theorem Zge:tD s t ρ false=t ρ:=rfl
noncomputable def ZbW (x:PyData):Tr Ou:=.ret (.ret (.d x))
theorem Zff:bj i ρ=(i ρ).bind ZbW:=rfl
theorem Zfe:ZbW x=.ret (.ret (.d x)):=rfl
noncomputable def ZbV (xs:ze):Tr Ou:=.ret (.ret (.own xs))
theorem Zfd:pS is ρ=(is ρ).bind ZbV:=rfl
theorem Zfc:ZbV xs=.ret (.ret (.own xs)):=rfl
noncomputable def ZbU (r:Re):Tr Ou:=.ret (.ret r)
theorem Zfb:iA f ρ=(f ρ).bind ZbU:=rfl
theorem Zfa (r:Re):ZbU r=.ret (.ret r):=rfl
theorem Ze9:fR 0 (.d x::ρ)=.ret (.ret (.d x)):=rfl
theorem Ze8:fR 0 (.own xs::ρ)=.ret (.ret (.own xs)):=rfl
theorem Ze7:fR (k+1) (sl::ρ)=fR k ρ:=rfl
noncomputable def m9 (k:Nat) (ρ:zl) (x:PyData):Tr Ou:=.ret (.next (ρ.set k (.d x)))
theorem ZeP:aR k i ρ=(i ρ).bind (m9 k ρ):=rfl
theorem ZeO:m9 k ρ x=.ret (.next (ρ.set k (.d x))):=rfl
noncomputable def Za7 (k:Nat) (ρ:zl) (x:ze):Tr Ou:=.ret (.next (ρ.set k (.own x)))
theorem ZeN:jq k is ρ=(is ρ).bind (Za7 k ρ):=rfl
theorem ZeM:Za7 k ρ xs=.ret (.next (ρ.set k (.own xs))):=rfl
theorem Zdi {α:Type} {a b:α} {r:List α}:(a::r).set 0 b=b::r:=rfl
theorem Zdh {α:Type} {a b:α} {r:List α}:(a::r).set (k+1) b=a::r.set k b:=rfl
noncomputable def uu (g:zc) (k:Nat) (ρ:zl) (x y:PyData):Tr Ou:=(aS g x y).bind (m9 k ρ)
noncomputable def ZiD (g:zc) (k:Nat) (i:yZ) (ρ:zl) (x:PyData):Tr Ou:=(i ρ).bind (uu g k ρ x)
theorem ZgY {g:zc}:ju g k i ρ=(aa k ρ).bind (ZiD g k i ρ):=rfl
theorem ZgX {g:zc}:ZiD g k i ρ x=(i ρ).bind (uu g k ρ x):=rfl
theorem ZgW {g:zc}:uu g k ρ x y=(aS g x y).bind (m9 k ρ):=rfl
theorem Zgn (m n:Int):aS oR (.int m) (.int n)=.ret (.int (m+n)):=rfl
theorem Zgc {m n:Int} (h1:fit m=true) (h2:fit n=true):aS jh (.int m) (.int n)=.ret (.int (m * n)):=by
 simp [aS,jh,h1,h2]
noncomputable def gJ:Nat->List Sl->Tr ze
 | 0,.own xs::_=>.ret xs
 | k+1,_::ρ=>gJ k ρ
 | _,_=>.fail
theorem Zfr:gJ 0 (.own xs::ρ)=.ret xs:=rfl
theorem Zfq:gJ (k+1) (sl::ρ)=gJ k ρ:=rfl
theorem nO {β:Type} {g:List PyData->Tr β}:∀ (k:Nat) (σ:zl),(match σ[k]? with | some (Sl.own xs)=>g xs | _=>Tr.fail)=(gJ k σ).bind g
 | 0,[]=>rfl
 | 0,s::r=>by cases s <;> rfl
 | k+1,[]=>rfl
 | k+1,s::r=>nO k r
noncomputable def pM (k:Nat) (ρ:zl) (xs:ze) (x:PyData):Tr Ou:=if small (xs.length+1)=true then .ret (.next (ρ.set k (.own (xs++[x])))) else .fail
noncomputable def ZiO (k:Nat) (i:yZ) (ρ:zl) (xs:ze):Tr Ou:=(i ρ).bind (pM k ρ xs)
theorem Zg3:jv k i ρ=(gJ k ρ).bind (ZiO k i ρ):=nO k ρ
theorem Zg2:ZiO k i ρ xs=(i ρ).bind (pM k ρ xs):=rfl
theorem Zg1 (h:small (xs.length+1)=true):pM k ρ xs x=.ret (.next (ρ.set k (.own (xs++[x])))):=by unfold pM; rw [if_pos h]
noncomputable def ZbT (k:Nat) (ρ:zl) (xs:ze):Tr Ou:=.ret (.next (ρ.set k (.own xs.reverse)))
theorem Ze6:my k ρ=(gJ k ρ).bind (ZbT k ρ):=nO k ρ
theorem Ze5:ZbT k ρ xs=.ret (.next (ρ.set k (.own xs.reverse))):=rfl
theorem Zgo:kL k s ρ=s (fz k ρ):=rfl
theorem Zd9:fz 0 (.own xs::ρ)=.d (.list xs)::ρ:=rfl
theorem Zea:fz 0 (.d x::ρ)=.d x::ρ:=rfl
theorem Zd8:fz 0 (.pen::ρ)=.pen::ρ:=rfl
theorem Zd7:fz 0 (.un::ρ)=.un::ρ:=rfl
theorem Zeb:fz (k+1) (sl::ρ)=sl::fz k ρ:=by
 unfold fz
 rw [xT]
 cases h:ρ[k]? with
 | none=>rfl
 | some s=>cases s <;> rfl
noncomputable def sF (ρ:zl):Tr Ou:=.ret (.next ρ)
noncomputable def ZiG (g:zb) (ρ:zl) (x:PyData):Tr Ou:=(Tr.of (g x ρ)).bind sF
theorem Zg0 {g:zb}:fg g i ρ=(i ρ).bind (ZiG g ρ):=rfl
theorem ZgZ {g:zb}:ZiG g ρ x=(Tr.of (g x ρ)).bind sF:=rfl
theorem Zfv:sF ρ=.ret (.next ρ):=rfl
theorem Zd2:af k x ρ=some (ρ.set k (.d x)):=rfl
theorem ZdZ {gs:za}:bd gs (.tuple xs) ρ=gs xs ρ:=rfl
theorem Zd3:bc [] ρ=some ρ:=rfl
theorem Zd4 {g:zb} {gs:za}:am g gs (x::xs) ρ=(g x ρ).bind (gs xs):=rfl
theorem Zd0 {α β:Type} {a:α} {g:α->Option β}:(some a).bind g=g a:=rfl
noncomputable def ZcG (k n:Nat) (ρ:zl):List PyData->Tr Ou
 | [x,y]=>.ret (.next ((ρ.set k (.d x)).set n (.d y)))
 | _=>.fail
theorem Zfm:jr k n is ρ=(is ρ).bind (ZcG k n ρ):=by
 unfold jr
 refine congrArg (Tr.bind (is ρ)) (funext λxs=>?_)
 match xs with
 | []=>rfl
 | [_]=>rfl
 | [_,_]=>rfl
 | _::_::_::_=>rfl
theorem Zfl:ZcG k n ρ [x,y]=.ret (.next ((ρ.set k (.d x)).set n (.d y))):=rfl
noncomputable def cJ (x:PyData):Tr ze:=Tr.of (fN x)
theorem Zf6:cZ i ρ=(i ρ).bind cJ:=rfl
theorem Zf5:cJ (.list xs)=.ret xs:=rfl
theorem Zf4:cJ (.tuple xs)=.ret xs:=rfl
noncomputable def dQ (xs:ze):Tr ze:=Tr.of (jR xs)
noncomputable def jS (xs:ze):Tr ze:=Tr.of (jQ xs)
theorem Ze0:gx is ρ=(is ρ).bind dQ:=rfl
theorem ZeZ:uO is ρ=(is ρ).bind jS:=rfl
theorem eD {n:Int} (h1:-1000000000000<=n) (h2:n<=1000000000000):fO n=true:=decide_eq_true (by omega)
theorem gP {n:Int} (h:fO n=true):dQ [.int n]=.ret (aN 0 n):=by
 simp [dQ,jR,h]
theorem Ze1 {m n:Int} (h1:fO m=true) (h2:fO n=true):jS [.int m,.int n]=.ret (aN m n):=by
 simp [jS,jQ,h1,h2]
noncomputable def ql (xs:ze) (ys:ze):Tr ze:=.ret (bP xs ys)
noncomputable def qm (y:PyData) (xs:ze):Tr ze:=(cJ y).bind (ql xs)
noncomputable def qo (x y:PyData):Tr ze:=(cJ x).bind (qm y)
noncomputable def Zab (j:yZ) (ρ:zl) (x:PyData):Tr ze:=(j ρ).bind (qo x)
theorem Zen:jp i j ρ=(i ρ).bind (Zab j ρ):=rfl
theorem Zem:Zab j ρ x=(j ρ).bind (qo x):=rfl
theorem Zel:qo x y=(cJ x).bind (qm y):=rfl
theorem Zek:qm y xs=(cJ y).bind (ql xs):=rfl
theorem Zej:ql xs ys=.ret (bP xs ys):=rfl
noncomputable def tV (xs:ze):Tr ze:=.ret (dJ xs)
noncomputable def Zhu (x:PyData):Tr ze:=(cJ x).bind tV
theorem ZgA:js i ρ=(i ρ).bind Zhu:=rfl
theorem ZgC:Zhu x=(cJ x).bind tV:=rfl
theorem ZgB:tV xs=.ret (dJ xs):=rfl
noncomputable def Zef (g:zb) (s:y8) (ρ:zl) (xs:ze):Tr Ou:=bX g s xs ρ
theorem Zgt {g:zb}:cW is g s ρ=(is ρ).bind (Zef g s ρ):=rfl
theorem Zgs {g:zb}:Zef g s ρ xs=bX g s xs ρ:=rfl
noncomputable def km (g:zb) (s:y8) (xs:ze):Ou->Tr Ou
 | .next ρ=>bX g s xs ρ
 | .cont ρ=>bX g s xs ρ
 | .brk ρ=>.ret (.next ρ)
 | .ret r=>.ret (.ret r)
noncomputable def l8 (g:zb) (s:y8) (xs:ze) (ρ:zl):Tr Ou:=(s ρ).bind (km g s xs)
theorem tL {g:zb}:bX g s [] ρ=.ret (.next ρ):=rfl
theorem fb {g:zb}:bX g s (x::xs) ρ=(Tr.of (g x ρ)).bind (l8 g s xs):=by
 rw [bX]
 refine congrArg (Tr.bind (Tr.of (g x ρ))) (funext λρ1=>?_)
 unfold l8
 refine congrArg (Tr.bind (s ρ1)) (funext λo=>?_)
 cases o <;> rfl
theorem fy {g:zb}:l8 g s xs ρ=(s ρ).bind (km g s xs):=rfl
theorem eE {g:zb}:km g s xs (.next ρ)=bX g s xs ρ:=rfl
theorem Zgq {g:zb}:km g s xs (.cont ρ)=bX g s xs ρ:=rfl
theorem Zgr {g:zb}:km g s xs (.brk ρ)=.ret (.next ρ):=rfl
theorem Zgp {g:zb} (r:Re):km g s xs (.ret r)=.ret (.ret r):=rfl
noncomputable def bL (g:zb) (el:yZ) (τ:zl) (x:PyData):Tr PyData:=(Tr.of (g x τ)).bind el
noncomputable def sT (n:Nat) (ix:List Nat) (g:zb) (el:yZ) (ρ:zl) (xs:ze):Tr ze:=if small xs.length=true then br (bL g el (blk n ix ρ)) xs else .fail
theorem ZfZ {ix:List Nat} {g:zb}:cG is n ix g i ρ=(is ρ).bind (sT n ix g i ρ):=rfl
theorem ZfY {ix:List Nat} {g:zb} (h:small xs.length=true):sT n ix g i ρ xs=br (bL g i (blk n ix ρ)) xs:=by unfold sT; rw [if_pos h]
theorem ZfX {τ:zl} {g:zb}:bL g i τ x=(Tr.of (g x τ)).bind i:=rfl
theorem Zdb {h:PyData->Tr PyData} {n:Nat} {P:PyData->Prop}:∀ {xs:ze},(∀ x∈xs,(h x).all n P)->(br h xs).all (xs.length * n) λys=>ys.length=xs.length/\∀ y∈ys,P y
 | [],_=>⟨rfl,λy hy=>by cases hy⟩
 | x::xs,hx=>by
  have e:(x::xs).length * n=n+(xs.length * n+0):=by rw [vp,x6]; omega
  rw [e,br]
  refine Tr.all_bind (hx x (by simp)) λy hy=>Tr.all_bind (Zdb λz hz=>hx z (ve _ hz)) λys hys=>?_
  exact ⟨by simp [hys.1],λz hz=>by
   rcases vJ.mp hz with rfl | hz
   ·exact hy
   ·exact hys.2 z hz⟩
theorem Zow {α:Type} {w:Int} {k:Int->Tr α} {n:Nat} {P:α->Prop} (h1:0 < w) (h2:w < 1073741824) (h:∀ r,0<=r->r < w->(k r).all n P):(Tr.draw w k).all (n+1) P:=⟨h1,h2,h⟩
noncomputable def sM (y:PyData) (ys:ze):Tr ze:=.ret (y::ys)
noncomputable def mt1 (h:PyData->Tr PyData) (xs:ze) (y:PyData):Tr ze:=(br h xs).bind (sM y)
theorem Zc6 {h:PyData->Tr PyData}:br h []=.ret []:=rfl
theorem Zc7 {h:PyData->Tr PyData} {x:PyData} {xs:ze}:br h (x::xs)=(h x).bind (mt1 h xs):=rfl
theorem Zc9 {h:PyData->Tr PyData} {y:PyData} {xs:ze}:mt1 h xs y=(br h xs).bind (sM y):=rfl
theorem Zc8 {y:PyData} {ys:ze}:sM y ys=.ret (y::ys):=rfl
theorem pick {α:Type} {xs:List α} {r:Int} (h0:0<=r) (h1:r < xs.length):∃ v,bw xs r=some v/\v∈xs:=by
 have h:r.toNat < xs.length:=by omega
 exact ⟨xs[r.toNat],fe h0 (by simp [h]),ww h⟩
theorem Zm1 {α:Type} {xs:List α} (h:xs.length=7):∃ a b c d e f g,xs=[a,b,c,d,e,f,g]:=by
 rcases xs with _ | ⟨a,_ | ⟨b,_ | ⟨c,_ | ⟨d,_ | ⟨e,_ | ⟨f,_ | ⟨g,_ | ⟨k,xs⟩⟩⟩⟩⟩⟩⟩⟩
 ·cases h
 ·cases h
 ·cases h
 ·cases h
 ·cases h
 ·cases h
 ·cases h
 ·exact ⟨a,b,c,d,e,f,g,rfl⟩
 ·exact absurd h (by simp)
theorem Zm2 {α:Type} {xs:List α} (h:xs.length=3):∃ a b c,xs=[a,b,c]:=by
 match xs,h with
 | [a,b,c],_=>exact ⟨a,b,c,rfl⟩
end L2
namespace L2
@[irreducible] noncomputable def Al {α:Type} (t:Tr α) (n:Nat) (P:α->Prop):Prop:=t.all n P
section
variable {α β:Type} {t:Tr α} {n n' N:Nat} {P:α->Prop} {P':β->Prop}
theorem Al.of (h:t.all n P):Al t n P:=by unfold Al; exact h
theorem Al.out (h:Al t n P):t.all n P:=by unfold Al at h; exact h
theorem cN {a:α} (h:P a):Al (.ret a) n P:=.of h
theorem dC {w:Int} {k:Int->Tr α} (h1:0 < w) (h2:w < 1073741824) (hN:n+1<=N) (h:∀ r,0<=r->r < w->Al (k r) n P):Al (.draw w k) N P:=.of (Tr.all_mono (Zow h1 h2 λr a b=>(h r a b).out) hN λ_ h=>h)
theorem eK {f:α->Tr β} (h:Al t n P) (hN:n+n'<=N) (hf:∀ a,P a->Al (f a) n' P'):Al (t.bind f) N P':=.of (Tr.all_mono (Tr.all_bind h.out λa ha=>(hf a ha).out) hN λ_ h=>h)
theorem ZiS {Q:α->Prop} (h:Al t n P) (hN:n<=N) (hq:∀ a,P a->Q a):Al t N Q:=.of (Tr.all_mono h.out hN hq)
theorem ZqB {h:PyData->Tr PyData} {P:PyData->Prop} {xs:ze} {Q:List PyData->Prop} (hN:xs.length * n<=N) (hx:∀ x∈xs,Al (h x) n P) (hq:∀ ys,ys.length=xs.length->(∀ y∈ys,P y)->Q ys):Al (br h xs) N Q :=
 .of (Tr.all_mono (Zdb λx m=>(hx x m).out) hN λys ⟨a,b⟩=>hq ys a b)
end
def kj (lo hi:Int) (x:PyData):Prop:=∃ z:Int,x=.int z/\lo<=z/\z<=hi
theorem ZdR {lo hi:Int}:∀ {xs:ze},(∀ x∈xs,kj lo hi x)->∃ ns:zf,xs=ns.map PyData.int/\∀ n∈ns,lo<=n/\n<=hi
 | [],_=>⟨[],rfl,λn hn=>by cases hn⟩
 | x::xs,h=>by
  obtain ⟨ns,e,hn⟩:=ZdR (xs:=xs) λy hy=>h y (ve _ hy)
  obtain ⟨z,rfl,h1,h2⟩:=h x (by simp)
  exact ⟨z::ns,by rw [e]; rfl,λn hn'=>by
   rcases vJ.mp hn' with rfl | hn'
   ·exact ⟨h1,h2⟩
   ·exact hn n hn'⟩
theorem cA {lo hi:Int}:(aN lo hi).length=(hi - lo).toNat:=by unfold aN; rw [vd,fY]
theorem sk {xs:ze} {lo hi r:Int} (h:∀ x∈xs,kj lo hi x) (h0:0<=r) (h1:r < xs.length):∃ z:Int,bw xs r=some (.int z)/\lo<=z/\z<=hi:=by
 obtain ⟨v,e,m⟩:=pick h0 h1
 obtain ⟨z,rfl,a,b⟩:=h v m
 exact ⟨z,e,a,b⟩
end L2
set_option Elab.async false
set_option linter.all false
set_option maxRecDepth 100000
namespace L2
variable {PK:Pk} {X:Cx} {a b c e:Expr} {es:List Expr} {pos:Pos} {i j l:yZ} {is:y4} {p q:y6} {st:Stmt}
noncomputable def tN:PyData->Bool
 | .none=>true
 | .bool _=>true
 | .int _=>true
 | .str _=>true
 | _=>false
end L2
set_option Elab.async false
set_option linter.all false
set_option maxRecDepth 100000
namespace L2
variable {PK:Pk} {X:Cx} {a b c e:Expr} {es:List Expr} {pos:Pos} {i j l:yZ} {as:List Sl->Tr zl}
structure PkLow (PK:Pk):Prop where
 low:∀ {o o':HO} {G G':Hp} {m m':Nat},PK.is o G m->Sub G G'->PK.is o' G' m'->PK.is o' G m'
inductive ArB (pa:Addr) (G H:Hp):V->Sl->Prop
 | ok {v:V} {s:Sl}:ArOk pa G v s->ArB pa G H v s
 | own {p:Addr} {vs:zi} {xs:ze}:H p=some (.lst vs)->G p=none->pa≠p->DnAll G vs xs->ArB pa G H (.ref p) (.d (.list xs))
inductive ArsB (pa:Addr) (G H:Hp):List V->List Sl->Prop
 | nil:ArsB pa G H [] []
 | cons {v:V} {vs:zi} {s:Sl} {ss:zl}:ArB pa G H v s->ArsB pa G H vs ss->ArsB pa G H (v::vs) (s::ss)
theorem ArB.step {pa:Addr} {G H G' H':Hp} {v:V} {s:Sl} (h:ArB pa G H v s) (st:Stp pa G H G' H'):ArB pa G' H' v s:=by
 cases h with
 | ok h=>exact .ok (h.mono st.gs)
 | @own p vs xs h1 h2 h3 h4 =>
  refine .own (st.hk _ _ h1 (Ne.symm h3)) ?_ h3 (DnAll.mono st.gs h4)
  cases e:G' p with
  | none=>rfl
  | some u =>
   rcases st.gn p u e with z | z
   ·rw [h2] at z; cases z
   ·rw [h1] at z; cases z
theorem ArsB.ok {pa:Addr} {m:Nat} {G H:Hp}:∀ {vs:zi} {ss:zl} {G1:Hp},Sub G G1->Wd PK pa m G1 H->ArsB pa G H vs ss->∃ G2,Sub G1 G2/\Wd PK pa m G2 H/\ArsOk pa G2 vs ss
 | _,_,G1,_,w,.nil=>⟨G1,λ_ _ h=>h,w,.nil⟩
 | _,_,G1,sb,w,.cons h t=>by
  obtain ⟨G2,s2,w2,t2⟩:=ArsB.ok sb w t
  cases h with
  | ok h=>exact ⟨G2,s2,w2,.cons (h.mono (sb.trans s2)) t2⟩
  | @own p vs xs h1 h2 h3 h4 =>
   cases e:G2 p with
   | none =>
    have s3:Sub G2 (upd G2 p (.lst vs)):=Sub.new e
    exact ⟨upd G2 p (.lst vs),s2.trans s3,w2.freeze h1 e h3,.cons (.d (.lst ce (DnAll.mono ((sb.trans s2).trans s3) h4))) (ArsOk.mono s3 t2)⟩
   | some u =>
    have:=w2.sub p u e
    rw [h1] at this
    cases this
    exact ⟨G2,s2,w2,.cons (.d (.lst e (DnAll.mono (sb.trans s2) h4))) t2⟩
def TAb (PK:Pk) (i:List Sl->Tr zl):TA:=λσ H Q=>∃ pa zm H₀ m ρ G,Rl PK pa zm H₀ m σ ρ G H/\(i ρ).ok m λm' as=>∀ vs G' H',Stp pa G H G' H'->Wd PK pa m' G' H'->ArsB pa G' H' vs as->Q vs H'
theorem TAb.then {σ:St} {H:Hp} {β:Type} {k:List Sl->Tr β} {Z:Nat->β->Prop} {Q:List V->Hp->Prop} {pa:Addr} {zm H₀ G:Hp} {m:Nat} {ρ:zl} (R:Rl PK pa zm H₀ m σ ρ G H) (h:((as ρ).bind k).ok m Z)
  (hq:∀ m1 xs vs G1 H1,Stp pa G H G1 H1->Wd PK pa m1 G1 H1->Rl PK pa zm H₀ m1 σ ρ G1 H1->ArsB pa G1 H1 vs xs->(k xs).ok m1 Z->Q vs H1):TAb PK as σ H Q:=by
 refine ⟨pa,zm,H₀,m,ρ,G,R,Tr.ok_mono (Tr.ok_bind.mp h) λm1 x hx v G1 H1 s1 w1 d1=>?_⟩
 exact hq m1 x v G1 H1 s1 w1 (R.step s1 w1) d1 hx
theorem uL:PA X [] (TAb PK au):=cC.imp λσ H Q hz0=>by
 obtain ⟨pa,zm,H₀,m,ρ,G,R,z⟩:=hz0
 exact z [] G H .refl R.wd .nil
noncomputable def kJ (k:Nat) (as:List Sl->Tr zl):List Sl->Tr zl:=λρ=>match ρ[k]? with
 | some (.own xs)=>(as ρ).bind λys=>.ret (.d (.list xs)::ys)
 | some (.d x)=>(as ρ).bind λys=>.ret (.d x::ys)
 | _=>.fail
theorem uM {k:Nat} (ha:PE X e (fj k)) (hr:PA X es (TAb PK as)) (hs:starEach (e::es) X.env=(false,eval e X.env)::starEach es X.env:=by rfl):PA X (e::es) (TAb PK (kJ k as)):=(bH ha hr hs).imp λσ H Q hz0=>by
 obtain ⟨pa,zm,H₀,m,ρ,G,R,z⟩:=hz0
 unfold kJ at z
 split at z
 ·rename_i xs hk
  obtain ⟨o,h1,h2⟩:=R.sl k _ hk
  cases h2 with
  | @own p vs _ a1 a2 a3 a4 =>
   have hne:pa≠p:=λe=>by
    obtain ⟨u,hu⟩:=R.p0
    rw [e,a3] at hu; cases hu
   refine ⟨_,h1,?_⟩
   refine TAb.then R z λm2 ys ws G2 H2 s2 w2 R2 d2 q2=>?_
   exact q2 _ _ _ s2 w2 (.cons ((ArB.own a1 a2 hne a4).step s2) d2)
 ·rename_i x hk
  obtain ⟨o,h1,h2⟩:=R.sl k _ hk
  cases h2 with
  | d d1 =>
   refine ⟨_,h1,?_⟩
   refine TAb.then R z λm2 ys ws G2 H2 s2 w2 R2 d2 q2=>?_
   exact q2 _ _ _ s2 w2 (.cons (.ok (.d (d1.mono s2.gs))) d2)
 ·exact z.elim
theorem Dn.flat_any {G G':Hp} {v:V} {x:PyData} (h:Dn G v x) (f:tN x=true):Dn G' v x:=by
 cases h with
 | non=>exact .non
 | bl b=>exact .bl b
 | int i=>exact .int i
 | str s=>exact .str s
 | _=>cases f
variable {ρ:zl} {k:Nat} {xs:ze} {x:PyData} {sl:Sl} {f:y9}
noncomputable def jb:Nat->List Sl->Tr PyData
 | 0,.own xs::_=>.ret (.list xs)
 | 0,.d x::_=>.ret x
 | k+1,_::ρ=>jb k ρ
 | _,_=>.fail
theorem ZfS:jb 0 (.own xs::ρ)=.ret (.list xs):=rfl
theorem ZfT:jb 0 (.d x::ρ)=.ret x:=rfl
theorem ZfQ:jb (k+1) (sl::ρ)=jb k ρ:=rfl
theorem ZfO:kJ k as ρ=(jb k ρ).bind (pQ as ρ):=by
 have key:∀ (k:Nat) (σ:zl) (as:List Sl->Tr zl) (ρ:zl),(match σ[k]? with | some (.own xs)=>(as ρ).bind λys=>Tr.ret (Sl.d (.list xs)::ys) | some (.d x)=>(as ρ).bind λys=>Tr.ret (Sl.d x::ys) | _=>Tr.fail)=(jb k σ).bind (pQ as ρ):=by
  intro k
  induction k with
  | zero =>
   intro σ as ρ
   cases σ with
   | nil=>rfl
   | cons s r=>cases s <;> rfl
  | succ k ih =>
   intro σ as ρ
   cases σ with
   | nil=>rfl
   | cons s r=>exact ih r as ρ
 exact key k ρ as ρ
end L2
set_option Elab.async false
set_option linter.all false
set_option maxRecDepth 100000
namespace L2
theorem Zpx {prog:Program} {w:World} {A:Around} {R:Result->Shared->Prop} {s:Shared} {elt target iter cnd:Expr} {scope:Scope} {pos:Pos} {it acc:Value} {env:Env} (J:Nat->Shared->Prop)
  (step:∀ k s0,J k s0->wpAny (model prog w) A (pyNext it) (λgot s1=>match got with
   | none=>R (.ok .next) s1
   | some v=>wpAny (model prog w) A (letOwnedTupleGo target it v) (λ_ s2=>wpAny (model prog w) A (assign target env v) (λ_ s3=>wpAny (model prog w) A (isTrue cnd env (eval cnd env)) (λok s3'=>if ok=true then wpAny (model prog w) A (eval elt env) (λy s4 =>
     wpAny (model prog w) A (call (.builtin "list.append") [acc,y]) (λ_ s5=>∃ j,j < k/\J j s5) (λ_ _=>False) s4) (λ_ _=>False) s3' else ∃ j,j < k/\J j s3') (λ_ _=>False) s3) (λ_ _=>False) s2) (λ_ _=>False) s1) (λ_ _=>False) s0)
  (k:Nat) (h:J k s):codeAny (model prog w) A (.compLoop (.ListComp elt [⟨target,iter,[cnd],0⟩] scope pos) 0 it acc env) R s:=by
 refine codeAny_loop rfl J (λk0 s0 hJ=>?_) k h
 show wpAny _ _ ((compTurn (.ListComp elt [⟨target,iter,[cnd],0⟩] scope pos) 0 it acc env).onRaise (λx=>do noteFrame x env; theTreesLotGoes x)) _ _ s0
 apply wpAny_noted
 rw [compTurn_list]
 refine wpAny_bind (wpAny_standAt (wpAny_bind (wpAny_mono (step k0 s0 hJ) (λgot s1 h1=>?_) λ_ _ z=>z.elim)))
 cases got with
 | none=>exact wpAny_pure h1
 | some v =>
  refine wpAny_bind (wpAny_mono h1 (λ_ s2 h2=>?_) λ_ _ z=>z.elim)
  refine wpAny_bind (wpAny_mono h2 (λ_ s3 h3=>?_) λ_ _ z=>z.elim)
  refine wpAny_bind (wpAny_mono (wpAny_tests_one h3) (λok s3' h3'=>?_) λ_ _ z=>z.elim)
  cases ok with
  | false=>exact wpAny_pure ⟨rfl,h3'⟩
  | true =>
   refine wpAny_bind (wpAny_bind (wpAny_mono h3' (λy s4 h4=>?_) λ_ _ z=>z.elim))
   exact wpAny_bind (wpAny_mono h4 (λ_ s5 h5=>wpAny_pure (wpAny_pure ⟨rfl,h5⟩)) λ_ _ z=>z.elim)
def qH (wi:TI) (n:Nat) (ix:List Nat) (g:Blk->TG) (tc:Blk->TT) (te:Blk->TE):TE:=λσ H Q=>wi σ H λJ H1=>∀ b:Blk,∃ W:Nat->Nat->St->List V->Hp->Prop,(∃ m,W 0 m (df n ix σ) [] H1)/\∀ i m τ ys H2,W i m τ ys H2 ->
 (J.stop i H2/\∀ p v H',H2 p=none->v=V.ref p->H'=upd H2 p (.lst ys)->Q v H') \/
 (J.go i H2/\ys.length < sizeLine/\∀ x H3,J.yld i H2 x H3->g b x τ H3 λτ2 H4=>tc b τ2 H4 λok H4'=>if ok=true then te b τ2 H4' λy H5=>∃ m',m' < m/\W (i+1) m' τ2 (ys++[y]) H5 else ∃ m',m' < m/\W (i+1) m' τ2 ys H4')
section
variable {X:Cx} {pins:List (Addr×Obj)} {σ:St} {H:Hp} {s:Shared}
theorem Znc {elt target iter cnd:Expr} {scope:Scope} {pos:Pos} {Nx ts:zh} {ix:List Nat} {g:Blk->TG} {tc:Blk->TT} {te:Blk->TE} {cl:List (Str×Addr)} {s2:Shared} {itv:Value} {R:Value->Addr->Result->Shared->Prop}
  {E:zd} {Q:VK}
  (hc:X.calm=true) (hg:∀ b,PG (bS X (bN Nx ts ix) scope b) target (g b)) (hcn:∀ b,PT (bS X (bN Nx ts ix) scope b) cnd (tc b)) (he:∀ b,PE (bS X (bN Nx ts ix) scope b) elt (te b))
  (hNx:X.N=Nx) (ok:BlkOk Nx X.env.scope scope ix) (cl1:∀ x c,cl.lookup x=some c->X.env.cells.lookup x=some c) (cl2:∀ y∈scope.names,y.2=.free->∃ c,cl.lookup y.1=some c)
  (h2:qc X pins σ target (λJ H1=>∀ b:Blk,∃ W:Nat->Nat->St->List V->Hp->Prop,(∃ m,W 0 m (df ts.length ix σ) [] H1)/\∀ i m τ ys H2,W i m τ ys H2 ->
   (J.stop i H2/\∀ p v H',H2 p=none->v=V.ref p->H'=upd H2 p (.lst ys)->Q v H') \/
   (J.go i H2/\ys.length < sizeLine/\∀ x H3,J.yld i H2 x H3->g b x τ H3 λτ2 H4=>tc b τ2 H4 λok H4'=>if ok=true then te b τ2 H4' λy H5=>∃ m',m' < m/\W (i+1) m' τ2 (ys++[y]) H5 else ∃ m',m' < m/\W (i+1) m' τ2 ys H4')) itv s2)
  (hR:∀ (D C:Addr) (H':Hp) (s':Shared) (v:V),Inv X pins σ H' s'->v=.ref D->Q v H'->(∃ m,s'.heap.Ns C m)->H' C=none->C≠X.env.locals->X.s₀.heap.objs.size<=C->(∀ x c,X.env.cells.lookup x=some c->c≠C)->(∀ p∈X.pn++pins,p.1≠C) ->
   R (.ref D) C (.ok .next) s') :
  wpAny (model X.prog X.w) X.A (newList []) (λacc s₃=>wpAny (model X.prog X.w) X.A (newFunctionEnv scope X.env.globals cl [] X.env.qual none .none (some X.env)) (λcenv s₄ =>
   codeAny (model X.prog X.w) X.A (.compStart (.ListComp elt [⟨target,iter,[cnd],0⟩] scope pos) 0 itv acc { cenv with scope:=relabel scope X.env }) (R acc cenv.locals) s₄) E s₃) E s2:=by
 obtain ⟨it,fp,tn,J,H1,e,I2,T,st2,f2,q2⟩:=h2
 subst e
 refine wpAny_newObj_type (Zag ?_)
 dsimp only
 generalize hG:s2.heap.push { cls:=.type "list",dict:=none,data:=.seq ([]:zg).toArray }=G
 have hGs:G.objs.size=s2.heap.objs.size+1:=by rw [<- hG,we]
 have hfs:∀ b∈fp,b < s2.heap.objs.size:=λb hb=>let ⟨o,e,_⟩:=T.obj _ _ st2 b hb; vE e
 have kpG:∀ b o,G.get? b=some o->(pushCells (G.push { cls:=.type "dict",data:=.dict #[] }) scope.names).get? b=some o:=λb o e=>pushCells_keeps _ _ _ _ (vc _ e)
 have hns3:(pushCells (G.push { cls:=.type "dict",data:=.dict #[] }) scope.names).Ns G.objs.size (λ_=>none):=(Heap.Ns.new G (.type "dict")).keeps (pushCells_keeps _ _)
 obtain ⟨sp1,sp2,sp4,sp3⟩:=Zh4 scope.names (G.push { cls:=.type "dict",data:=.dict #[] }) cl
 rw [we] at sp1 sp2 sp3 sp4
 generalize hh3:pushCells (G.push { cls:=.type "dict",data:=.dict #[] }) scope.names=h3 at kpG hns3 sp1 ⊢
 have kp:∀ b o,s2.heap.get? b=some o->h3.get? b=some o:=λb o e=>kpG b o (by rw [<- hG]; exact vc _ e)
 have hD3:h3.get? s2.heap.objs.size=some { cls:=.type "list",data:=.seq ([]:zg).toArray }:=kpG _ _ (by rw [<- hG]; exact vn _ rfl)
 have clB:∀ x c,cl.lookup x=some c->c < G.objs.size+1:=λx c e=>by
  obtain ⟨v,q⟩:=I2.cell x c (cl1 x c e)
  exact xp (vA q.lt (by rw [hGs]; exact Nat.le_succ _))
 have csI:=sp3 clB λx y c e1 e2=>I2.ok.inj x y c (cl1 x c e1) (cl1 y c e2)
 have cs1:∀ x c,(cellsFrom (G.objs.size+1) scope.names cl).lookup x=some c->X.env.cells.lookup x=some c\/(G.objs.size < c/\h3.IsCell c none/\(x,NameKind.cell)∈scope.names):=λx c e=>by
  rcases sp1 x c e with z | ⟨z1,z2,z3⟩
  ·exact .inl (cl1 x c z)
  ·exact .inr ⟨by omega,z2,z3⟩
 have cs2:∀ y∈scope.names,(y.2=.free\/y.2=.cell)->∃ c,(cellsFrom (G.objs.size+1) scope.names cl).lookup y.1=some c:=λy hy hk=>by
  refine sp2 y.1 ?_
  rcases hk with z | z
  ·exact .inr (cl2 y hy z)
  ·exact .inl (by rw [<- z]; exact hy)
 have csA:∀ x c,(x,NameKind.cell)∈scope.names->(cellsFrom (G.objs.size+1) scope.names cl).lookup x=some c->G.objs.size<=c:=λx c e1 e2=>xN (sp4 x c e1 e2)
 generalize hcs:cellsFrom (G.objs.size+1) scope.names cl=cs at csI cs1 cs2 csA ⊢
 generalize hCe:G.objs.size=C at hns3 cs1 csA ⊢
 have hC:s2.heap.objs.size<=C:=by omega
 have hDC:s2.heap.objs.size≠C:=by omega
 let B:Blk:=⟨cs,C,s2,H1,fp,X.pn++pins⟩
 have I3:Inv (bS X (bN Nx ts ix) scope B) [] (df ts.length ix σ) H1 { s2 with heap:=h3 }:=ZdQ I2 hNx ok cs1 csI cs2 csA f2 hfs hC kp hns3
 have fC:H1 s2.heap.objs.size=none:=I2.hok.fresh (vo _)
 have cellIn:∀ x c,cs.lookup x=some c->c≠s2.heap.objs.size:=λx c e=>by
  rcases cs1 x c e with z | ⟨z,_,_⟩
  ·obtain ⟨v,q⟩:=I2.cell x c z
   exact vM q.lt
  ·exact wj (wN hC z)
 have pinIn:∀ p∈X.pn++pins,p.1 < s2.heap.objs.size:=λp hp=>vE (I2.pin p hp).1
 have nofrs:s2.heap.objs.size ∉ frs X.stack:=λhb=>by
  rcases vJ.mp (I2.stkSub _ hb) with z | z
  ·exact absurd I2.lt (by rw [<- z]; exact vV _)
  ·exact I2.nofs (vo _) z
 -- a state with the list at its place,pinned
 have pinD:∀ {τ:St} {H':Hp} {s':Shared} {ob:Obj},Inv (bS X (bN Nx ts ix) scope B) [] τ H' s'->s'.heap.get? s2.heap.objs.size=some ob->H' s2.heap.objs.size=none->(∀ v,ob.data≠.cell v)->Inv (bS X (bN Nx ts ix) scope B) [(s2.heap.objs.size,ob)] τ H' s' :=
  λ{τ H' s' ob} I' ho hn hd=>I'.pins_of λp hp=>by
   have e:p=(s2.heap.objs.size,ob):=by simpa using hp
   subst e
   exact ⟨ho,hn,hDC,nofrs,hd⟩
 obtain ⟨W,⟨m0,w0⟩,turn⟩:=q2 B
 have stat:∀ {H':Hp} {ob:Obj},(∀ b∈fp,H' b=none)->∀ b∈fp,fV (bS X (bN Nx ts ix) scope B) [(s2.heap.objs.size,ob)] H' b:=λ{H' ob} hn b hb=>by
  refine ⟨hn b hb,vM (vA (hfs b hb) hC),λz=>?_,.inl hb,λx c e=>by
   rcases cs1 x c e with z | ⟨z,_,_⟩
   ·exact (f2 b hb).2.2.2.2.1 x c z
   ·exact wj (vA (hfs b hb) (vS hC (xt z))),λp hp=>?_⟩
  ·rcases vJ.mp (I2.stkSub _ z) with q | q
   ·exact (f2 b hb).2.1 q
   ·exact (f2 b hb).2.2.1 q
  ·rcases wS.mp hp with z | z
   ·exact (f2 b hb).2.2.2.2.2 p z
   ·have e:p=(s2.heap.objs.size,ob):=by simpa using z
    subst e
    exact wj (hfs b hb)
 have loop:∀ s4:Shared,s4={ s2 with heap:=h3 } ->
   codeAny (model X.prog X.w) X.A (.compLoop (.ListComp elt [⟨target,iter,[cnd],0⟩] scope pos) 0 (.ref it) (.ref s2.heap.objs.size) (compEnvC scope cs C X.env)) (R (.ref s2.heap.objs.size) C) s4:=by
  rintro s4 rfl
  refine Zpx (λk s'=>∃ i τ ys its n H',Inv (bS X (bN Nx ts ix) scope B) [(s2.heap.objs.size,({ cls:=.type "list",data:=.seq (List.toArray its) n }:Obj))] τ H' s'/\tn i s'.heap/\(∀ b∈fp,H' b=none)/\Vals ys its/\ys.length<=sizeLine/\W i k τ ys H') ?_ m0
   ⟨0,_,[],[],_,H1,pinD I3 hD3 fC (λv z=>by cases z),T.keep _ _ _ st2 λb hb o e=>kp b o e,λb hb=>(f2 b hb).1,.nil,xg _,w0⟩
  rintro k s5 ⟨i,τ,ys,its,n,H5,I5,st5,fr5,rv,hz,w5⟩
  rcases turn i k τ ys H5 w5 with ⟨stop,qn⟩ | ⟨go,hlt,step⟩
  ·refine thn (T.done (bS X (bN Nx ts ix) scope B) rfl rfl rfl hc i _ s5 τ H5 _ I5 (stat fr5) st5 stop) λgot s6 hz0=>?_
   obtain ⟨hr,I6⟩:=hz0
   subst hr
   obtain ⟨ho,hn,_,_,_⟩:=I6.pin (s2.heap.objs.size,({ cls:=.type "list",data:=.seq (List.toArray its) n }:Obj)) (vz _ (by simp))
   have I7:Inv X pins σ H5 s6:=I2.call' (ch:=fp) (H':=H5) (by exact I6.os) I6.base I6.hok I6.bare λb hb=>⟨(f2 b hb).2.2.2.1,(f2 b hb).2.1,(f2 b hb).2.2.2.2.1,(f2 b hb).2.2.2.2.2⟩
   have hs0:X.s₀.heap.objs.size<=s2.heap.objs.size:=I2.sz
   have I8:=I7.track hn ho rv hz (wj I2.lt) hs0 (λx c e z=>by
    obtain ⟨v,q⟩:=I2.cell x c e
    exact absurd q.lt (by rw [z]; exact vV _)) (λp hp=>vM (pinIn p hp))
   obtain ⟨m6,hm6,_⟩:=I6.loc
   refine hR _ C _ s6 _ I8 rfl (qn _ _ _ hn rfl rfl) ⟨m6,hm6⟩ ?_ (λz=>?_) (vS hs0 hC) (λx c e z=>?_) λp hp=>vM (vA (pinIn p hp) hC)
   ·rw [aV (Ne.symm hDC)]
    exact I6.free
   ·exact absurd (vA I2.lt hC) (by rw [z]; exact vV _)
   ·obtain ⟨v,q⟩:=I2.cell x c e
    exact absurd (vA q.lt hC) (by rw [z]; exact vV _)
  ·refine thn (T.item (bS X (bN Nx ts ix) scope B) rfl rfl rfl hc i _ s5 τ H5 _ I5 (stat fr5) st5 go) λgot s6 hz0=>?_
   obtain ⟨u,hr,h6⟩:=hz0
   subst hr
   refine thn h6 λ_ s7 hz0=>?_
   obtain ⟨x,H7,I7,r7,y7,st7,fr7⟩:=hz0
   have I7':=I7.pinned (stat fr7) (T.obj _ _ st7)
   refine thn (hg B _ s7 τ H7 x u _ I7' r7 (step x H7 y7)) λ_ s8 hz0=>?_
   obtain ⟨τ8,H8,I8,q8⟩:=hz0
   refine thn (hcn B _ s8 τ8 H8 _ I8 q8) λokk s8' hz0=>?_
   obtain ⟨H8',I8',q8'⟩:=hz0
   cases okk with
   | false =>
    obtain ⟨m',hm',w9⟩:=q8'
    obtain ⟨ho,hn,_,_,_⟩:=I8'.pin (s2.heap.objs.size,({ cls:=.type "list",data:=.seq (List.toArray its) n }:Obj)) (vz _ (wk _ (by simp)))
    have I9':Inv (bS X (bN Nx ts ix) scope B) [] τ8 H8' s8':=I8'.pins_of λp hp=>absurd hp (by simp)
    refine ⟨m',hm',i+1,τ8,ys,its,n,H8',pinD I9' ho hn (λv z=>by cases z),?_,λb hb=>?_,rv,hz,w9⟩
    ·refine T.keep _ _ _ st7 λb hb o e=>?_
     exact (I8'.pin (b,o) (vz _ (vz _ (im hb e)))).1
    ·obtain ⟨o,e,d⟩:=T.obj _ _ st7 b hb
     exact (I8'.pin (b,o) (vz _ (vz _ (im hb e)))).2.1
   | true =>
   refine thn (he B _ s8' τ8 H8' _ I8' q8') λy s9 hz0=>?_
   obtain ⟨vy,H9,I9,r9,m',hm',w9⟩:=hz0
   obtain ⟨ho,hn,_,_,_⟩:=I9.pin (s2.heap.objs.size,({ cls:=.type "list",data:=.seq (List.toArray its) n }:Obj)) (vz _ (wk _ (by simp)))
   have lenv:=rv.length
   refine wpAny_list_append_plain (l:=s2.heap.objs.size) ⟨n,ho⟩ (λh' hpl hsb=>?_) (by rw [vq]; omega)
   obtain ⟨n',ho'⟩:=hpl
   have eobj:(its.toArray.push y)=List.toArray (its++[y]):=by simp
   rw [eobj] at ho'
   have I9':Inv (bS X (bN Nx ts ix) scope B) [] τ8 H9 s9:=I9.pins_of λp hp=>absurd hp (by simp)
   have I10:Inv (bS X (bN Nx ts ix) scope B) [] τ8 H9 { s9 with heap:=h' }:=I9'.turned (it:=s2.heap.objs.size) (t':=s9.toks) (λb o hb e=>(hsb.2 b hb).trans e) hn hDC (.inr (vo _)) cellIn (λp hp=>by
    have hp':p∈(X.pn++pins)++[]:=hp
    rw [wn] at hp'
    exact vM (pinIn p hp'))
   refine ⟨m',hm',i+1,τ8,ys++[vy],its++[y],n',H9,pinD I10 ho' hn (λv z=>by cases z),?_,λb hb=>?_,rv.append (.cons r9 .nil),by rw [v6]; show ys.length+1<=_; omega,w9⟩
   ·refine T.keep _ _ _ st7 λb hb o e=>?_
    have q:=(I9.pin (b,o) (vz _ (vz _ (im hb e)))).1
    exact (hsb.2 b (vM (hfs b hb))).trans q
   ·obtain ⟨o,e,d⟩:=T.obj _ _ st7 b hb
    exact (I9.pin (b,o) (vz _ (vz _ (im hb e)))).2.1
 exact codeAny_compStart_list (loop _ rfl) (T.self X.A 0 _ _ _ (T.keep _ _ _ st2 λb hb o e=>kp b o e) (loop _ rfl))
theorem ZlK {elt target iter cnd:Expr} {scope:Scope} {pos:Pos} {wi:TI} {g:Blk->TG} {tc:Blk->TT} {te:Blk->TE} (Nx:zh) (ts:zh) (ix:List Nat)
  (hc:X.calm=true) (hi:PI X target iter wi) (hg:∀ b,PG (bS X (bN Nx ts ix) scope b) target (g b)) (hcn:∀ b,PT (bS X (bN Nx ts ix) scope b) cnd (tc b)) (he:∀ b,PE (bS X (bN Nx ts ix) scope b) elt (te b))
  (hNx:X.N=Nx) (ok:BlkOk Nx X.env.scope scope ix) (hs:∀ x,foldedSetIterable iter X.env x=pure x:=by intro _; rfl) :
  PE X (.ListComp elt [⟨target,iter,[cnd],0⟩] scope pos) (qH wi ts.length ix g tc te):=by
 intro pins s σ H Q I h
 obtain ⟨cl,hcl,cl1,cl2⟩:=ua (scope:=scope) (env:=X.env) λy hy hf=>I.ok.has y.1 (ok.frees y hy hf)
 rw [eval_ListComp]
 refine wpAny_comprehension_free (use:=none) rfl hs hcl ok.kind ok.locs (thn (hi pins s σ H _ I h) λv s1 h1=>thn h1 λitv s2 h2=>?_)
 refine Znc (R:=λacc C=>compPost (model X.prog X.w) X.A X.xe none (EP X pins σ Q) acc C) hc hg hcn he hNx ok cl1 cl2 h2 ?_
 rintro D C H' s' v I' rfl q ⟨m,hm⟩ hn hL h0 hcl' hp
 exact ⟨m,hm,λh' hsb=>⟨.ref D,H',I'.turned (it:=C) (t':=s'.toks) (λb o hb e=>(hsb.2 b hb).trans e) hn hL (.inr h0) hcl' hp,rfl,q⟩⟩
end
section
variable {PK:Pk} {X:Cx} {e:Expr} {st:Stmt} {i:yZ} {is:y4} {p:y6}
noncomputable def lK (y:Option PyData) (ys:ze):Tr ze:=.ret (match y with
 | some y=>y::ys
 | none=>ys)
noncomputable def fM (h:PyData->Tr (Option PyData)):List PyData->Tr ze
 | []=>.ret []
 | x::xs=>(h x).bind λy=>(fM h xs).bind (lK y)
noncomputable def kl (p:y6) (i:yZ) (τ:zl):Tr (Option PyData):=(p τ).bind λok=>if ok=true then (i τ).bind λy=>.ret (some y) else .ret none
noncomputable def pU (is:y4) (n:Nat) (ix:List Nat) (g:zb) (p:y6) (el:yZ):y4:=λρ =>
 (is ρ).bind λxs=>if small xs.length=true then fM (λx=>(Tr.of (g x (blk n ix ρ))).bind (kl p el)) xs else .fail
theorem Znb {n:Nat} {ix:List Nat} {g:zb} (hn:iD n g):∀ σ H Q,eM PK (pU is n ix g p i) σ H Q->qH (eN PK is) n ix (λ_=>gy PK g) (λ_=>TAt PK p) (λ_=>TAe PK i) σ H Q:=by
 rintro σ H Q ⟨pa,zm,H₀,m,ρ,G,R,z⟩
 refine ⟨pa,zm,H₀,m,ρ,G,R,Tr.ok_mono (Tr.ok_bind.mp z) λm1 xs k J G1 H1 s1 w1 jo=>λB=>?_⟩
 obtain ⟨hs,k⟩:=gK k
 have hs:xs.length<=sizeLine:=of_decide_eq_true hs
 let el:PyData->Tr (Option PyData):=λx=>(Tr.of (g x (blk n ix ρ))).bind (kl p i)
 let W:Nat->Nat->St->List V->Hp->Prop:=λk mm τ ys H2=>mm=xs.length - k/\k<=xs.length/\ys.length<=k/\∃ m G2 ds,Sub G1 G2/\Stp pa G H G2 H2/\Rl PK pa zm H₀ m τ (blk n ix ρ) G2 H2 /\
  DnAll G2 ys ds/\(fM el (xs.drop k)).ok m λm' zs=>Ko1 PK pa m' G H (ds++zs) Q
 refine ⟨W,⟨xs.length,rfl,xg _,vo _,m1,G1,[],.refl,s1,(R.step s1 w1).blk n ix,.nil,k⟩,?_⟩
 rintro k mm τ ys H2 ⟨rfl,hk,hy,m2,G2,ds,sb,st2,R2,dn,k2⟩
 obtain ⟨j1,j2⟩:=jo m2 G2 H2 sb R2.wd
 by_cases hlt:k < xs.length
 ·have hx:xs[k]?=some xs[k]:=by simp [hlt]
  obtain ⟨jg,jy⟩:=j1 k _ hx
  refine .inr ⟨jg,by omega,λx H3 y=>?_⟩
  obtain ⟨G3,s3,w3,d3⟩:=jy x H3 y
  rw [wm hlt] at k2
  unfold fM at k2
  rw [Tr.ok_bind,Tr.ok_bind] at k2
  obtain ⟨ρ3,hg3,k3⟩:=Tr.ok_of k2
  refine ⟨pa,zm,H₀,m2,_,G3,_,ρ3,R2.step s3 w3,d3,hg3,λτ4 R4=>?_⟩
  obtain ⟨pl,pk⟩:=hn _ _ _ hg3
  have hback:∀ (q:Nat) (sl:Sl),(blk n ix ρ)[q]?=some sl->sl=.un\/ρ3[q]?=some sl:=λq sl hq=>by
   by_cases hqn:q < n
   ·left
    unfold blk at hq
    rw [v8 (by simpa using hqn),vW,if_pos hqn] at hq
    cases hq
    rfl
   ·right
    rw [pk q (xu hqn)]
    exact hq
  unfold kl at k3
  rw [Tr.ok_bind] at k3
  refine ⟨pa,zm,H₀,m2,ρ3,G3,R4,Tr.ok_mono k3 λm4 ok k4 G4 H4 s4 w4=>?_⟩
  have R4':=R4.step s4 w4
  have s34:=s3.trans s4 w3.some
  cases ok with
  | false =>
   have k4':((fM el (xs.drop (k+1))).bind (lK none)).ok m4 λm' zs=>Ko1 PK pa m' G H (ds++zs) Q:=k4
   refine ⟨xs.length - (k+1),by omega,rfl,hlt,by omega,m4,G4,ds,sb.trans s34.gs,st2.trans s34 R2.wd.some,R4'.weak pl hback,DnAll.mono s34.gs dn,?_⟩
   exact Tr.ok_mono (Tr.ok_bind.mp k4') λm6 zs k6=>k6
  | true =>
   have k4':((i ρ3).bind λy=>.ret (some y)).ok m4 λm' y=>((fM el (xs.drop (k+1))).bind (lK y)).ok m' λm' zs=>Ko1 PK pa m' G H (ds++zs) Q:=k4
   rw [Tr.ok_bind] at k4'
   refine ⟨pa,zm,H₀,m4,ρ3,G4,R4',Tr.ok_mono k4' λm5 yd k5=>?_⟩
   intro v G5 H5 s5 w5 d5
   have s35:=s34.trans s5 w4.some
   refine ⟨xs.length - (k+1),by omega,rfl,hlt,by rw [v6]; show ys.length+1<=_; omega,m5,G5,ds++[yd],sb.trans s35.gs,st2.trans s35 R2.wd.some,(R4'.step s5 w5).weak pl hback,(DnAll.mono s35.gs dn).snoc d5,?_⟩
   have k5':((fM el (xs.drop (k+1))).bind (lK (some yd))).ok m5 λm' zs=>Ko1 PK pa m' G H (ds++zs) Q:=k5
   refine Tr.ok_mono (Tr.ok_bind.mp k5') λm6 zs k6=>?_
   rw [xa]
   exact k6
 ·have e:k=xs.length:=by omega
  subst e
  refine .inl ⟨j2,λp v H' hp ev eH=>?_⟩
  subst ev eH
  rw [wL] at k2
  have k2':Ko1 PK pa m2 G H (ds++[]) Q:=k2
  rw [wn] at k2'
  exact (Ko1.later k2' st2 R2.wd.some).new R2.wd dn hp
theorem Zqx {n:Nat} {ix:List Nat} {g:zb} (h:PE X e (qH (eN PK is) n ix (λ_=>gy PK g) (λ_=>TAt PK p) (λ_=>TAe PK i))) (hn:iD n g):PE X e (eM PK (pU is n ix g p i)):=h.imp (Znb hn)
end
end L2
set_option Elab.async false
set_option linter.all false
set_option maxRecDepth 100000
namespace L2
section
variable {X:Cx}
theorem ZmA (x:Int) (t:Tok) (l:Addr) (items:Array Value) (n:Nat) (dd:Option Addr) (sl:Array (Option Value)) (h1:x<=0) (h2:-1000<=x) (h3:items.isEmpty=false) :
  Meets (Builtin.«tuple.__mul__» ⟨[.ref l,.int x t],[]⟩) (λ_ R s=>s.heap.get? l=some { cls:=.type "tuple",dict:=dd,data:=.seq items n,slots:=sl } /\
   R (.ok (.ret (.ref s.heap.objs.size))) { s with heap:=s.heap.push { cls:=.type "tuple",data:=.seq #[] } }):=by
 refine .of_wp λprog w A R s h=>?_
 obtain ⟨hp,g,d,tk,os⟩:=s
 obtain ⟨hl,h⟩:=h
 wp_walk
 refine wpAny_ite_split (λz=>absurd z (by simp; omega)) (λ_=>?_)
 refine wpAny_bind ?_
 unfold Builtin.Tuple.tupleItemsOf
 refine wpAny_bind (wpAny_seqItems hl rfl (wpAny_pure ?_))
 refine wpAny_ite_split (λz=>absurd z (by rw [h3]; simp; omega)) (λ_=>?_)
 refine wpAny_ite_split (λ_=>?_) (λz=>absurd (by simp; exact .inl h1) z)
 unfold Builtin.Tuple.tupleExact
 exact wpAny_bind (wpAny_newObj_type (wpAny_pure ⟨_,rfl,h⟩) (by size_fits))
theorem Zmz (t:Tok) (l:Addr) (items:Array Value) (n:Nat) (dd:Option Addr) (sl:Array (Option Value)) :
  Meets (Builtin.«tuple.__mul__» ⟨[.ref l,.int 1 t],[]⟩) (λ_ R s=>s.heap.get? l=some { cls:=.type "tuple",dict:=dd,data:=.seq items n,slots:=sl }/\R (.ok (.ret (.ref l))) s):=by
 refine .of_wp λprog w A R s h=>?_
 obtain ⟨hp,g,d,tk,os⟩:=s
 obtain ⟨hl,h⟩:=h
 wp_walk
 exact ⟨_,rfl,h⟩
noncomputable def Zca (K:yY):R2:=λx y H Q=>∃ a k xs,x=.ref a/\y=.int k/\SqT K H a xs/\k<=0/\-1000<=k/\xs≠[]/\∀ p,H p=none->Q (.ref p) (upd H p (.tup []))
noncomputable def Zb9 (K:yY):R2:=λx y H Q=>∃ a xs,x=.ref a/\y=.int 1/\SqT K H a xs/\Q (.ref a) H
theorem ZlY:OpR X (binaryOp .Mult) (Zca X.K):=by
 intro pins s σ H x y v u Q I rx ry h
 obtain ⟨a,k,xs,rfl,rfl,hq,h1,h2,hne,q⟩:=h
 cases rx
 obtain ⟨t,rfl⟩:=ry
 obtain ⟨its,rv,p,hz⟩:=I.tuple hq
 obtain ⟨o,ho,hc,n,hd⟩:=p
 obtain ⟨oc,od,odd,osl⟩:=o
 have hc':oc=.type "tuple":=hc
 have hd':odd=.seq its.toArray n:=hd
 subst hc' hd'
 have hemp:its.toArray.isEmpty=false:=by
  cases its with
  | nil=>cases rv; exact absurd rfl hne
  | cons i r=>rfl
 refine wpAny_binaryOp_repeat_ref (T:="tuple") (U:="int") (by decide) ⟨_,ho,rfl⟩ (λs'=>typeIs_int s' k t) sH x0 wM rG PySem.F.slot_int_index.lookup ?_
 refine call_meets wM (typeIs_int s k t) xZ (xS _ _) (rF k t a its.toArray n od osl) ⟨ho,rfl,⟨_,ho,rfl⟩,?_⟩
 refine call_meets xX ⟨_,ho,rfl⟩ xQ (xL _ _) (ZmA k t a its.toArray n od osl h1 h2 hemp) ⟨ho,?_⟩
 exact ⟨.ref s.heap.objs.size,_,I.laid (t':=s.toks) (λb o e=>vc _ e) (vo _) (show ObjOk X.prog X.w _ _ _ (.tup []) from ⟨xg _,[],.nil,IsTup.new _ _⟩),rfl,q _ (I.hok.fresh (vo _))⟩
theorem ZlX:OpR X (binaryOp .Mult) (Zb9 X.K):=by
 intro pins s σ H x y v u Q I rx ry h
 obtain ⟨a,xs,rfl,rfl,hq,q⟩:=h
 cases rx
 obtain ⟨t,rfl⟩:=ry
 obtain ⟨its,rv,p,hz⟩:=I.tuple hq
 obtain ⟨o,ho,hc,n,hd⟩:=p
 obtain ⟨oc,od,odd,osl⟩:=o
 have hc':oc=.type "tuple":=hc
 have hd':odd=.seq its.toArray n:=hd
 subst hc' hd'
 refine wpAny_binaryOp_repeat_ref (T:="tuple") (U:="int") (by decide) ⟨_,ho,rfl⟩ (λs'=>typeIs_int s' 1 t) sH x0 wM rG PySem.F.slot_int_index.lookup ?_
 refine call_meets wM (typeIs_int s 1 t) xZ (xS _ _) (rF 1 t a its.toArray n od osl) ⟨ho,rfl,⟨_,ho,rfl⟩,?_⟩
 refine call_meets xX ⟨_,ho,rfl⟩ xQ (xL _ _) (Zmz t a its.toArray n od osl) ⟨ho,?_⟩
 exact ⟨.ref a,H,I,rfl,q⟩
noncomputable def Zb8 (K:yY):R2:=λx y H Q=>rM K x y H Q\/Zca K x y H Q\/Zb9 K x y H Q
theorem ZcO:OpR X (binaryOp .Mult) (Zb8 X.K):=ZcN.or (ZlY.or ZlX)
noncomputable def h9:zc
 | .tuple xs,.int n=>if (decide (-1000<=n) && decide (n<=1000) && !xs.isEmpty && decide (xs.length<=1000))=true then some (.tuple (List.replicate n.toNat xs).flatten) else none
 | _,_=>none
theorem Zai {K:yY}:cz (Zb8 K) h9:=λPK pa m G H x y dx dy dz Q w hx hy hz k=>by
 unfold h9 at hz
 split at hz
 ·rename_i xs n
  split at hz
  ·rename_i hc
   simp only [vU,decide_eq_true_eq,xP] at hc
   cases hz; cases hy
   cases hx with
   | tup a1 a2 =>
    have hne:∀ vs:zi,DnAll G vs xs->vs≠[]:=λvs a2 e=>by
     have:=hc.1.2
     rw [<- a2.isEmpty,e] at this
     cases this
    by_cases h1:1 < n
    ·exact .inl ⟨_,_,_,rfl,rfl,SqT.of (w.sub _ _ a1),h1,hc.1.1.2,hne _ a2,by rw [a2.length]; exact hc.2,λp hp=>k.tup w (a2.rep _) hp⟩
    ·by_cases h0:n<=0
     ·refine .inr (.inl ⟨_,_,_,rfl,rfl,SqT.of (w.sub _ _ a1),h0,hc.1.1.1,hne _ a2,λp hp=>?_⟩)
      have e:(List.replicate n.toNat xs).flatten=[]:=by rw [show n.toNat=0 by omega]; rfl
      rw [e] at k
      exact k.tup w .nil hp
     ·have e1:n=1:=by omega
      subst e1
      refine .inr (.inr ⟨_,_,rfl,rfl,SqT.of (w.sub _ _ a1),?_⟩)
      have e:(List.replicate (1:Int).toNat xs).flatten=xs:=by simp
      rw [e] at k
      exact k.here w (.tup a1 a2)
  ·cases hz
 ·cases hz
section
variable {ρ:zl} {is:y4} {n:Nat} {i:yZ} {p:y6} {xs:ze} {x:PyData}
theorem Zfg {m:Int} (h:(decide (-1000<=m) && decide (m<=1000) && !xs.isEmpty && decide (xs.length<=1000))=true):aS h9 (.tuple xs) (.int m)=.ret (.tuple (List.replicate m.toNat xs).flatten):=by
 simp only [aS,h9,h,if_true]
 rfl
noncomputable def lZ (g:zb) (p:y6) (el:yZ) (τ:zl) (x:PyData):Tr (Option PyData):=(Tr.of (g x τ)).bind (kl p el)
noncomputable def sS (n:Nat) (ix:List Nat) (g:zb) (p:y6) (el:yZ) (ρ:zl) (xs:ze):Tr ze:=if small xs.length=true then fM (lZ g p el (blk n ix ρ)) xs else .fail
theorem ZfU {ix:List Nat} {g:zb}:pU is n ix g p i ρ=(is ρ).bind (sS n ix g p i ρ):=rfl
theorem ZfW {ix:List Nat} {g:zb} (h:small xs.length=true):sS n ix g p i ρ xs=fM (lZ g p i (blk n ix ρ)) xs:=by unfold sS; rw [if_pos h]
theorem ZfV {τ:zl} {g:zb}:lZ g p i τ x=(Tr.of (g x τ)).bind (kl p i):=rfl
noncomputable def tE (y:PyData):Tr (Option PyData):=.ret (some y)
noncomputable def tF (i:yZ) (τ:zl) (b:Bool):Tr (Option PyData):=if b=true then (i τ).bind tE else .ret none
theorem Zgg {τ:zl}:kl p i τ=(p τ).bind (tF i τ):=rfl
theorem Zgi {τ:zl}:tF i τ true=(i τ).bind tE:=rfl
theorem Zgj {τ:zl}:tF i τ false=.ret none:=rfl
theorem Zgh:tE x=.ret (some x):=rfl
end
end
end L2
set_option Elab.async false
set_option linter.all false
set_option maxRecDepth 100000
namespace L2
section
variable {PK:Pk} {X:Cx} {e:Expr} {as:List Sl->Tr zl}
noncomputable def slD:List Sl->Option ze
 | []=>some []
 | .d x::r=>(slD r).bind λxs=>some (x::xs)
 | _=>none
theorem ArsOk.slD {pa:Addr} {G:Hp} {vs:zi} {ss:zl} {ds:ze} (a:ArsOk pa G vs ss) (h:L2.slD ss=some ds):DnAll G vs ds:=by
 induction a generalizing ds with
 | nil=>cases h; exact .nil
 | cons h0 t ih =>
  cases h0 with
  | d h1 =>
   unfold L2.slD at h
   cases e:L2.slD _ with
   | none=>rw [e] at h; cases h
   | some xs =>
    rw [e] at h
    cases h
    exact .cons h1 (ih e)
  | pen=>cases h
noncomputable def l9 (d:PyData):Tr PyData:=if tN d=true then .ret d else .fail
noncomputable def mC (f:List PyData->Option PyData) (as:List Sl->Tr zl):yZ:=λρ=>(as ρ).bind λss=>(Tr.of ((slD ss).bind f)).bind l9
theorem uJ {r:List V->Hp->VK->Prop} {f:List PyData->Option PyData} (L:PkLow PK) (h:PE X e (fo r (TAb PK as))) (hv:fE r f):PE X e (TAe PK (mC f as)):=h.imp λσ H Q hz0=>by
 obtain ⟨pa,zm,H₀,m,ρ,G,R,z⟩:=hz0
 refine TAb.then R z λm1 ss vs G1 H1 s1 w1 R1 d1 q1=>?_
 obtain ⟨d,hd,q1⟩:=Tr.ok_of (Tr.ok_bind.mp q1)
 obtain ⟨G2,s2,w2,d2⟩:=ArsB.ok (λ_ _ h=>h) w1 d1
 cases e:slD ss with
 | none=>rw [e] at hd; cases hd
 | some ds =>
  rw [e] at hd
  unfold l9 at q1
  obtain ⟨hf,k⟩:=gK (c:=tN d) q1
  refine hv PK pa m1 G2 H1 vs ds d Q w2 (ArsOk.slD d2 e) hd ?_
  intro v G3 H3 s3 w3 d3
  have s13:Stp pa G1 H1 G1 H3:=⟨λ_ _ h=>h,λ_ _ h=>.inl h,s3.hk⟩
  obtain ⟨o1,e1,p1⟩:=w1.pen
  obtain ⟨o3,e3,p3⟩:=w3.pen
  have w13:Wd PK pa m1 G1 H3:=⟨λb o h=>s3.hk b o (w1.sub b o h) (λz=>by subst z; rw [w1.gpa] at h; cases h),w1.gpa,o3,e3,L.low p1 (s2.trans s3.gs) p3⟩
  exact k v G1 H3 (s1.trans s13 w1.some) w13 (Dn.flat_any d3 hf)
end
section
variable {ρ:zl} {as:List Sl->Tr zl} {f:List PyData->Option PyData} {x:PyData} {xs:ze} {i j:yZ} {k:Nat} {p:y6} {s:y8}
noncomputable def Zh6 (f:List PyData->Option PyData) (ss:zl):Tr PyData:=(Tr.of ((slD ss).bind f)).bind l9
theorem ZgQ:mC f as ρ=(as ρ).bind (Zh6 f):=rfl
theorem ZgP:Zh6 f [.d x]=(bZ f [x]).bind l9:=rfl
theorem Zgu (n:Int):l9 (.int n)=.ret (.int n):=rfl
noncomputable def kU (k:Nat) (ρ:zl) (x:PyData) (xs:ze):PyData->Tr Ou
 | .int y=>(Tr.of (cR xs.length y)).bind λt=>.ret (.next (ρ.set k (.own (xs.set t x))))
 | _=>.fail
noncomputable def qP (k:Nat) (n:yZ) (ρ:zl) (x:PyData) (xs:ze):Tr Ou:=(n ρ).bind (kU k ρ x xs)
noncomputable def qQ (k:Nat) (n:yZ) (ρ:zl) (x:PyData):Tr Ou:=(gJ k ρ).bind (qP k n ρ x)
theorem ZeL:kK k j i ρ=(i ρ).bind (qQ k j ρ):=by
 unfold kK
 refine congrArg (Tr.bind (i ρ)) (funext λx=>?_)
 rw [qQ,<- nO k ρ]
 cases ρ[k]? with
 | none=>rfl
 | some sl =>
  cases sl with
  | own xs =>
   show ((j ρ).bind _:Tr Ou)=(j ρ).bind (kU k ρ x xs)
   refine congrArg (Tr.bind (j ρ)) (funext λy=>?_)
   cases y <;> rfl
  | _=>rfl
theorem ZeK {n:yZ}:qQ k n ρ x=(gJ k ρ).bind (qP k n ρ x):=rfl
theorem ZeJ {n:yZ}:qP k n ρ x xs=(n ρ).bind (kU k ρ x xs):=rfl
theorem tS {y:Int} {t:Nat} (h:cR xs.length y=some t):kU k ρ x xs (.int y)=.ret (.next (ρ.set k (.own (xs.set t x)))):=by
 simp only [kU,h]
 rfl
end
end L2
set_option Elab.async false
set_option linter.all false
set_option maxRecDepth 100000
namespace L2
open AutoSeq1 (wpAny_loadPart')
noncomputable def jB (hi:Int) (n:Nat):It:=⟨λi _=>i < n,λi H x H'=>H'=H/\x=.int (hi - i),λi _=>n<=i⟩
theorem Zjx {P:Program} {w:World} {K:yY} {tg:Expr} (it:Addr) (hi:Int) (n:Nat):Turn P w K tg (jB hi n) [it] it (λi h=>IsRangeIter h it (hi+(i:Nat) * (-1)) ((n:Int) - (i:Nat)) (-1)) where
 mem:=by simp
 obj:=λi h st b hb=>by
  have e:b=it:=by simpa using hb
  subst e
  exact ⟨_,st,λv z=>by
   have z':Data.fields _=Data.cell v:=z
   cases z'⟩
 keep:=λi h h' st k=>k it (by simp) _ st
 item:=by
  intro X hP hw hK hc i pins s σ H E I hf st hg
  subst hP hw hK
  obtain ⟨f0,f1,f2,f3,f4,f5⟩:=hf it (by simp)
  have W:=Walks.range (prog:=X.prog) (w:=X.w) (I.ok.hd hc) it hi (-1) n
  refine W.item i s _ _ hg st λv h' tk hv st' kk=>?_
  obtain ⟨t,rfl⟩:=hv
  have I1:Inv X pins σ H { s with heap:=h',toks:=tk }:=I.turned (λb o hb e=>kk b o (by simpa using hb) e) f0 f1 f3 f4 f5
  refine ⟨_,rfl,l6 (s:={ s with heap:=h',toks:=tk }) (n:="range_iterator") st' rfl rfl (by decide) ⟨.int (hi - i),H,I1,⟨t,?_⟩,⟨rfl,rfl⟩,st',λb hb=>(hf b hb).1⟩⟩
  have e:hi+(i:Int) * -1=hi - i:=by omega
  rw [e]
 done:=by
  intro X hP hw hK hc i pins s σ H E I hf st hg
  subst hP hw hK
  obtain ⟨f0,f1,f2,f3,f4,f5⟩:=hf it (by simp)
  exact wpAny_pyNext_range_end (I.ok.hd hc) st (by have:n<=i:=hg; omega) λh' eb=>⟨rfl,I.turned (t':=s.toks) (λb o hb e=>eb b o hb e) f0 f1 f3 f4 f5⟩
 self:=λ_ _ _ _ _ st h=>wpAny_pyIter_rangeiter st h
theorem ZmJ (r:Addr) (a b c:Int) (t u v:Tok) (hs:¬ (!(Builtin.Range.rangeFitsLong a && Builtin.Range.rangeFitsLong b && Builtin.Range.rangeFitsLong c && Builtin.Range.rangeFitsLong (-c) && Builtin.Range.rangeFitsLong (a - c) && Builtin.Range.rangeFitsLong (Builtin.Range.rangeSize a b c)))=true) :
  Meets (Builtin.«range.__reversed__» ⟨[.ref r],[]⟩) (λ_ R s=>s.heap.get? r=some { cls:=.type "range",dict:=none,data:=.fields #[.int a t,.int b u,.int c v],slots:=#[] } /\
   R (.ok (.ret (.ref s.heap.objs.size))) { s with heap:=s.heap.push { cls:=.type "range_iterator",data:=.fields #[rawInt (a+(Builtin.Range.rangeSize a b c - 1) * c),rawInt (Builtin.Range.rangeSize a b c),rawInt (-c)] },toks:=s.toks }) :=
 .of_wp λprog w A R s h=>by
  obtain ⟨hp,g,d,tk,os⟩:=s
  obtain ⟨hl,h⟩:=h
  have hs':=hs
  rw [xP,Bool.not_eq_false] at hs'
  wp_walk
  rw [if_pos hs']
  exact ⟨_,rfl,h⟩
theorem kn {n:Int} (h1:-(2 ^ 63)<=n) (h2:n < 2 ^ 63):Builtin.Range.rangeFitsLong n=true:=by
 unfold Builtin.Range.rangeFitsLong
 simp
 omega
section
variable {prog:Program} {w:World} {A:Around} {E:zd} {s:Shared}
theorem ZpA {r:Addr} {a b:Int} {t u v:Tok} {Q₁:zd} (hr:IsRange s.heap r a b 1 t u v) (ha:-(2 ^ 62)<=a) (ha':a < 2 ^ 62) (hb:-(2 ^ 62)<=b) (hb':b < 2 ^ 62)
  (h:Q₁ (.ref s.heap.objs.size) { s with heap:=s.heap.push { cls:=.type "range_iterator",data:=.fields #[rawInt (a+(Builtin.Range.rangeSize a b 1 - 1) * 1),rawInt (Builtin.Range.rangeSize a b 1),rawInt (-1)] } }) :
  codeAny (model prog w) A (.call (.builtin "reversed.__new__") ⟨[.type "reversed",.ref r],[]⟩) (wants Q₁ E) s:=by
 have hT:s.TypeIs (.ref r) "range":=⟨_,hr,rfl⟩
 refine codeAny_of_tree ?_
 show wpAny _ A.in1 (do checkBuiltinCall "reversed.__new__" ⟨[.type "reversed",.ref r],[]⟩; again (.builtin "reversed.__new__" ⟨[.type "reversed",.ref r],[]⟩)) _ _ s
 refine wpAny_bind (wpAny_of_eq (F.newCall_reversed_1 _) (wpAny_pure ⟨plainId_quiet F.plain_reversed_new _,codeAny_builtin F.entry_reversed_new ?_⟩))
 rw [wH F.plain_reversed_new _]
 unfold Builtin.«reversed.__new__»
 refine wpAny_bind (wpAny_of_eq (newClass_reversed _) ?_)
 try dsimp only
 refine wpAny_bind (wpAny_of_eq (a:=()) (by first | rfl | kernel_rfl) ?_)
 refine wpAny_bind (wpAny_of_eq (a:=()) (by first | rfl | kernel_rfl) ?_)
 try dsimp only
 refine wpAny_bind (wpAny_specialOf hT F.slot_range_reversed.lookup ?_)
 try dsimp only
 refine wpAny_bind (wpAny_of_eq (F.slot_range_reversed.bind _) ?_)
 try dsimp only
 first
 | rw [if_neg (show ¬ ((Value.builtin "range.__reversed__" == Value.none)=true) from vD)]
 | (show wpAny _ _ (if (Value.builtin "range.__reversed__" == Value.none)=true then _ else _) _ _ _; rw [if_neg (show ¬ ((Value.builtin "range.__reversed__" == Value.none)=true) from vD)])
 refine wpAny_bind (wpAny_rule ?_)
 have hsz:Builtin.Range.rangeSize a b 1=if a < b then b - a else 0:=rangeSize_one a b
 refine wpAny_bind (m:=runValue (.call (.builtin "range.__reversed__") ⟨[.ref r],[]⟩)) (show wpAny _ _ (call (.builtin "range.__reversed__") [.ref r]) _ _ _ from
  call_meets F.slot_range_reversed hT F.entry_range_reversed (F.args_range_reversed_1 _) (ZmJ r a b 1 t u v ?_) ⟨hr,?_⟩)
 ·rw [xP,Bool.not_eq_false,kn (by omega) (by omega),kn (by omega) (by omega),kn (by decide) (by decide),kn (by decide) (by decide),kn (n:=a - 1) (by omega) (by omega),kn (n:=Builtin.Range.rangeSize a b 1) (by rw [hsz]; split <;> omega) (by rw [hsz]; split <;> omega)]
  rfl
 ·first
  | exact wpAny_pure h
  | exact wpAny_bind (wpAny_pure (wpAny_pure h))
theorem Zkf:isSubtype (.type "range_iterator") (.type "reversed")=pure false:=by rw [isSubtype_type]; kernel_rfl
theorem ZpL {r:Addr} {a b:Int} {t u v:Tok} {Q:zd} (hr:IsRange s.heap r a b 1 t u v) (ha:-(2 ^ 62)<=a) (ha':a < 2 ^ 62) (hb:-(2 ^ 62)<=b) (hb':b < 2 ^ 62)
  (h:Q (.ref s.heap.objs.size) { s with heap:=s.heap.push { cls:=.type "range_iterator",data:=.fields #[rawInt (a+(Builtin.Range.rangeSize a b 1 - 1) * 1),rawInt (Builtin.Range.rangeSize a b 1),rawInt (-1)] } }):wpAny (model prog w) A (call (.type "reversed") [.ref r]) Q E s:=by
 refine callType_other (U:="range_iterator") (Q₁:=λobj s₁=>obj=.ref s.heap.objs.size/\s₁={ s with heap:=s.heap.push { cls:=.type "range_iterator",data:=.fields #[rawInt (a+(Builtin.Range.rangeSize a b 1 - 1) * 1),rawInt (Builtin.Range.rangeSize a b 1),rawInt (-1)] } }) (by trivial) F.create_reversed ⟨_,_,F.mro_reversed⟩ F.made_reversed Zkf (F.typeCall_reversed_1 _) (ZpA hr ha ha' hb hb' ⟨rfl,rfl⟩) ?_
 rintro obj s₁ ⟨rfl,rfl⟩
 exact ⟨⟨_,vn _ rfl,rfl⟩,h⟩
end
theorem ZcI:Manifest.owners.lookup (String.ofList ['d','e','s','r','e','v','e','r'].reverse)=some Manifest.sig_reversed:=by kernel_rfl
theorem Zkl:Slot "reversed" "__init__" "object.__init__" :=
 .of (owner:="object") (n:="__init__") (by rw [typeLookup_type,builtinLookup_eq_fast]; kernel_rfl) (by trivial) (by trivial) (by trivial)
  (by first | exact .inl (by trivial) | exact .inr (by trivial)) (by rw [isSubtype_type]; kernel_rfl)
theorem kT:Slot "reversed" "__next__" "reversed.__next__" :=
 .of (owner:="reversed") (n:="__next__") (by rw [typeLookup_type,builtinLookup_eq_fast]; kernel_rfl) (by trivial) (by trivial) (by trivial)
  (by first | exact .inl (by trivial) | exact .inr (by trivial)) (by rw [isSubtype_type]; kernel_rfl)
theorem Zhw:entryFor table "reversed.__next__"=some Builtin.«reversed.__next__»:=entryFor_of_tree (by kernel_rfl)
theorem ZiM (a:Value):argsOk "reversed.__next__" ⟨[a],[]⟩:=by
 unfold argsOk; rw [signature?_of (id:="reversed.__next__") (n:=['_','_','t','x','e','n','_','_']) (o:=['d','e','s','r','e','v','e','r']) (by kernel_rfl) ZcI]; kernel_rfl
theorem ZaM:Slot "reversed" "__iter__" "reversed.__iter__" :=
 .of (owner:="reversed") (n:="__iter__") (by rw [typeLookup_type,builtinLookup_eq_fast]; kernel_rfl) (by trivial) (by trivial) (by trivial)
  (by first | exact .inl (by trivial) | exact .inr (by trivial)) (by rw [isSubtype_type]; kernel_rfl)
theorem Zqu (a:Value):argsOk "reversed.__iter__" ⟨[a],[]⟩:=by
 unfold argsOk; rw [signature?_of (id:="reversed.__iter__") (n:=['_','_','r','e','t','i','_','_']) (o:=['d','e','s','r','e','v','e','r']) (by kernel_rfl) ZcI]; kernel_rfl
theorem Zoa:entryFor table "reversed.__iter__"=some Builtin.«dict_keyiterator.__iter__» :=
 entryFor_alias (id':="dict_keyiterator.__iter__") (by kernel_rfl) (by first | rfl | decide +kernel | (unfold String.splitOn; simp +decide [String.splitOnAux])) (by trivial) (by kernel_rfl)
theorem ZpH:TypeCalled "reversed" "reversed.__new__" "object.__init__" :=
 ⟨by trivial,by trivial,⟨_,_,F.mro_reversed⟩,F.made_reversed,by trivial,by rw [isSubtype_type]; kernel_rfl,Zkl⟩
theorem Zmn:typeLookup (.type "tuple") "__reversed__"=pure none:=by rw [typeLookup_type,builtinLookup_eq_fast]; kernel_rfl
theorem ZmI (l:Addr) (items:Array Value) (hfit:(items.size:Int) < 2 ^ 63) :
  Meets (Builtin.«reversed.__new__» ⟨[.type "reversed",.ref l],[]⟩) (λ_ R s=>IsTup s.heap l items /\
   R (.ok (.ret (.ref s.heap.objs.size))) { s with heap:=s.heap.push { cls:=.type "reversed",data:=.fields #[.ref l,rawInt ((items.size:Int) - 1)] },toks:=s.toks+1+1 }) :=
 .of_wp λprog w A R s h=>by
  obtain ⟨hp,g,d,tk,os⟩:=s
  obtain ⟨hl,h⟩:=h
  have hl':(Shared.mk hp g d tk os).heap.IsTuple l items:=hl
  unfold Builtin.«reversed.__new__»
  refine wpAny_bind (wpAny_of_eq (newClass_reversed _) ?_)
  try dsimp only
  refine wpAny_bind (wpAny_of_eq (a:=()) (by first | rfl | kernel_rfl) ?_)
  refine wpAny_bind (wpAny_of_eq (a:=()) (by first | rfl | kernel_rfl) ?_)
  try dsimp only
  refine wpAny_bind (wpAny_specialOf hl'.typeIs Zmn ?_)
  try dsimp only
  refine wpAny_bind ?_
  show wpAny _ _ (isInstance (Value.ref l) (.type "dict") >>= _) _ _ _
  refine wpAny_bind (wpAny_isInstance (T:="tuple") (b:=false) hl'.typeIs (by rw [isSubtype_type]; kernel_rfl) ?_)
  show wpAny _ _ (specialOf (Value.ref l) "__getitem__" >>= _) _ _ _
  refine wpAny_bind (wpAny_specialOf hl'.typeIs F.slot_tuple_getitem.lookup ?_)
  refine wpAny_pure ?_
  show wpAny _ _ (call (Value.builtin "len") [Value.ref l] >>= _) _ _ _
  refine wpAny_bind (len_tuple hl hfit ?_)
  refine wpAny_bind (wpAny_of_eq (a:=some (items.size:Int)) rfl ?_)
  show wpAny _ _ (newObj (.type "reversed") (.fields #[.ref l,rawInt ((items.size:Int) - 1)]) >>= _) _ _ _
  refine wpAny_bind (wpAny_newObj_type ?_)
  exact wpAny_pure ⟨_,rfl,h⟩
def IsTRev (h:Heap) (a l:Addr) (i:Int):Prop:=∃ o,h.get? a=some o/\o.cls=.type "reversed"/\o.data=.fields #[.ref l,rawInt i]
theorem IsTRev.at {h h':Heap} {a l:Addr} {i:Int} (x:IsTRev h a l i) (e:∀ o,h.get? a=some o->h'.get? a=some o):IsTRev h' a l i:=let ⟨o,ho,r⟩:=x; ⟨o,e _ ho,r⟩
section
variable {prog:Program} {w:World} {A:Around} {E:zd} {s:Shared}
theorem ZpK {l:Addr} {items:Array Value} {Q:zd} (hl:IsTup s.heap l items) (hfit:(items.size:Int) < 2 ^ 63)
  (h:Q (.ref s.heap.objs.size) { s with heap:=s.heap.push { cls:=.type "reversed",data:=.fields #[.ref l,rawInt ((items.size:Int) - 1)] },toks:=s.toks+1+1 }) :
  wpAny (model prog w) A (call (.type "reversed") [.ref l]) Q E s :=
 callType_new ZpH (by decide) (F.typeCall_reversed_1 _) (F.newCall_reversed_1 _) (λobj=>yw obj _) F.entry_reversed_new (ZmI l items hfit) ⟨hl,⟨_,vn _ rfl,rfl⟩,h⟩
theorem Zlf {it l:Addr} {i:Nat} {items:Array Value} {x:Value} {Q:Option Value->Shared->Prop} (hit:IsTRev s.heap it l (i:Int)) (hl:IsTup s.heap l items) (hne:l≠it) (hx:items[i]?=some x) (hfit:(items.size:Int) < 2 ^ 63)
  (hQ:∀ h',IsTRev h' it l ((i:Int) - 1)->Heap.SameBut it s.heap h'->Q (some x) { s with heap:=h',toks:=s.toks+1 }):wpAny (model prog w) A (pyNext (.ref it)) Q E s:=by
 obtain ⟨o,ho,hc,hd⟩:=id hit
 have hT:s.TypeIs (.ref it) "reversed":=⟨o,ho,hc⟩
 have hl':s.heap.IsTuple l items:=hl
 have hlt:i < items.size:=(yK.mp hx).1
 unfold pyNext
 refine wpAny_bind (wpAny_attempt (wpAny_callSpecial?_slot (name:=Str.ofString "__next__") hT kT
  (wpAny_call_entry kT hT Zhw ?_ (ZiM _))))
 unfold Builtin.«reversed.__next__»
 refine wpAny_bind (wpAny_of_eq (a:=(Value.ref it,[])) rfl ?_)
 try dsimp only
 refine wpAny_bind (wpAny_field ho hd (x:=.ref l) rfl ?_)
 refine wpAny_bind (wpAny_field ho hd (x:=rawInt (i:Int)) rfl ?_)
 show wpAny _ _ (if (i:Int) < 0 then _ else _) _ _ s
 rw [if_neg (by omega)]
 refine wpAny_bind (wpAny_specialOf hl'.typeIs F.slot_tuple_getitem.lookup ?_)
 show wpAny _ _ (mkInt (i:Int) >>= _) _ _ s
 refine wpAny_bind (wpAny_mkInt ?_)
 refine wpAny_bind (wpAny_attempt (getItem_tuple (j:=i) (x:=x) hl (by omega) (by omega) ?_ hx ?_))
 ·unfold seqIndex?
  simp
  omega
 ·dsimp only
  refine wpAny_bind (wpAny_field ho hd (x:=rawInt (i:Int)) rfl ?_)
  show wpAny _ _ (setField (.ref it) 1 (rawInt ((i:Int) - 1)) >>= _) _ _ _
  refine wpAny_bind (wpAny_setField ho hd (by simp) ?_)
  refine wpAny_pure ⟨x,rfl,wpAny_pure (hQ _ ?_ (xm ..))⟩
  exact ⟨_,wU _ ho (yo (xb hd _)),(Obj.cls_mapFields ..).trans hc,by
   rw [xb hd]; simp⟩
theorem Zlg {it l:Addr} {Q:Option Value->Shared->Prop} (hh:A.handled=none) (hit:IsTRev s.heap it l (-1))
  (hQ:∀ h',Heap.ExtBut it s.heap h'->Q none { s with heap:=h' }):wpAny (model prog w) A (pyNext (.ref it)) Q E s:=by
 obtain ⟨o,ho,hc,hd⟩:=id hit
 have hT:s.TypeIs (.ref it) "reversed":=⟨o,ho,hc⟩
 unfold pyNext
 refine wpAny_bind (wpAny_attempt (wpAny_callSpecial?_slot (name:=Str.ofString "__next__") hT kT
  (wpAny_call_entry kT hT Zhw ?_ (ZiM _))))
 unfold Builtin.«reversed.__next__»
 refine wpAny_bind (wpAny_of_eq (a:=(Value.ref it,[])) rfl ?_)
 try dsimp only
 refine wpAny_bind (wpAny_field ho hd (x:=.ref l) rfl ?_)
 refine wpAny_bind (wpAny_field ho hd (x:=rawInt (-1)) rfl ?_)
 show wpAny _ _ (if (-1:Int) < 0 then _ else _) _ _ s
 rw [if_pos (by decide)]
 refine wpAny_bind (wpAny_rule ?_)
 refine wpAny_bind ?_
 show wpAny _ _ (setField (.ref it) 1 (rawInt (-1)) >>= _) _ _ _
 refine wpAny_bind (wpAny_setField ho hd (by simp) ?_)
 have ho2:=wU (Obj.mapFields λx_1=>x_1.setIfInBounds 1 (rawInt (-1))) ho (yo (xb hd _))
 refine wpAny_setField ho2 (xb hd _) (by simp) ?_
 have eb:Heap.ExtBut it s.heap ((s.heap.update it (Obj.mapFields λx_1=>x_1.setIfInBounds 1 (rawInt (-1)))).update it (Obj.mapFields λx_1=>x_1.setIfInBounds 0 Value.none)):=λb o' hb e=>(xm _ _ _).extBut b o' hb ((xm _ _ _).extBut b o' hb e)
 show wpAny _ _ (newExc (.type "StopIteration") [] >>= _ >>= _) _ _ _
 refine wpAny_bind ?_
 refine wpAny_bind ?_
 simp only [newExc,newTuple]
 refine wpAny_bind (wpAny_newObj_type ?_ (by size_fits))
 refine wpAny_bind (m:=firstArgMember _ _) (wpAny_of_eq (a:=Value.none) (by first | rfl | (simp only [firstArgMember]; rfl)) ?_)
 refine wpAny_newObj_type ?_ (by size_fits)
 simp only [raiseNew]
 refine wpAny_bind (wpAny_handled ?_)
 first | rw [show A.in1.handled=none from hh] | rw [hh]
 refine wpAny_bind (wpAny_pure (wpAny_throw ?_))
 refine wpAny_bind (wpAny_isInstance (T:="StopIteration") (b:=true) ⟨_,vn _ rfl,rfl⟩ isSubtype_stop ?_)
 exact wpAny_pure (hQ _ ((eb.push _).push _))
theorem Zct {it l:Addr} {i:Int} {Q:zd} (hit:IsTRev s.heap it l i) (h:Q (.ref it) s):wpAny (model prog w) A (pyIter (.ref it)) Q E s:=by
 obtain ⟨o,ho,hc,hd⟩:=id hit
 have hT:s.TypeIs (.ref it) "reversed":=⟨o,ho,hc⟩
 refine wpAny_pyIter_slot hT ZaM (wpAny_call_entry ZaM hT Zoa ?_ (Zqu _))
 show wpAny _ _ (ret (.ref it)) _ _ s
 exact wpAny_pure ⟨_,rfl,"reversed",_,hT,kT.lookup,h⟩
end
noncomputable def kO (b:Bool) (l:Addr) (n:Nat):It :=
 ⟨λi H=>i < n/\∃ xs,H l=some (bm b xs)/\xs.length=n,λi H x H'=>H'=H/\∃ xs,H l=some (bm b xs)/\xs[n - 1 - i]?=some x,λi _=>i=n⟩
def RvAt (b:Bool) (h:Heap) (it l:Addr) (i:Int):Prop:=match b with
 | true=>h.IsRevIter it l i
 | false=>IsTRev h it l i
theorem RvAt.there {b:Bool} {h:Heap} {it l:Addr} {i:Int} (x:RvAt b h it l i):∃ o n vs,h.get? it=some o/\o.cls=.type n/\o.data=.fields vs/\["enumerate","zip","dict_itemiterator","dict_reverseitemiterator","odict_iterator","itertools.zip_longest","itertools.pairwise"].contains n=false:=by
 cases b with
 | true=>obtain ⟨o,h1,h2,h3⟩:=x; exact ⟨o,_,_,h1,h2,h3,by decide⟩
 | false=>obtain ⟨o,h1,h2,h3⟩:=x; exact ⟨o,_,_,h1,h2,h3,by decide⟩
theorem RvAt.at {b:Bool} {h h':Heap} {it l:Addr} {i:Int} (x:RvAt b h it l i) (e:∀ o,h.get? it=some o->h'.get? it=some o):RvAt b h' it l i:=by
 cases b with
 | true=>exact Heap.IsRevIter.at x e
 | false=>exact IsTRev.at x e
theorem Zao {P:Program} {w:World} {K:yY} {tg:Expr} {b:Bool} {l:Addr} {n:Nat} (it:Addr) (hn:(n:Int) < 2 ^ 63):Turn P w K tg (kO b l n) [it] it (λi h=>RvAt b h it l ((n:Int) - 1 - (i:Nat))) where
 mem:=by simp
 obj:=λi h st c hb=>by
  have e:c=it:=by simpa using hb
  subst e
  obtain ⟨o,_,_,h1,_,h3,_⟩:=st.there
  exact ⟨o,h1,λv z=>by rw [h3] at z; cases z⟩
 keep:=λi h h' st k=>st.at λo e=>k it (by simp) o e
 item:=by
  intro X hP hw hK hc i pins s σ H E I hf st hg
  subst hP hw hK
  obtain ⟨hi,xs,e1,hlen⟩:=hg
  obtain ⟨us,r1,q1⟩:=dl I.hok e1
  obtain ⟨f0,f1,f2,f3,f4,f5⟩:=hf it (by simp)
  have hxl:n - 1 - i < xs.length:=by omega
  have hx:xs[n - 1 - i]?=some xs[n - 1 - i]:=vx hxl
  obtain ⟨u,hu,ru⟩:=r1.get hx
  have ne:l≠it:=cT e1 f0
  have ei:(n:Int) - 1 - (i:Nat)=((n - 1 - i:Nat):Int):=by omega
  have ei2:((n - 1 - i:Nat):Int) - 1=(n:Int) - 1 - ((i+1:Nat):Int):=by omega
  rw [ei] at st
  have usz:us.toArray.size=n:=by rw [vq,<- r1.length]; exact hlen
  have fin:∀ (h':Heap) (tk:Nat),RvAt b h' it l ((n:Int) - 1 - ((i+1:Nat):Int))->Heap.SameBut it s.heap h'->∃ u',some u=some u'/\wpAny (model X.prog X.w) X.A (letOwnedTupleGo tg (.ref it) u') (λ_ s2=>∃ x H',Inv X pins σ H' s2/\RelV x u'/\(kO b l n).yld i H x H'/\RvAt b s2.heap it l ((n:Int) - 1 - ((i+1:Nat):Int))/\∀ b∈[it],H' b=none) E { s with heap:=h',toks:=tk }:=λh' tk st' sb=>by
   have I1:Inv X pins σ H { s with heap:=h',toks:=tk }:=I.turned (λb o hb e=>(sb.2 b hb).trans e) f0 f1 f3 f4 f5
   obtain ⟨o,nm,vs,g1,g2,g3,g4⟩:=st'.there
   exact ⟨u,rfl,l6 (s:={ s with heap:=h',toks:=tk }) g1 g2 g3 g4 ⟨_,H,I1,ru,⟨rfl,xs,e1,hx⟩,st',λb hb=>(hf b hb).1⟩⟩
  cases b with
  | true =>
   refine wpAny_pyNext_rev_item (i:=n - 1 - i) st q1 (x:=u) (by simpa using hu) λh' st' sb=>?_
   rw [ei2] at st'
   exact fin h' s.toks st' sb
  | false =>
   refine Zlf (i:=n - 1 - i) st q1 ne (x:=u) (by simpa using hu) (by rw [usz]; exact hn) λh' st' sb=>?_
   rw [ei2] at st'
   exact fin h' (s.toks+1) st' sb
 done:=by
  intro X hP hw hK hc i pins s σ H E I hf st hg
  subst hP hw hK
  obtain ⟨f0,f1,f2,f3,f4,f5⟩:=hf it (by simp)
  have hi:i=n:=hg
  subst hi
  have e:(i:Int) - 1 - (i:Nat)=-1:=by omega
  rw [e] at st
  cases b with
  | true=>exact wpAny_pyNext_rev_end (I.ok.hd hc) st λh' eb=>⟨rfl,I.turned (t':=s.toks) (λb o hb e=>eb b o hb e) f0 f1 f3 f4 f5⟩
  | false=>exact Zlg (I.ok.hd hc) st λh' eb=>⟨rfl,I.turned (t':=s.toks) (λb o hb e=>eb b o hb e) f0 f1 f3 f4 f5⟩
 self:=λ_ _ _ _ _ st h=>by
  cases b with
  | true=>exact wpAny_pyIter_revIter st h
  | false=>exact Zct st h
section
variable {X:Cx} {tg:Expr} {PK:Pk} {a b:Expr} {i j:yZ} {p pos:Pos}
def oS (ta:TE):TI:=λσ H R=>ta σ H λx H1=>(∃ b l xs,x=.ref l/\H1 l=some (bm b xs)/\R (kO b l xs.length) H1) \/
 (∃ l lo hi,x=.ref l/\H1 l=some (.rng lo hi)/\-(2 ^ 62)<=lo/\lo < 2 ^ 62/\-(2 ^ 62)<=hi/\hi < 2 ^ 62/\R (jB (lo+(hi - lo).toNat - 1) (hi - lo).toNat) H1)
theorem su {ta:TE} (hg:Gl X "reversed") (hm:X.mg "reversed"=none) (ha:PE X a ta)
  (hs:starEach [a] X.env=[(false,eval a X.env)]:=by rfl):PI X tg (.Call (.Name "reversed" p) [a] [] pos) (oS ta):=by
 intro pins s σ H R I h
 have hab:PA X [a] (fk ta a9):=bH ha cC (by rw [hs]; rfl)
 have h':fk ta a9 σ H λvs H1=>∃ x,vs=[x]/\((∃ b l xs,x=.ref l/\H1 l=some (bm b xs)/\R (kO b l xs.length) H1) \/
   (∃ l lo hi,x=.ref l/\H1 l=some (.rng lo hi)/\-(2 ^ 62)<=lo/\lo < 2 ^ 62/\-(2 ^ 62)<=hi/\hi < 2 ^ 62/\R (jB (lo+(hi - lo).toNat - 1) (hi - lo).toNat) H1)):=by
  have h0:ta σ H λx H1=>(∃ b l xs,x=.ref l/\H1 l=some (bm b xs)/\R (kO b l xs.length) H1) \/
   (∃ l lo hi,x=.ref l/\H1 l=some (.rng lo hi)/\-(2 ^ 62)<=lo/\lo < 2 ^ 62/\-(2 ^ 62)<=hi/\hi < 2 ^ 62/\R (jB (lo+(hi - lo).toNat - 1) (hi - lo).toNat) H1):=h
  refine cast (congrArg (ta σ H) ?_) h0
  funext x H1
  apply propext
  constructor
  ·exact λq=>⟨x,rfl,q⟩
  ·rintro ⟨y,e,q⟩
   have e':x=y:=by simpa using e
   subst e'
   exact q
 refine Call_ (ir I hg hm boot_reversed (wp (thn (hab pos pins s σ H _ I h') λus s1 hz0=>?_) (by rw [hs]; rfl) rfl))
 obtain ⟨vs,H1,I1,r1,q1⟩:=hz0
 obtain ⟨x,rfl,q1⟩:=q1
 obtain ⟨u,rfl,ru⟩:=fi r1
 have fp:∀ c∈[s1.heap.objs.size],fV X pins H1 c:=λc hb=>by
  have e:c=s1.heap.objs.size:=by simpa using hb
  subst e
  exact I1.fpOk (vo _) (I1.hok.fresh (vo _))
 have hn:=iq
 rcases q1 with ⟨b,l,xs,rfl,e1,q⟩ | ⟨l,lo,hi,rfl,e1,b1,b2,b3,b4,q⟩
 ·cases ru
  obtain ⟨us,r2,q2⟩:=dl I1.hok e1
  have usz:us.toArray.size=xs.length:=by rw [vq,<- r2.length]
  have hz:xs.length<=sizeLine:=by
   cases b with
   | true=>exact (I1.hok _ _ e1).1
   | false=>exact (I1.hok _ _ e1).1
  cases b with
  | true =>
   refine call_reversed_list q2 (wpAny_pyIter_revIter ⟨_,vn _ rfl,rfl,rfl⟩ ?_)
   refine ⟨_,_,_,_,H1,rfl,I1.kept (t':=s1.toks) λb o e=>vc _ e,Zao (b:=true) (l:=l) (n:=xs.length) s1.heap.objs.size (by omega),?_,fp,q⟩
   refine ⟨_,vn _ rfl,rfl,?_⟩
   rw [usz]
   show Data.fields #[_,rawInt ((xs.length:Int) - 1)]=Data.fields #[_,rawInt ((xs.length:Int) - 1 - ((0:Nat):Int))]
   simp
  | false =>
   refine ZpK q2 (by rw [usz]; omega) (Zct ⟨_,vn _ rfl,rfl,rfl⟩ ?_)
   refine ⟨_,_,_,_,H1,rfl,I1.kept (t':=s1.toks+1+1) λb o e=>vc _ e,Zao (b:=false) (l:=l) (n:=xs.length) s1.heap.objs.size (by omega),?_,fp,q⟩
   refine ⟨_,vn _ rfl,rfl,?_⟩
   rw [usz]
   show Data.fields #[_,rawInt ((xs.length:Int) - 1)]=Data.fields #[_,rawInt ((xs.length:Int) - 1 - ((0:Nat):Int))]
   simp
 ·cases ru
  obtain ⟨t,u,v,e⟩:=I1.hok _ _ e1
  have hsz:Builtin.Range.rangeSize lo hi 1=((hi - lo).toNat:Int):=by rw [rangeSize_one]; split <;> omega
  refine ZpL e b1 b2 b3 b4 (wpAny_pyIter_rangeiter (vn _ rfl) ?_)
  refine ⟨_,_,_,_,H1,rfl,I1.kept (t':=s1.toks) λb o e=>vc _ e,Zjx s1.heap.objs.size (lo+(hi - lo).toNat - 1) (hi - lo).toNat,?_,fp,q⟩
  rw [hsz]
  have e1:lo+(((hi - lo).toNat:Int) - 1) * 1=lo+(hi - lo).toNat - 1+((0:Nat):Int) * (-1):=by simp; omega
  have e2:((hi - lo).toNat:Int)=((hi - lo).toNat:Int) - ((0:Nat):Int):=by simp
  rw [e1]
  show IsRangeIter _ _ _ (((hi - lo).toNat:Int) - ((0:Nat):Int)) (-1)
  rw [<- e2]
  exact vn _ rfl
end
end L2
set_option Elab.async false
set_option linter.all false
set_option maxRecDepth 100000
namespace L2
section
variable {X:Cx} {tg:Expr} {PK:Pk} {e:Expr} {i j:yZ} {is:y4} {p pos:Pos}
theorem Znp {pa:Addr} {G:Hp} {b:Bool} {l:Addr} {us:zi} {xs:ze} (h1:G l=some (bm b us)) (d1:DnAll G us xs):iG PK pa (kO b l us.length) G xs.reverse:=λm G2 H2 sb w=>by
 have e1:H2 l=some (bm b us):=w.sub _ _ (sb _ _ h1)
 have hlen:us.length=xs.length:=d1.length
 refine ⟨λn d hd=>?_,by show xs.reverse.length=us.length; rw [wb,hlen]⟩
 have hn:n < xs.length:=by
  have:=(vf.mp hd).1
  rwa [wb] at this
 have hd':xs[xs.length - 1 - n]?=some d:=by
  rw [wY hn] at hd
  exact hd
 refine ⟨⟨by omega,us,e1,rfl⟩,λy H3 hz0=>?_⟩
 obtain ⟨eH,vs,f1,hy⟩:=hz0
 subst eH
 rw [e1] at f1
 have:=oU f1
 subst this
 rw [hlen] at hy
 obtain ⟨v,hv,dv⟩:=d1.get _ hd'
 rw [hv] at hy
 cases hy
 exact ⟨G2,.refl,w,dv.mono sb⟩
noncomputable def uR (i:yZ):y4:=λρ=>(i ρ).bind λx=>(Tr.of (fN x)).bind λxs=>.ret xs.reverse
theorem ZqG {iter:Expr} (h:PI X tg iter (oS (TAe PK i))):PI X tg iter (eN PK (uR i)):=h.imp λσ H R0 hz0=>by
 obtain ⟨pa,zm,H₀,m,ρ,G,R,z⟩:=hz0
 refine TAe.then R z λm1 x v G1 H1 s1 w1 R1 d1 q1=>?_
 rw [Tr.ok_bind] at q1
 obtain ⟨xs,hx,q1⟩:=Tr.ok_of q1
 obtain ⟨b1,l1,us,rfl,e1,f1⟩:=l5 d1 hx
 exact .inl ⟨b1,l1,us,rfl,w1.sub _ _ e1,q1 _ G1 H1 s1 w1 (Znp e1 f1)⟩
theorem ZpM:dE X (.type "range") (λxs H Q=>∃ j:Int,xs=[.int j]/\∀ p,H p=none->Q (.ref p) (upd H p (.rng 0 j))):=by
 intro pins s σ H xs us Q I r h
 obtain ⟨j,rfl,q⟩:=h
 cases r with
 | cons r1 rr =>
  cases rr
  obtain ⟨t,rfl⟩:=r1
  refine call_range_1 ?_
  exact ⟨.ref s.heap.objs.size,_,I.laid (t':=s.toks+1+1) (λb o e=>vc _ e) (vo _) (show ObjOk X.prog X.w _ _ _ (.rng 0 j) from ⟨s.toks,t,s.toks+1,vn _ rfl⟩),rfl,q _ (I.hok.fresh (vo _))⟩
theorem ZdG {pa:Addr} {G:Hp} {lo:Int} {n:Nat}:iG PK pa (jB (lo+n - 1) n) G ((aG lo n).map PyData.int).reverse:=λm G2 H2 sb w=>by
 have hl:((aG lo n).map PyData.int).length=n:=by rw [vd,fY]
 refine ⟨λk x hx=>?_,by show n<=_; rw [wb,hl]; exact vo _⟩
 have hk:k < n:=by
  have:=(vf.mp hx).1
  rwa [wb,hl] at this
 refine ⟨hk,λy H3 hz0=>?_⟩
 obtain ⟨e1,e2⟩:=hz0
 subst e1 e2
 have:x=.int (lo+n - 1 - k):=by
  rw [wY (by rw [hl]; exact hk),hl] at hx
  unfold aG at hx
  rw [vH,vg,vF (by omega)] at hx
  cases hx
  show PyData.int (lo+((n - 1 - k:Nat):Int))=_
  congr 1
  omega
 subst this
 exact ⟨G2,.refl,w,.int _⟩
noncomputable def uQ (is:y4):y4:=λρ=>(is ρ).bind λxs=>(Tr.of (jR xs)).bind λys=>.ret ys.reverse
noncomputable def uP (is:y4):y4:=λρ=>(is ρ).bind λxs=>(Tr.of (jQ xs)).bind λys=>.ret ys.reverse
def ZjP (t:TA):TE:=fo (λxs H Q=>∃ j:Int,xs=[.int j]/\∀ p,H p=none->Q (.ref p) (upd H p (.rng 0 j))) t
def ZjO (t:TA):TE:=fo (λxs H Q=>∃ i j:Int,xs=[.int i,.int j]/\∀ p,H p=none->Q (.ref p) (upd H p (.rng i j))) t
theorem ZqF {iter:Expr} (h:PI X tg iter (oS (ZjP (TAd PK is)))):PI X tg iter (eN PK (uQ is)):=h.imp λσ H R0 hz0=>by
 obtain ⟨pa,zm,H₀,m,ρ,G,R,z⟩:=hz0
 refine TAd.then R z λm1 xs vs G1 H1 s1 w1 R1 d1 q1=>?_
 rw [Tr.ok_bind] at q1
 obtain ⟨ys,hy,q1⟩:=Tr.ok_of q1
 obtain ⟨n,e,h1,h2,rfl⟩:=ZbS d1 hy
 refine ⟨n,e,λp hp=>?_⟩
 obtain ⟨w2,s2⟩:=w1.own (o:=.rng 0 n) hp
 refine .inr ⟨p,0,n,rfl,ce,by decide,by decide,h1,h2,?_⟩
 have q:=q1 (jB (0+(n - 0).toNat - 1) (n - 0).toNat) G1 _ (s1.trans s2 w1.some) w2
 unfold aN at q
 exact q ZdG
theorem ZqE {iter:Expr} (h:PI X tg iter (oS (ZjO (TAd PK is)))):PI X tg iter (eN PK (uP is)):=h.imp λσ H R0 hz0=>by
 obtain ⟨pa,zm,H₀,m,ρ,G,R,z⟩:=hz0
 refine TAd.then R z λm1 xs vs G1 H1 s1 w1 R1 d1 q1=>?_
 rw [Tr.ok_bind] at q1
 obtain ⟨ys,hy,q1⟩:=Tr.ok_of q1
 obtain ⟨k,n,e,⟨h1,h2,h3,h4⟩,rfl⟩:=ZbR d1 hy
 refine ⟨k,n,e,λp hp=>?_⟩
 obtain ⟨w2,s2⟩:=w1.own (o:=.rng k n) hp
 refine .inr ⟨p,k,n,rfl,ce,h1,h2,h3,h4,?_⟩
 exact q1 (jB (k+(n - k).toNat - 1) (n - k).toNat) G1 _ (s1.trans s2 w1.some) w2 ZdG
end
section
variable {X:Cx} {PK:Pk} {i n:yZ}
end
section
variable {prog:Program} {w:World} {A:Around} {E:zd} {s:Shared}
end
section
variable {X:Cx} {PK:Pk} {e st:Expr} {te ts:TE} {i j:yZ} {p2 pos:Pos}
end
end L2
set_option Elab.async false
set_option linter.all false
set_option maxRecDepth 100000
namespace L2
abbrev iF (h0 h:Heap):Prop:=∀ c o,h0.get? c=some o->h.get? c=some o
noncomputable def Zi6 (prog:Program) (w:World) (A:Around) (h0:Heap) (P:Nat->Value->Prop) (bt:Nat->Nat->Bool):Prop :=
 ∀ i j vi vj (s:Shared) (Q:zd) (E:zd),j < i->iF h0 s.heap->P i vi->P j vj->Q (.bool (bt i j)) s->wpAny (model prog w) A (richCompare .Lt vi vj) Q E s
theorem ZiN (bt:Nat->Nat->Bool):∀ j,argBest bt j<=j
 | 0=>vo _
 | j+1=>by
  have:=ZiN bt j
  unfold argBest
  split <;> omega
section
variable {prog:Program} {w:World} {A:Around} {R:Result->Shared->Prop} {I S:Addr} {fp wr:List Addr} {n:Nat} {P:Nat->Value->Prop} {St:Nat->Heap->Prop} {h0:Heap}
theorem nY:(toString "min"++toString ".loop":String)="min.loop":=by decide
theorem ZmF (W:Walks prog w A.in1 I fp wr n P St) (bt:Nat->Nat->Bool) (hcmp:Zi6 prog w A.in1 h0 P bt) (hSf:S ∉ fp) (h0w:∀ c o,h0.get? c=some o->c ∉ wr/\c≠S) :
  ∀ (k j:Nat) (s:Shared) (vb:Value) (c:Nat),n - (j+1)=k->j+1<=n->iF h0 s.heap->St (j+1) s.heap->P (argBest bt j) vb ->
  s.heap.get? S=some { cls:=.type "list",data:=.seq #[vb,vb] c } ->
  (∀ v h' tk,P (argBest bt (n - 1)) v->(∀ b o,b ∉ wr->b≠S->s.heap.get? b=some o->h'.get? b=some o)->R (.ok (.ret v)) { s with heap:=h',toks:=tk }) ->
  codeAny (model prog w) A (.builtin "min.loop" ⟨[.ref I,.none,.ref S],[]⟩) R s:=by
 have hSw:S ∉ wr:=λh=>hSf (W.sub _ h)
 intro k
 induction k with
 | zero =>
  intro j s vb c hk hj kp hst hPb hS hR
  have hin:j+1=n:=by omega
  refine codeAny_builtin yX (by
   rw [wH w6 _]
   show wpAny _ A.in1 (seqItems? (.ref S) >>= _) _ _ s
   refine wpAny_bind (wpAny_seqItems hS rfl ?_)
   show wpAny _ A.in1 (tryCatch (pyNext (.ref I)) _ >>= _) _ _ s
   refine wpAny_bind (wpAny_tryCatch (W.done s _ _ (hin ▸ hst) λh' tk hk'=>?_))
   have hS':=hk' S _ hSw hS
   show wpAny _ A.in1 (updateSeq S (λ_=>#[]) >>= _) _ _ _
   refine wpAny_bind (wpAny_updateSeq hS' rfl (wpAny_bind (wpAny_letGo (wpAny_pure ?_))))
   exact hR vb _ tk (by rw [<- hin]; exact hPb) λb o hbw hbS e=>(wf _ _ (Ne.symm hbS)).trans (hk' b o hbw e))
 | succ k ih =>
  intro j s vb c hk hj kp hst hPb hS hR
  have hlt:j+1 < n:=by omega
  refine codeAny_builtin yX (by
   rw [wH w6 _]
   show wpAny _ A.in1 (seqItems? (.ref S) >>= _) _ _ s
   refine wpAny_bind (wpAny_seqItems hS rfl ?_)
   show wpAny _ A.in1 (tryCatch (pyNext (.ref I)) _ >>= _) _ _ s
   refine wpAny_bind (wpAny_tryCatch (W.item (j+1) s _ _ hlt hst λv h' tk hP hst' hk'=>?_))
   have hS':=hk' S _ hSw hS
   have kp':iF h0 h':=λc o e=>hk' c o (h0w c o e).1 (kp c o e)
   show wpAny _ A.in1 (tryCatch (holding [v,v] (richCompare .Lt v vb >>= _)) _ >>= _) _ _ _
   refine wpAny_bind (wpAny_tryCatch (wpAny_holding (wpAny_bind (hcmp (j+1) (argBest bt j) v vb _ _ _ (Nat.lt_succ_of_le (ZiN bt j)) kp' hP hPb (wpAny_bind (wpAny_holding (wpAny_truthy_bool (wpAny_bind (wpAny_letGo (wpAny_pure ?_))))))))))
   cases hb:bt (j+1) (argBest bt j) with
   | true =>
    simp only [if_true]
    refine wpAny_bind (wpAny_updateSeq hS' rfl (wpAny_bind (wpAny_letGo ?_)))
    rw [nY]
    refine wpAny_pure ⟨plainId_quiet w6 _,ih (j+1) _ v _ (by omega) hlt (λc o e=>(wf _ _ (Ne.symm (h0w c o e).2)).trans (kp' c o e)) (W.frame _ _ _ hst' λb hbf o e=>?_) (by simp only [argBest,hb,if_true]; exact hP) (wU _ hS' rfl)
     λv' h'' tk'' hP' hk''=>hR v' h'' tk'' hP' λb o hbw hbS e=>hk'' b o hbw hbS ((wf _ _ (Ne.symm hbS)).trans (hk' b o hbw e))⟩
    exact (wf _ _ (λh:S=b=>hSf (by rw [h]; exact hbf))).trans e
   | false =>
    simp only [xF,if_false]
    refine wpAny_bind (wpAny_letGo ?_)
    rw [nY]
    exact wpAny_pure ⟨plainId_quiet w6 _,ih (j+1) _ vb c (by omega) hlt kp' hst' (by simp only [argBest,hb,xF,if_false]; exact hPb) hS' λv' h'' tk'' hP' hk'' =>
     hR v' h'' tk'' hP' λb o hbw hbS e=>hk'' b o hbw hbS (hk' b o hbw e)⟩)
theorem ZmG (W:Walks prog w A.in1 I fp wr n P St) (bt:Nat->Nat->Bool) (hcmp:Zi6 prog w A.in1 h0 P bt) (hSf:S ∉ fp) (h0w:∀ c o,h0.get? c=some o->c ∉ wr/\c≠S) (hn:0 < n) {s:Shared} {c:Nat} (kp:iF h0 s.heap) (hst:St 0 s.heap)
  (hS:s.heap.get? S=some { cls:=.type "list",data:=.seq #[] c })
  (hR:∀ v h' tk,P (argBest bt (n - 1)) v->(∀ b o,b ∉ wr->b≠S->s.heap.get? b=some o->h'.get? b=some o)->R (.ok (.ret v)) { s with heap:=h',toks:=tk }) :
  codeAny (model prog w) A (.builtin "min.loop" ⟨[.ref I,.none,.ref S],[]⟩) R s:=by
 have hSw:S ∉ wr:=λh=>hSf (W.sub _ h)
 refine codeAny_builtin yX (by
  rw [wH w6 _]
  show wpAny _ A.in1 (seqItems? (.ref S) >>= _) _ _ s
  refine wpAny_bind (wpAny_seqItems hS rfl ?_)
  show wpAny _ A.in1 (tryCatch (pyNext (.ref I)) _ >>= _) _ _ s
  refine wpAny_bind (wpAny_tryCatch (W.item 0 s _ _ hn hst λv h' tk hP hst' hk'=>?_))
  have hS':=hk' S _ hSw hS
  have kp':iF h0 h':=λc o e=>hk' c o (h0w c o e).1 (kp c o e)
  show wpAny _ A.in1 (updateSeq S (λ_=>#[v,v]) >>= _) _ _ _
  refine wpAny_bind (wpAny_updateSeq hS' rfl ?_)
  rw [nY]
  refine wpAny_pure ⟨plainId_quiet w6 _,ZmF W bt hcmp hSf h0w _ 0 _ v _ rfl hn (λc o e=>(wf _ _ (Ne.symm (h0w c o e).2)).trans (kp' c o e)) (W.frame _ _ _ hst' λb hbf o e=>?_) hP (wU _ hS' rfl)
   λv' h'' tk'' hP' hk''=>hR v' h'' tk'' hP' λb o hbw hbS e=>hk'' b o hbw hbS ((wf _ _ (Ne.symm hbS)).trans (hk' b o hbw e))⟩
  exact (wf _ _ (λh:S=b=>hSf (by rw [h]; exact hbf))).trans e)
end
section
variable {prog:Program} {w:World} {A:Around} {E:zd} {s:Shared}
theorem ZmE {a b:Value} {Q:zd} {c:Bool} (hh:A.handled=none) (hcmp:∀ (s':Shared) (Q:zd) (E:zd),iF s.heap s'.heap->Q (.bool c) s'->wpAny (model prog w) A.in1 (richCompare .Lt b a) Q E s')
  (h:∀ h' tk,iF s.heap h'->Q (if c=true then b else a) { s with heap:=h',toks:=tk }):wpAny (model prog w) A (call (.builtin "min") [a,b]) Q E s:=by
 refine call_function_tree F.kind_min F.plain_min F.entry_min (F.args_min2 _ _) (by
  show wpAny _ A.in1 (Builtin.Builtins.bindParams "min" ["key","default"] 0 ⟨[],[]⟩ >>= _) _ _ s
  refine wpAny_bind (wpAny_of_eq (a:=[none,none]) rfl ?_)
  show wpAny _ A.in1 (newTuple [a,b] >>= _) _ _ s
  refine wpAny_bind (wpAny_newObj_type ?_)
  have hT:(s.heap.push { cls:=.type "tuple",data:=.seq #[a,b] }).IsTuple s.heap.objs.size #[a,b]:=⟨_,vn _ rfl,rfl,0,rfl⟩
  have hsz:(s.heap.push { cls:=.type "tuple",data:=.seq #[a,b] }).objs.size=s.heap.objs.size+1:=we ..
  have hgk:iF s.heap (s.heap.push { cls:=.type "tuple",data:=.seq #[a,b] }):=λc o e=>vc _ e
  generalize (s.heap.push { cls:=.type "tuple",data:=.seq #[a,b] })=g at hT hsz hgk ⊢
  refine wpAny_bind (wpAny_pyIter_tuple hT (wpAny_bind (wpAny_newObj_type ?_)))
  rw [nY]
  have hlt:∀ {c:Nat} {o:Obj},s.heap.get? c=some o->c < s.heap.objs.size:=λe=>vE e
  have hsz2:∀ ob:Obj,(g.push ob).objs.size=s.heap.objs.size+2:=λob=>by rw [we,hsz]
  have W:=Walks.tuple (prog:=prog) (w:=w) (A:=A.in1) hh g.objs.size s.heap.objs.size (by rw [hsz]; exact vM (xW _)) #[a,b]
  refine wpAny_pure ⟨plainId_quiet w6 _,ZmG (A:=A) (h0:=s.heap) W (λi j=>if i=1/\j=0 then c else false) ?_ ?_ ?_ (show 0 < 2 by decide) ?_ ⟨?_,?_⟩ (vn _ rfl) ?_⟩
  ·intro i j vi vj s' Q' E' hji kp hi hj hq
   have hi2:i < 2:=by
    have:=(yK.mp hi).1
    simpa using this
   have e1:i=1:=by omega
   have e2:j=0:=by omega
   subst e1 e2
   have e3:b=vi:=by simpa using hi
   have e4:a=vj:=by simpa using hj
   subst e3 e4
   exact hcmp s' Q' E' kp (by simpa using hq)
  ·intro hm
   have hm':(g.push { cls:=.type "tuple_iterator",data:=.fields #[.ref s.heap.objs.size,.int 0 0] }).objs.size∈[g.objs.size,s.heap.objs.size]:=hm
   rw [hsz2,hsz] at hm'
   simp at hm'
  ·intro (c:Nat) o e
   have hc:=hlt e
   refine ⟨λhm=>?_,?_⟩
   ·have hm':c=g.objs.size:=by simpa using hm
    rw [hm',hsz] at hc
    omega
   ·show c≠(g.push { cls:=.type "tuple_iterator",data:=.fields #[.ref s.heap.objs.size,.int 0 0] }).objs.size
    rw [hsz2]
    omega
  ·exact λc o e=>vc _ (vc _ (hgk c o e))
  ·exact ⟨_,vc _ (vn _ rfl),rfl,rfl⟩
  ·exact hT.at λo e=>vc _ (vc _ e)
  ·intro v h' tk hP hk
   have hv:v=if c=true then b else a:=by
    cases c with
    | true =>
     have e:argBest (λi j=>if i=1/\j=0 then true else false) ((#[a,b]:Array Value).size - 1)=1:=rfl
     rw [e] at hP
     simpa using hP.symm
    | false =>
     have e:argBest (λi j=>if i=1/\j=0 then false else false) ((#[a,b]:Array Value).size - 1)=0:=rfl
     rw [e] at hP
     simpa using hP.symm
   rw [hv]
   refine h h' tk λ(c:Nat) o e=>hk c o (λhm=>?_) ?_ (vc _ (vc _ (hgk c o e)))
   ·have hc:=hlt e
    have hm':c=g.objs.size:=by simpa using hm
    rw [hm',hsz] at hc
    omega
   ·have hc:=hlt e
    show c≠(g.push { cls:=.type "tuple_iterator",data:=.fields #[.ref s.heap.objs.size,.int 0 0] }).objs.size
    rw [hsz2]
    omega)
end
section
variable {X:Cx}
noncomputable def Zce:List V->Hp->VK->Prop:=λxs H Q=>∃ a b ns ms,xs=[.ref a,.ref b]/\H a=some (.tup (ns.map V.int))/\H b=some (.tup (ms.map V.int))/\Q (if HT.cV ms ns=true then .ref b else .ref a) H
theorem Zh9 {k:Nat} (hr:Room k X.A) (hc:X.calm=true):dE X (.builtin "min") Zce:=by
 intro pins s σ H xs us Q I r h
 obtain ⟨a,b,ns,ms,rfl,ha,hb,q⟩:=h
 obtain ⟨u,w',rfl,ru,rw'⟩:=mT r
 cases ru
 cases rw'
 obtain ⟨u1,r1,p1⟩:=dl (b:=false) I.hok ha
 obtain ⟨u2,r2,p2⟩:=dl (b:=false) I.hok hb
 have i1:IntsAre u1.toArray.toList ns:=ZdS r1
 have i2:IntsAre u2.toArray.toList ms:=ZdS r2
 refine ZmE (c:=HT.cV ms ns) (I.ok.hd hc) (λs' Q' E' kp hq=>?_) λh' tk kp=>⟨_,H,I.kept kp,?_,q⟩
 ·have q1:IsTup s'.heap a u1.toArray:=SqAt.at (b:=false) p1 λo e=>kp a o e
  have q2:IsTup s'.heap b u2.toArray:=SqAt.at (b:=false) p2 λo e=>kp b o e
  exact HT.ZmP q2 q1 i2 i1 (show X.A.units+1 < cLine from by have:=hr.units; omega) hq
 ·cases HT.cV ms ns
  ·exact rfl
  ·exact rfl
noncomputable def il:List PyData->Option PyData
 | [.tuple xs,.tuple ys]=>(ints? xs).bind λns=>(ints? ys).bind λms=>some (if HT.cV ms ns=true then .tuple (ms.map PyData.int) else .tuple (ns.map PyData.int))
 | _=>none
theorem Zaj:fE Zce il:=λPK pa m G H vs ds d Q w hv hd k=>by
 unfold il at hd
 split at hd
 ·rename_i xs ys
  cases e1:ints? xs with
  | none=>rw [e1] at hd; cases hd
  | some ns =>
   cases e2:ints? ys with
   | none=>rw [e1,e2] at hd; cases hd
   | some ms =>
    rw [e1,e2] at hd
    have hd':(if HT.cV ms ns=true then PyData.tuple (ms.map PyData.int) else .tuple (ns.map PyData.int))=d:=vX hd
    cases hv with
    | cons h1 h2 =>
     cases h2 with
     | cons h2 h3 =>
      cases h3
      cases h1 with
      | @tup a us _ a1 a2 =>
       cases h2 with
       | @tup b ws _ b1 b2 =>
        obtain ⟨rfl,rfl⟩:=a2.ints_inv e1
        obtain ⟨rfl,rfl⟩:=b2.ints_inv e2
        refine ⟨a,b,ns,ms,rfl,w.sub _ _ a1,w.sub _ _ b1,?_⟩
        subst hd'
        cases hl:HT.cV ms ns
        ·rw [hl] at k
         exact k.here w (.tup a1 (DnAll.ints _))
        ·rw [hl] at k
         exact k.here w (.tup b1 (DnAll.ints _))
 ·cases hd
end
section
variable {X:Cx} {PK:Pk} {e:Expr} {is:y4}
end
end L2
set_option Elab.async false
set_option linter.all false
set_option maxRecDepth 100000
namespace L2
section
variable {prog:Program} {w:World} {A:Around} {E:zd} {s:Shared}
end
noncomputable def Zqm:List zf->List Int
 | []=>[]
 | x::r=>r.foldl (λb y=>if HT.cV y b=true then y else b) x
section
variable {X:Cx}
noncomputable def tups?:List PyData->Option (List zf)
 | []=>some []
 | .tuple x::xs=>(ints? x).bind λns=>(tups? xs).bind λr=>some (ns::r)
 | _=>none
noncomputable def ZrE:List PyData->Option PyData
 | [.list xs]=>(tups? xs).bind λnss=>if nss.isEmpty=true then none else some (.tuple ((Zqm nss).map PyData.int))
 | _=>none
end
section
variable {X:Cx} {PK:Pk} {a b:Expr} {pos:Pos} {j:yZ}
noncomputable def je (xs:ze):PyData->Tr PyData
 | .int i=>Tr.of (bw xs i)
 | _=>.fail
noncomputable def iB (k:Nat) (j:yZ):yZ:=λρ=>(j ρ).bind λy=>match ρ[k]? with
 | some (.own xs)=>je xs y
 | some (.d (.list xs))=>je xs y
 | _=>.fail
theorem Zqs {G:Hp} {vs:zi} {xs:ze} {i:Int} {d:PyData} (h:DnAll G vs xs) (e:bw xs i=some d):∃ v,bw vs i=some v/\Dn G v d:=by
 unfold bw at e ⊢
 rw [h.length]
 cases hi:cR xs.length i with
 | none=>rw [hi] at e; cases e
 | some n =>
  rw [hi] at e
  exact h.get n e
theorem oY {α β:Type}:∀ {t:Tr α} {m:Nat} {Z:Nat->β->Prop},(t.bind λ_=>(Tr.fail:Tr β)).ok m Z->False
 | .ret a,m,Z,h=>h
 | .draw n k,m,Z,h=>oY (t:=k 0) (h.2.2.2 0 (vN _) h.2.1)
 | .fail,m,Z,h=>h
theorem pN {k:Nat} (hb:PE X b (TAe PK j)) (ha:PE X a (fj k)) (hs:qa b):PE X (.Subscript a b pos) (TAe PK (iB k j)):=(nK tt ha hb hs).imp λσ H Q hz0=>by
 obtain ⟨pa,zm,H₀,m,ρ,G,R,z⟩:=hz0
 have key:∀ xs:ze,(∃ (sl:Sl),ρ[k]?=some sl/\(sl=.own xs\/sl=.d (.list xs)))->((j ρ).bind λy=>je xs y).ok m (λm1 x=>Kn PK pa m1 G H x Q)->iL (rO X.K) (fj k) (TAe PK j) σ H Q:=λxs ⟨sl,hsl,hx⟩ z=>by
  obtain ⟨o,h1,h2⟩:=R.sl k _ hsl
  have hp:∃ p,o=some (.ref p):=by
   rcases hx with rfl | rfl
   ·cases h2; exact ⟨_,rfl⟩
   ·cases h2 with
    | d q=>cases q; exact ⟨_,rfl⟩
  obtain ⟨p,rfl⟩:=hp
  refine ⟨_,h1,?_⟩
  refine TAe.then R z λm1 y u G1 H1 s1 w1 R1 d1 q1=>?_
  obtain ⟨o',h1',h2'⟩:=R1.sl k _ hsl
  rw [h1] at h1'
  cases h1'
  have hl:∃ vs,H1 p=some (.lst vs)/\DnAll G1 vs xs:=by
   rcases hx with rfl | rfl
   ·cases h2' with
    | own a1 a2 a3 a4=>exact ⟨_,a1,a4⟩
   ·cases h2' with
    | d q=>cases q with
     | lst b1 b2=>exact ⟨_,w1.sub _ _ b1,b2⟩
  obtain ⟨vs,e1,e2⟩:=hl
  cases d1 with
  | int i =>
   obtain ⟨d,hd,kq⟩:=Tr.ok_of q1
   obtain ⟨v,hv,dv⟩:=Zqs e2 hd
   exact ⟨p,vs,i,v,rfl,rfl,SqL.of e1,hv,kq v G1 H1 s1 w1 dv⟩
  | _=>exact q1.elim
 unfold iB at z
 cases hk:ρ[k]? with
 | none=>rw [hk] at z; exact (oY (t:=j ρ) z).elim
 | some sl =>
  rw [hk] at z
  cases sl with
  | own xs=>exact key xs ⟨_,hk,.inl rfl⟩ z
  | d x =>
   cases x with
   | list xs=>exact key xs ⟨_,hk,.inr rfl⟩ z
   | _=>exact (oY (t:=j ρ) z).elim
  | _=>exact (oY (t:=j ρ) z).elim
end
end L2
set_option Elab.async false
set_option linter.all false
set_option maxRecDepth 100000
namespace L2
section
variable {prog:Program} {w:World} {A:Around} {E:zd} {s:Shared}
theorem ZpG {t b:Addr} {ws:zg} {Q:zd} (ht:IsTup s.heap t ([]:zg).toArray) (hb:IsTup s.heap b ws.toArray) (h1:Q (.ref b) s):wpAny (model prog w) A (binaryOp .Add (.ref t) (.ref b)) Q E s:=by
 obtain ⟨⟨cls,dd,data,sl⟩,ho,hc,n,hd⟩:=id ht
 obtain ⟨⟨cls2,dd2,data2,fr⟩,ho2,hc2,n2,hd2⟩:=id hb
 simp only at hc hd hc2 hd2
 subst hc hd hc2 hd2
 exact concat_meets ⟨_,ho,rfl⟩ ⟨_,ho2,rfl⟩ noFill_tuple_add seq_tuple_add xY xR (xM _ _) (tuple_addW0 t b _ ws.toArray n n2 dd dd2 sl fr rfl) ⟨ho,ho2,h1⟩
end
section
variable {X:Cx}
noncomputable def Zcm (K:yY):R2:=λx y H Q=>∃ a b ys,x=.ref a/\y=.ref b/\SqT K H a []/\SqT K H b ys/\Q (.ref b) H
theorem Zl6:OpR X (binaryOp .Add) (Zcm X.K):=by
 intro pins s σ H x y v u Q I rx ry h
 obtain ⟨a,b,ys,rfl,rfl,ha,hb,q⟩:=h
 cases rx
 cases ry
 obtain ⟨its,r1,p1,_⟩:=I.tuple ha
 obtain ⟨its2,r2,p2,_⟩:=I.tuple hb
 cases r1
 exact ZpG p1 p2 ⟨.ref b,H,I,rfl,q⟩
noncomputable def mv:zc
 | .tuple [],.tuple ys=>some (.tuple ys)
 | x,y=>ba x y
noncomputable def Zcp (K:yY):R2:=λx y H Q=>rP K x y H Q\/Zcm K x y H Q
theorem Zl8:OpR X (binaryOp .Add) (Zcp X.K):=bD.or Zl6
theorem Zjm {K:yY}:cz (Zcp K) mv:=λPK pa m G H x y dx dy dz Q w hx hy hz k=>by
 unfold mv at hz
 split at hz
 ·cases hz
  cases hx with
  | tup a1 a2 =>
   cases a2
   cases hy with
   | tup b1 b2=>exact .inr ⟨_,_,_,rfl,rfl,SqT.of (w.sub _ _ a1),SqT.of (w.sub _ _ b1),k.here w (.tup b1 b2)⟩
 ·exact .inl (bB PK pa m G H x y _ _ dz Q w hx hy hz k)
theorem Zhg {ys:ze}:aS mv (.tuple []) (.tuple ys)=.ret (.tuple ys):=rfl
theorem Zhf {x:PyData} {xs ys:ze} (h:small ((x::xs).length+ys.length)=true):aS mv (.tuple (x::xs)) (.tuple ys)=.ret (.tuple (x::xs++ys)):=by
 show Tr.of (ba (.tuple (x::xs)) (.tuple ys))=_
 unfold ba
 simp only [xr,wo,xl,h,if_true]
 rfl
end
end L2
set_option Elab.async false
set_option linter.all false
set_option maxRecDepth 100000
namespace L2
section
variable {PK:Pk} {X:Cx} {a b:Expr} {pos:Pos} {i j:yZ}
def uV (r:R2) (f:PyData->PyData->Option ze):Prop:=∀ (PK:Pk) (pa:Addr) (m:Nat) (G H:Hp) (x y:V) (dx dy:PyData) (dz:ze) (Q:VK),Wd PK pa m G H->Dn G x dx->Dn G y dy->f dx dy=some dz->Ko1 PK pa m G H dz Q->r x y H Q
noncomputable def pZ (f:PyData->PyData->Option ze) (i j:yZ):y4:=λρ=>(i ρ).bind λx=>(j ρ).bind λy=>Tr.of (f x y)
theorem ZqU {r:R2} {f:PyData->PyData->Option ze} (hv:uV r f):∀ σ H Q,eM PK (pZ f i j) σ H Q->iL r (TAe PK i) (TAe PK j) σ H Q:=by
 rintro σ H Q ⟨pa,zm,H₀,m,ρ,G,R,q⟩
 refine TAe.then R q λm1 x v G1 H1 s1 w1 R1 d1 q1=>?_
 refine TAe.then R1 q1 λm2 y u G2 H2 s2 w2 R2 d2 q2=>?_
 obtain ⟨z,hz,k⟩:=Tr.ok_of q2
 exact hv PK pa m2 G2 H2 v u x y z Q w2 (d1.mono s2.gs) d2 hz (Ko1.later k (s1.trans s2 w1.some) w2.some)
theorem Zqw {op:Operator} {r:R2} {f:PyData->PyData->Option ze} (ho:OpR X (binaryOp op) r) (hv:uV r f) (ha:PE X a (TAe PK i)) (hb:PE X b (TAe PK j)):PE X (.BinOp a op b pos) (eM PK (pZ f i j)) :=
 (ci ho ha hb).imp (ZqU hv)
noncomputable def jT:PyData->PyData->Option ze
 | .list xs,.int k=>if (decide (-1000<=k) && decide (k<=1000) && decide (xs.length<=1000))=true then some (List.replicate k.toNat xs).flatten else none
 | _,_=>none
theorem ZhL {G:Hp}:∀ {vs:zi} {ds:ze} {us:zi} {es:ze},DnAll G vs ds->DnAll G us es->DnAll G (vs++us) (ds++es)
 | _,_,_,_,.nil,h=>h
 | _,_,_,_,.cons a b,h=>.cons a (ZhL b h)
theorem ZhK {G:Hp} {vs:zi} {ds:ze} (h:DnAll G vs ds):∀ k:Nat,DnAll G (List.replicate k vs).flatten (List.replicate k ds).flatten
 | 0=>.nil
 | k+1=>by
  rw [vP,vP,wa,wa]
  exact ZhL h (ZhK h k)
theorem Zji:uV rN jT:=λPK pa m G H x y dx dy dz Q w hx hy hz k=>by
 unfold jT at hz
 split at hz
 ·split at hz
  ·rename_i hc
   cases hz
   simp only [vU,decide_eq_true_eq] at hc
   cases hx with
   | lst a1 a2 =>
    cases hy
    refine ⟨_,_,_,rfl,rfl,w.sub _ _ a1,by omega,by omega,?_,λp hp=>?_⟩
    ·rw [a2.length]
     have h0:∀ z:Int,z<=1000->z.toNat<=1000:=λz hz=>by omega
     exact vS (yi hc.2 (h0 _ hc.1.2)) (show 1000 * 1000<=sizeLine by decide)
    ·exact k.new w (ZhK a2 _) hp
  ·cases hz
 ·cases hz
noncomputable def mf (f:PyData->PyData->Option ze) (x y:PyData):Tr ze:=Tr.of (f x y)
noncomputable def Zit (f:PyData->PyData->Option ze) (j:yZ) (ρ:zl) (x:PyData):Tr ze:=(j ρ).bind (mf f x)
theorem Zn4 {f:PyData->PyData->Option ze} {ρ:zl}:pZ f i j ρ=(i ρ).bind (Zit f j ρ):=rfl
theorem Zn3 {f:PyData->PyData->Option ze} {ρ:zl} {x:PyData}:Zit f j ρ x=(j ρ).bind (mf f x):=rfl
theorem Zk3 {xs:ze} {k:Int} (h:(decide (-1000<=k) && decide (k<=1000) && decide (xs.length<=1000))=true):mf jT (.list xs) (.int k)=.ret (List.replicate k.toNat xs).flatten:=by
 simp only [mf,jT,h,if_true]
 rfl
end
theorem lY {α:Type} {n:Nat}:∀ {us:List α},us.length=n+1->∃ (a:α) (t:List α),us=a::t/\t.length=n
 | a::t,h=>⟨a,t,rfl,Nat.succ.inj h⟩
theorem Zm6 {α:Type} {us:List α} (h:us.length=0):us=[]:=List.eq_nil_of_length_eq_zero h
theorem Zds {α:Type} {us:List α} (h:us.length=1):∃ a,us=[a]:=by
 obtain ⟨a,t,rfl,h2⟩:=lY h
 exact ⟨a,by rw [Zm6 h2]⟩
theorem Zdr {α:Type} {us:List α} (h:us.length=2):∃ a0 a1,us=[a0,a1]:=by
 obtain ⟨a0,t,rfl,h2⟩:=lY h
 obtain ⟨a1,rfl⟩:=Zds h2
 exact ⟨a0,a1,rfl⟩
theorem Zdq {α:Type} {us:List α} (h:us.length=3):∃ a0 a1 a2,us=[a0,a1,a2]:=by
 obtain ⟨a0,t,rfl,h2⟩:=lY h
 obtain ⟨a1,a2,rfl⟩:=Zdr h2
 exact ⟨a0,a1,a2,rfl⟩
theorem Zdp {α:Type} {us:List α} (h:us.length=4):∃ a0 a1 a2 a3,us=[a0,a1,a2,a3]:=by
 obtain ⟨a0,t,rfl,h2⟩:=lY h
 obtain ⟨a1,a2,a3,rfl⟩:=Zdq h2
 exact ⟨a0,a1,a2,a3,rfl⟩
theorem Zna {α:Type} {us:List α} (h:us.length=5):∃ a0 a1 a2 a3 a4,us=[a0,a1,a2,a3,a4]:=by
 obtain ⟨a0,t,rfl,h2⟩:=lY h
 obtain ⟨a1,a2,a3,a4,rfl⟩:=Zdp h2
 exact ⟨a0,a1,a2,a3,a4,rfl⟩
end L2
set_option Elab.async false
set_option linter.all false
set_option maxRecDepth 100000
namespace L2
section
variable {PK:Pk} {X:Cx} {pos:Pos} {n:Nat} {is:y4} {s t:y8}
theorem Zqt {sts:List Stmt}:PSs X sts (bG PK mB):=λ_ _ _ _ _ _ h=>by
 obtain ⟨pa,zm,H₀,m,ρ,G,R,z⟩:=h
 exact z.elim
end
end L2
set_option Elab.async false
set_option linter.all false
set_option maxRecDepth 100000
namespace L2
section
variable {PK:Pk} {X:Cx} {a b c d e:Expr} {pos:Pos} {i j l n:yZ}
end
end L2
set_option Elab.async false
set_option linter.all false
set_option maxRecDepth 100000
set_option exponentiation.threshold 9000
namespace Tw
open L2
def nb (k:Nat) (n:Int):Prop:=n.natAbs < 2 ^ k
theorem aq {k:Nat} {n:Int} (h:nb k n) (hk:k<=8000):fit n=true:=decide_eq_true (vA h (yg (by decide) hk))
theorem aD {k l:Nat} {n:Int} (h:nb k n) (hk:k<=l):nb l n:=vA h (yg (by decide) hk)
theorem bf {k l:Nat} {m n:Int} (h:nb k m) (h':nb l n):nb (k+l) (m * n):=by
 unfold nb at *
 rw [wP,Nat.pow_add]
 exact Nat.mul_lt_mul'' h h'
theorem cU {k l:Nat} {m n:Int} (h:nb k m) (h':nb l n):nb (max k l+1) (m+n):=by
 have h1:=aD h (Nat.le_max_left k l)
 have h2:=aD h' (Nat.le_max_right k l)
 unfold nb at *
 rw [Nat.pow_succ,Nat.mul_two]
 exact wN (Int.natAbs_add_le m n) (Nat.add_lt_add h1 h2)
theorem gf {k:Nat} {n:Int} (h:nb k n):nb k (-n):=by
 unfold nb at *
 omega
theorem eW {k l:Nat} {m n:Int} (h:nb k m) (h':nb l n):nb (max k l+1) (m - n):=by
 rw [Int.sub_eq_add_neg]
 exact cU h (gf h')
theorem bJ {k:Nat} {n:Int} (h1:-(2 ^ k:Nat) < n) (h2:n < (2 ^ k:Nat)):nb k n:=by
 unfold nb
 omega
theorem lD {k:Nat} {c:Prop} [Decidable c] {m n:Int} (h:nb k m) (h':nb k n):nb k (if c then m else n):=by split <;> assumption
noncomputable def ws (f:Int->Int):Nat->List Int->Int
 | _,[]=>0
 | k,w::l=>w * f k+ws f (k+1) l
theorem Zae {f:Int->Int} {a b:Nat} (hf:∀ x:Int,0<=x->nb b (f x)):∀ {l:zf} {k:Nat},(∀ w∈l,nb a w)->nb (a+b+l.length) (ws f k l)
 | [],k,h=>by unfold ws nb; exact wE (by simp)
 | w::l,k,h=>by
  unfold ws
  have h1:=bf (h w (by simp)) (hf k (by omega))
  have h2:=Zae hf (l:=l) (k:=k+1) λv hv=>h v (ve _ hv)
  refine aD (cU h1 h2) ?_
  rw [vp]
  omega
theorem mO {f g:Int->Int}:∀ {l:zf} {k:Nat},(∀ x:Int,0<=x->f x=g x)->ws f k l=ws g k l
 | [],k,h=>rfl
 | w::l,k,h=>by
  unfold ws
  rw [h k (by omega),mO h]
theorem ZaE {a:Nat}:∀ {l:zf},(∀ w∈l,nb a w)->nb (a+l.length) l.sum
 | [],h=>by unfold nb; simp; exact wE (by simp)
 | w::l,h=>by
  rw [w8]
  refine aD (cU (h w (by simp)) (ZaE (l:=l) λv hv=>h v (ve _ hv))) ?_
  rw [vp]
  omega
structure Shp where
 top:Int
 depth:Int
 start:Int
 piece:Int
 keep:Int
 lack:Int
 lost:Int
 back:Int
 late:Int
noncomputable def Shp.l (s:Shp):zf:=[s.top,s.depth,s.start,s.piece,s.keep,s.lack,s.lost,s.back,s.late]
@[irreducible] noncomputable def Shp.d (s:Shp):PyData:=.tuple (s.l.map PyData.int)
structure Shp.Ok (s:Shp):Prop where
 t0:0<=s.top
 d0:0<=s.depth
 td:s.top+s.depth<=100
 start0:0<=s.start
 start:nb 45 s.start
 piece:nb 45 s.piece
 keep:nb 45 s.keep
 lack:nb 45 s.lack
 lost:nb 45 s.lost
 back:nb 45 s.back
 late:nb 45 s.late
theorem Za1 (s:Shp):aS ao s.d (.int 0)=.ret (.int s.top):=by unfold Shp.d; rw [dI]; exact congrArg Tr.of mh
theorem Za0 (s:Shp):aS ao s.d (.int 1)=.ret (.int s.depth):=by unfold Shp.d; rw [dI]; exact congrArg Tr.of pF
theorem ZaZ (s:Shp):aS ao s.d (.int 2)=.ret (.int s.start):=by unfold Shp.d; rw [dI]; exact congrArg Tr.of pE
theorem ZaY (s:Shp):aS ao s.d (.int 3)=.ret (.int s.piece):=by unfold Shp.d; rw [dI]; exact congrArg Tr.of pD
theorem ZaX (s:Shp):aS ao s.d (.int 4)=.ret (.int s.keep):=by unfold Shp.d; rw [dI]; exact congrArg Tr.of pC
theorem ZaW (s:Shp):aS ao s.d (.int 5)=.ret (.int s.lack):=by unfold Shp.d; rw [dI]; exact congrArg Tr.of uy
theorem ZaV (s:Shp):aS ao s.d (.int 6)=.ret (.int s.lost):=by unfold Shp.d; rw [dI]; exact congrArg Tr.of ux
theorem ZaU (s:Shp):aS ao s.d (.int 7)=.ret (.int s.back):=by unfold Shp.d; rw [dI]; exact congrArg Tr.of uw
theorem ZaT (s:Shp):aS ao s.d (.int 8)=.ret (.int s.late):=by unfold Shp.d; rw [dI]; exact congrArg Tr.of uv
section
variable (s:Shp)
noncomputable def Shp.nx (y f:Int):Int:=bR (y - f) (-s.depth)
noncomputable def Shp.day (y f:Int):Int:=(if s.nx y f > 0 then s.keep * s.nx y f else s.lack * -s.nx y f)+s.lost * (s.nx y f - (y - f))
noncomputable def Shp.ord (x y:Int):Int:=if y<=x then 0 else s.start+s.piece * (y - x)
noncomputable def Shp.fin (x:Int):Int:=if x > 0 then -s.back * x else s.late * -x
noncomputable def Shp.wg (day:zf) (y:Int) (ahead:Int->Int) (sc:Int):Int:=ws (λf=>sc * s.day y f+ahead (s.nx y f)) 0 day
noncomputable def Shp.sm (day:zf) (ahead:Int->Int) (sc:Int) (y:Int):Int:=sc * day.sum * s.piece * y+s.wg day y ahead sc
end
noncomputable def Shp.n (s:Shp):Nat:=(s.top+1 - -s.depth).toNat
noncomputable def Shp.row (s:Shp) (f:Int->Int):zf:=(aG (-s.depth) s.n).map f
noncomputable def lI (l:zf):PyData:=.list (l.map PyData.int)
noncomputable def tI (l:zf):PyData:=.tuple (l.map PyData.int)
noncomputable def fD (fs:List zf):PyData:=.tuple (fs.map tI)
theorem Shp.Ok.n_eq {s:Shp} (h:s.Ok):(s.n:Int)=s.top+s.depth+1:=by have:=h.t0; have:=h.d0; unfold Shp.n; omega
theorem iP (s:Shp) (f:Int->Int):(s.row f).length=s.n:=by unfold Shp.row; rw [vd,fY]
theorem fX {s:Shp} {f:Int->Int} {x:Int} (h1:-s.depth<=x) (h2:x<=s.top):(s.row f)[(x+s.depth).toNat]?=some (f x):=by
 unfold Shp.row aG
 rw [vH,vg,vF (by unfold Shp.n; omega)]
 show some (f (-s.depth+((x+s.depth).toNat:Int)))=_
 congr 2
 omega
theorem rA {s:Shp} {f:Int->Int} {x:Int} (h1:-s.depth<=x) (h2:x<=s.top):bw ((s.row f).map PyData.int) (x+s.depth)=some (.int (f x)) :=
 fe (by omega) (by rw [vg,fX h1 h2]; rfl)
theorem ZkZ {s:Shp} {f g:Int->Int} (h:∀ x,-s.depth<=x->x<=s.top->f x=g x):s.row f=s.row g:=by
 unfold Shp.row aG
 rw [vH,vH]
 refine v4 λi hi=>?_
 have:=v7.mp hi
 unfold Shp.n at this
 show f (-s.depth+(i:Int))=g (-s.depth+(i:Int))
 exact h _ (by omega) (by omega)
theorem eV (s:Shp) (y f:Int):-s.depth<=s.nx y f:=by unfold Shp.nx bR; split <;> omega
theorem eU {s:Shp} (h:s.Ok) {y f:Int} (hy:y<=s.top) (hf:0<=f):s.nx y f<=s.top:=by have:=h.t0; have:=h.d0; unfold Shp.nx bR; split <;> omega
end Tw
set_option Elab.async false
set_option linter.all false
set_option maxRecDepth 100000
namespace L2
variable {ρ:zl} {s t:y8} {i j l:yZ} {is:y4} {k n:Nat} {x y d:PyData} {xs ys:ze} {sl:Sl}
theorem rb2 {α β:Type} {a:α} {f:α->Tr β}:(Tr.ret a).bind f=f a:=Eq.trans (Tr.ret_bind a f) (Eq.refl _)
noncomputable def iO (xs:ze):Tr ze:=.ret xs.reverse
noncomputable def ZbO (x:PyData):Tr ze:=(cJ x).bind iO
theorem Ze4:uR i ρ=(i ρ).bind ZbO:=rfl
theorem ZeY:ZbO x=(cJ x).bind iO:=rfl
theorem ZeX:iO xs=.ret xs.reverse:=rfl
noncomputable def ZbN (xs:ze):Tr ze:=(dQ xs).bind iO
noncomputable def ZbM (xs:ze):Tr ze:=(jS xs).bind iO
theorem Ze3:uQ is ρ=(is ρ).bind ZbN:=rfl
theorem Ze2:uP is ρ=(is ρ).bind ZbM:=rfl
theorem ZeW:ZbN xs=(dQ xs).bind iO:=rfl
theorem ZeV:ZbM xs=(jS xs).bind iO:=rfl
noncomputable def ZrI (k:Nat) (ρ:zl) (xs:ze):PyData->Tr Ou
 | .list ys=>if small (xs.length+ys.length)=true then .ret (.next (ρ.set k (.own (xs++ys)))) else .fail
 | _=>.fail
theorem o4 (a b c d:Int):bZ il [.tuple [.int a,.int b],.tuple [.int c,.int d]]=.ret (if c < a\/c=a/\d < b then .tuple [.int c,.int d] else .tuple [.int a,.int b]):=by
 have h1:ints? [PyData.int a,.int b]=some [a,b]:=ints?_map [a,b]
 have h2:ints? [PyData.int c,.int d]=some [c,d]:=ints?_map [c,d]
 unfold bZ il
 simp only [h1,h2]
 show Tr.of (some _)=_
 rw [Tr.of_some]
 have e:HT.cV [c,d] [a,b]=true ↔ (c < a\/c=a/\d < b):=by
  simp only [HT.Zdm,HT.Zdl]
  by_cases hca:c=a
  ·subst hca
   by_cases hdb:d=b
   ·simp [hdb]
   ·simp [hdb]
  ·simp [hca]
 by_cases hc:(c < a\/c=a/\d < b)
 ·rw [if_pos (e.mpr hc),if_pos hc]; rfl
 ·rw [if_neg (λz=>hc (e.mp z)),if_neg hc]; rfl
theorem ZmM (ns:zf) (h:ns≠[]):bZ iZ [.list (ns.map PyData.int)]=.ret (.int (eY ns)):=by
 unfold bZ iZ gb
 simp [h]
noncomputable def jd:Nat->List Sl->PyData->Tr PyData
 | 0,.own xs::_,y=>je xs y
 | 0,.d (.list xs)::_,y=>je xs y
 | k+1,_::ρ,y=>jd k ρ y
 | _,_,_=>.fail
theorem Zf3:iB k j ρ=(j ρ).bind (jd k ρ):=by
 have key:∀ (k:Nat) (σ:zl) (y:PyData),(match σ[k]? with | some (Sl.own xs)=>je xs y | some (Sl.d (.list xs))=>je xs y | _=>Tr.fail)=jd k σ y:=by
  intro k
  induction k with
  | zero =>
   intro σ y
   cases σ with
   | nil=>rfl
   | cons s r =>
    cases s with
    | d x=>cases x <;> rfl
    | _=>rfl
  | succ k ih =>
   intro σ y
   cases σ with
   | nil=>rfl
   | cons s r=>exact ih r y
 unfold iB
 exact congrArg (Tr.bind (j ρ)) (funext λy=>key k ρ y)
theorem Zf2 (n:Int):jd 0 (.own xs::ρ) (.int n)=Tr.of (bw xs n):=rfl
theorem Zf1 (n:Int):jd 0 (.d (.list xs)::ρ) (.int n)=Tr.of (bw xs n):=rfl
theorem Zf0:jd (k+1) (sl::ρ) y=jd k ρ y:=rfl
theorem ZqC {α:Type} {t:Tr α} {P:α->Prop} (h:Al t 0 P):∃ a,t=.ret a/\P a:=by
 have h':=h.out
 cases t with
 | ret a=>exact ⟨a,rfl,h'⟩
 | draw w k=>exact h'.elim
 | fail=>exact h'.elim
theorem mo {α:Type} {t:Tr α} {a:α} (h:Al t 0 λb=>b=a):t=.ret a:=by
 obtain ⟨b,e,rfl⟩:=ZqC h
 exact e
theorem ZqA {α:Type} {t:Tr α} {a:α} {P:α->Prop} {N:Nat} (h:t=.ret a) (hp:P a):Al t N P:=by rw [h]; exact cN hp
theorem Zee {s:y8} {g:zb} {n:Nat} {full:ze} (I:List PyData->List Sl->Prop) {Q:Ou->Prop} (ht:∀ pre x post ρ,full=pre++x::post->I pre ρ->∃ ρ1,g x ρ=some ρ1/\(s ρ1).all n λo=>∃ ρ2,o=.next ρ2/\I (pre++[x]) ρ2) (hq:∀ ρ,I full ρ->Q (.next ρ)) :
  ∀ {xs pre:ze} {ρ:zl},full=pre++xs->I pre ρ->(bX g s xs ρ).all (xs.length * n) Q
 | [],pre,ρ,e,h0=>hq ρ (by rw [e,wn]; exact h0)
 | x::xs,pre,ρ,e0,h0=>by
  obtain ⟨ρ1,e,ha⟩:=ht pre x xs ρ e0 h0
  have en:(x::xs).length * n=n+xs.length * n:=by rw [vp,x6]; omega
  rw [en,fb,e,Tr.of_some,Tr.ret_bind]
  unfold l8
  refine Tr.all_bind ha λo ⟨ρ2,eo,h2⟩=>?_
  subst eo
  rw [eE]
  exact Zee I ht hq (by rw [e0,xa]; rfl) h2
theorem kG {n N:Nat} {g:zb} {s:y8} {xs:ze} {ρ:zl} {Q:Ou->Prop} (I:List PyData->List Sl->Prop) (h0:I [] ρ) (hN:xs.length * n<=N) (ht:∀ pre x post ρ,xs=pre++x::post->I pre ρ->∃ ρ1,g x ρ=some ρ1/\Al (s ρ1) n λo=>∃ ρ2,o=.next ρ2/\I (pre++[x]) ρ2) (hq:∀ ρ,I xs ρ->Q (.next ρ)):Al (bX g s xs ρ) N Q :=
 .of (Tr.all_mono (Zee (full:=xs) I (λpre x post ρ e h=>let ⟨ρ1,e,a⟩:=ht pre x post ρ e h; ⟨ρ1,e,a.out⟩) hq (pre:=[]) rfl h0) hN λ_ h=>h)
theorem rE {lo hi:Int} {pre post:ze} {x:PyData} (h:aN lo hi=pre++x::post):x=.int (lo+pre.length)/\(pre.length:Int) < hi - lo:=by
 have h1:(aN lo hi)[pre.length]?=some x:=by rw [h]; simp
 have hl:pre.length < (aN lo hi).length:=(vf.mp h1).1
 rw [cA] at hl
 unfold aN aG at h1
 rw [vH,vg,vF (by omega)] at h1
 refine ⟨?_,by omega⟩
 cases h1
 rfl
theorem ZbP {lo hi:Int} {pre post:ze} {x:PyData} (h:(aN lo hi).reverse=pre++x::post):x=.int (hi - 1 - pre.length)/\(pre.length:Int) < hi - lo:=by
 have h1:((aN lo hi).reverse)[pre.length]?=some x:=by rw [h]; simp
 have hl:pre.length < ((aN lo hi).reverse).length:=(vf.mp h1).1
 rw [wb,cA] at hl
 rw [wY (by rw [cA]; exact hl),cA] at h1
 unfold aN aG at h1
 rw [vH,vg,vF (by omega)] at h1
 refine ⟨?_,by omega⟩
 cases h1
 show PyData.int (lo+(((hi - lo).toNat - 1 - pre.length:Nat):Int))=_
 congr 1
 omega
theorem sN {h:PyData->Tr PyData} {f:Int->PyData} {lo hi:Int} (hx:∀ z:Int,lo<=z->z < hi->h (.int z)=.ret (f z)):br h (aN lo hi)=.ret ((aG lo (hi - lo).toNat).map f):=by
 have key:∀ l:zf,(∀ z∈l,lo<=z/\z < hi)->br h (l.map PyData.int)=.ret (l.map f):=by
  intro l
  induction l with
  | nil=>intro _; rfl
  | cons z l ih =>
   intro hz
   have hh:=hz z (by simp)
   rw [vC,br,hx z hh.1 hh.2,Tr.ret_bind,ih λy hy=>hz y (ve _ hy)]
   rfl
 unfold aN
 refine key _ λz hz=>?_
 have:=nq hz
 omega
theorem Zn8 {xs:ze} {pre post:ze} {x:PyData} (h:dJ xs=pre++x::post):∃ y,xs[pre.length]?=some y/\x=.tuple [.int pre.length,y]:=by
 have h1:(dJ xs)[pre.length]?=some x:=by rw [h]; simp
 unfold dJ at h1
 rw [List.getElem?_zipWith] at h1
 cases hx:xs[pre.length]? with
 | none=>rw [hx] at h1; simp at h1
 | some y =>
  have hl:pre.length < xs.length:=(vf.mp hx).1
  rw [hx,vF hl] at h1
  simp at h1
  exact ⟨y,rfl,h1.symm⟩
theorem Zn9 (xs:ze):(dJ xs).length=xs.length:=by unfold dJ; simp
end L2
set_option Elab.async false
set_option linter.all false
set_option maxRecDepth 100000
namespace Tw
open L2
noncomputable def bst (g:Int->Int) (top:Int):Nat->Int×Int
 | 0=>(g top,top)
 | n+1=>if (bst g top n).1 < g (top - ((n+1:Nat):Int)) then bst g top n else (g (top - ((n+1:Nat):Int)),top - ((n+1:Nat):Int))
theorem pz (g:Int->Int) (top:Int):∀ n:Nat,top - n<=(bst g top n).2/\(bst g top n).2<=top/\g (bst g top n).2=(bst g top n).1
 | 0=>by unfold bst; simp
 | n+1=>by
  have ih:=pz g top n
  unfold bst
  split
  ·exact ⟨by omega,ih.2.1,ih.2.2⟩
  ·exact ⟨vN _,by omega,rfl⟩
theorem uj (g:Int->Int) (top:Int):∀ (n:Nat) (y:Int),top - n<=y->y<=top->(bst g top n).1<=g y
 | 0,y,h1,h2=>by
  have:y=top:=by omega
  subst this
  unfold bst
  exact vN _
 | n+1,y,h1,h2=>by
  by_cases hy:y=top - ((n+1:Nat):Int)
  ·unfold bst
   split
   ·subst hy; omega
   ·subst hy; exact vN _
  ·have ih:=uj g top n y (by omega) h2
   unfold bst
   split
   ·exact ih
   ·omega
noncomputable def pck (g:Int->Int) (top K x:Int):Int×Int :=
 match (top - x).toNat with
 | 0=>(g x,x)
 | n+1=>if K+(bst g top n).1 < g x then (K+(bst g top n).1,(bst g top n).2) else (g x,x)
noncomputable def cst (g:Int->Int) (top K P x:Int):Int:=(pck g top K x).1 - P * x
noncomputable def lvl (g:Int->Int) (top K x:Int):Int:=(pck g top K x).2
theorem iU (g:Int->Int) (top K:Int):pck g top K top=(g top,top):=by
 unfold pck
 rw [Int.sub_self]
 rfl
theorem iV (g:Int->Int) (top K:Int) (n:Nat):pck g top K (top - ((n+1:Nat):Int))=if K+(bst g top n).1 < g (top - ((n+1:Nat):Int)) then (K+(bst g top n).1,(bst g top n).2) else (g (top - ((n+1:Nat):Int)),top - ((n+1:Nat):Int)):=by
 unfold pck
 have e:(top - (top - ((n+1:Nat):Int))).toNat=n+1:=by omega
 rw [e]
theorem sx {g:Int->Int} {top K x:Int} (hx:x<=top):(pck g top K x).1<=g x/\∀ y,x < y->y<=top->(pck g top K x).1<=K+g y:=by
 by_cases ht:x=top
 ·subst ht
  rw [iU]
  exact ⟨vN _,λy h1 h2=>by omega⟩
 ·obtain ⟨n,hn⟩:∃ n:Nat,x=top - ((n+1:Nat):Int):=⟨(top - x - 1).toNat,by omega⟩
  subst hn
  rw [iV]
  split
  ·rename_i hc
   exact ⟨by dsimp only; omega,λy h1 h2=>by have:=uj g top n y (by omega) h2; dsimp only; omega⟩
  ·rename_i hc
   exact ⟨vN _,λy h1 h2=>by have:=uj g top n y (by omega) h2; dsimp only; omega⟩
theorem ly {g:Int->Int} {top K x:Int} (hx:x<=top):x<=(pck g top K x).2/\(pck g top K x).2<=top/\(((pck g top K x).2=x/\(pck g top K x).1=g x)\/(x < (pck g top K x).2/\(pck g top K x).1=K+g (pck g top K x).2/\(pck g top K x).1 < g x)):=by
 by_cases ht:x=top
 ·subst ht
  rw [iU]
  exact ⟨vN _,vN _,.inl ⟨rfl,rfl⟩⟩
 ·obtain ⟨n,hn⟩:∃ n:Nat,x=top - ((n+1:Nat):Int):=⟨(top - x - 1).toNat,by omega⟩
  subst hn
  rw [iV]
  have hb:=pz g top n
  split
  ·rename_i hc
   exact ⟨by dsimp only; omega,hb.2.1,.inr ⟨by dsimp only; omega,by dsimp only; rw [hb.2.2],hc⟩⟩
  ·exact ⟨vN _,by dsimp only; omega,.inl ⟨rfl,rfl⟩⟩
theorem ZlU {g:Int->Int} {top K x:Int} {b:Nat} (hx:x<=top) (hg:∀ y,x<=y->y<=top->nb b (g y)) (hK:nb b K):nb (b+1) (pck g top K x).1:=by
 obtain ⟨h1,h2,h3⟩:=ly (g:=g) (K:=K) hx
 rcases h3 with ⟨e1,e2⟩ | ⟨e1,e2,e3⟩
 ·rw [e2]
  exact aD (hg x (vN _) hx) (by omega)
 ·rw [e2]
  exact aD (cU hK (hg _ h1 h2)) (by omega)
theorem ZlV {g g':Int->Int} {top K x:Int} (h:∀ y,x<=y->y<=top->g y=g' y) (hx:x<=top):pck g top K x=pck g' top K x:=by
 have key:∀ n:Nat,x<=top - n->bst g top n=bst g' top n:=by
  intro n
  induction n with
  | zero=>intro hn; unfold bst; rw [h top (by omega) (by omega)]
  | succ n ih =>
   intro hn
   unfold bst
   rw [ih (by omega),h _ hn (by omega)]
 by_cases ht:x=top
 ·subst ht
  rw [iU,iU,h x (by omega) (by omega)]
 ·obtain ⟨n,hn⟩:∃ n:Nat,x=top - ((n+1:Nat):Int):=⟨(top - x - 1).toNat,by omega⟩
  subst hn
  rw [iV,iV,key n (by omega),h _ (by omega) (by omega)]
structure DayB (l:zf):Prop where
 len:l.length<=16
 nb:∀ w∈l,nb 30 w
 w0:∀ w∈l,0<=w
 pos:0 < l.sum
theorem kz {s:Shp} (h:s.Ok) {y f:Int} (hy:nb 20 y) (hf:nb 40 f):nb 100 (s.day y f):=by
 have hd:nb 7 s.depth:=by have:=h.t0; have:=h.d0; have:=h.td; exact bJ (by show -128 < _; omega) (by show _ < 128; omega)
 have hn:nb 50 (s.nx y f):=by
  unfold Shp.nx bR
  exact lD (aD (gf hd) (by decide)) (aD (eW hy hf) (by decide))
 unfold Shp.day
 refine aD (cU (lD (k:=95) (bf h.keep hn) (bf h.lack (gf hn))) (bf h.lost (eW hn (eW hy hf)))) (by decide)
def Bd (s:Shp) (b:Nat) (f:Int->Int):Prop:=∀ x,-s.depth<=x->x<=s.top->nb b (f x)
theorem Zjb {s:Shp} (h:s.Ok) {day:zf} (hd:DayB day) {y:Int} (y1:-s.depth<=y) (y2:y<=s.top) {A:Int->Int} {b:Nat} (hA:Bd s b A) {sc:Int} (hs:nb b sc):nb (b+150) (s.wg day y A sc):=by
 have:=h.t0
 have:=h.d0
 have:=h.td
 have hlen:=hd.len
 have hy:nb 20 y:=bJ (by show -1048576 < _; omega) (by show _ < 1048576; omega)
 have key:∀ (l:zf) (k:Nat),(∀ w∈l,nb 30 w)->k+l.length<=16->nb (30+(b+101)+l.length) (ws (λf=>sc * s.day y f+A (s.nx y f)) k l):=by
  intro l
  induction l with
  | nil=>intro k _ _; unfold ws nb; exact wE (by simp)
  | cons w l ih =>
   intro k hw hk
   rw [vp] at hk ⊢
   have hf:nb 40 (k:Int):=bJ (by show -1099511627776 < _; omega) (by show _ < 1099511627776; omega)
   have b1:=cU (bf hs (kz h hy hf)) (hA _ (eV s y k) (eU h y2 (show (0:Int)<=k by omega)))
   have h1:=bf (hw w (by simp)) b1
   have h2:=ih (k+1) (λv hv=>hw v (ve _ hv)) (by omega)
   unfold ws
   exact aD (cU h1 h2) (by omega)
 exact aD (key day 0 hd.nb (by omega)) (by omega)
theorem cq {day:zf} (hd:DayB day):nb 46 day.sum:=aD (ZaE hd.nb) (by have:=hd.len; omega)
theorem qO {s:Shp} (h:s.Ok) {day:zf} (hd:DayB day) {A:Int->Int} {b:Nat} (hA:Bd s b A) {sc:Int} (hs:nb b sc):Bd s (b+151) (s.sm day A sc):=λy y1 y2=>by
 have:=h.t0
 have:=h.d0
 have:=h.td
 have hy:nb 20 y:=bJ (by show -1048576 < _; omega) (by show _ < 1048576; omega)
 unfold Shp.sm
 exact aD (cU (bf (bf (bf hs (cq hd)) h.piece) hy) (Zjb h hd y1 y2 hA hs)) (by omega)
noncomputable def Shp.bk (s:Shp):List zf->(Int->Int)×Int
 | []=>(s.fin,1)
 | day::rest=>(cst (s.sm day (s.bk rest).1 (s.bk rest).2) s.top ((s.bk rest).2 * day.sum * s.start) ((s.bk rest).2 * day.sum * s.piece),(s.bk rest).2 * day.sum)
noncomputable def Shp.sms (s:Shp) (day:zf) (rest:List zf) (y:Int):Int:=s.sm day (s.bk rest).1 (s.bk rest).2 y
theorem um {s:Shp}:∀ {fs:List zf},(∀ l∈fs,DayB l)->0 < (s.bk fs).2
 | [],_=>by show (0:Int) < 1; decide
 | day::rest,h=>vQ (um λl hl=>h l (ve _ hl)) (h day (by simp)).pos
theorem tO {s:Shp} (h:s.Ok):Bd s 100 s.fin:=λx h1 h2=>by
 have:=h.t0
 have:=h.d0
 have:=h.td
 have hx:nb 20 x:=bJ (by show -1048576 < _; omega) (by show _ < 1048576; omega)
 unfold Shp.fin
 exact aD (lD (k:=65) (bf (gf h.back) hx) (bf h.late (gf hx))) (by decide)
theorem Zpw {s:Shp} (h:s.Ok) {g:Int->Int} {b:Nat} (hg:Bd s b g) {sc:Int} (hs:nb b sc):Bd s (b+112) (cst g s.top (sc * s.start) (sc * s.piece)):=λx h1 h2=>by
 have:=h.t0
 have:=h.d0
 have:=h.td
 have hx:nb 20 x:=bJ (by show -1048576 < _; omega) (by show _ < 1048576; omega)
 unfold cst
 have k1:=ZlU (b:=b+45) (K:=sc * s.start) h2 (λy y1 y2=>aD (hg y (by omega) y2) (by omega)) (bf hs h.start)
 exact aD (eW k1 (bf (bf hs h.piece) hx)) (by omega)
theorem uo {s:Shp} (h:s.Ok):∀ {fs:List zf},(∀ l∈fs,DayB l)->Bd s (100+300 * fs.length) (s.bk fs).1/\nb (100+300 * fs.length) (s.bk fs).2
 | [],_=>⟨tO h,bJ (by show -(2 ^ 100:Nat) < (1:Int); omega) (by show (1:Int) < (2 ^ 100:Nat); omega)⟩
 | day::rest,hf=>by
  obtain ⟨i1,i2⟩:=uo h (fs:=rest) λl hl=>hf l (ve _ hl)
  have hd:=hf day (by simp)
  have k1:=qO h hd i1 i2
  have k2:=bf i2 (cq hd)
  rw [vp]
  refine ⟨λx h1 h2=>aD (Zpw h (b:=100+300 * rest.length+151) k1 (aD k2 (by omega)) x h1 h2) (by omega),aD k2 (by omega)⟩
theorem Zk2 {fs:List zf} {pre post:ze} {x:PyData} (h:(fs.map tI).reverse=pre++x::post):∃ (day:zf),x=tI day/\pre.length < fs.length/\fs.drop (fs.length - (pre.length+1))=day::fs.drop (fs.length - pre.length):=by
 have h1:((fs.map tI).reverse)[pre.length]?=some x:=by rw [h]; simp
 have hl:pre.length < ((fs.map tI).reverse).length:=(vf.mp h1).1
 rw [wb,vd] at hl
 rw [wY (by rw [vd]; exact hl),vd,vg] at h1
 obtain ⟨day,hd,rfl⟩:=xo.mp h1
 refine ⟨day,rfl,hl,?_⟩
 have e:fs.length - (pre.length+1)=fs.length - 1 - pre.length:=by rw [xC pre.length 1,Nat.sub_add_eq]
 have e2:fs.length - pre.length=fs.length - 1 - pre.length+1:=by omega
 rw [e,e2,wm (by omega)]
 congr 1
 exact (vf.mp hd).2
end Tw
set_option Elab.async false
set_option linter.all false
set_option maxRecDepth 100000
namespace Tw
open L2
noncomputable abbrev rng (lo hi:Int):zf:=aG lo (hi - lo).toNat
variable {α:Type}
theorem Zb3 (lo:Int) (a b:Nat):aG lo (a+b)=aG lo a++aG (lo+a) b:=by
 unfold aG
 rw [List.range_add,wC,vH]
 congr 1
 apply v4
 intro k _
 show lo+((a+k:Nat):Int)=lo+(a:Int)+(k:Int)
 omega
noncomputable def f3 (lo a b c:Int) (t:Int->Int->Int->Option α):Option α:=(rng lo a).findSome? λu=>(rng (u+1) b).findSome? λv=>(rng (v+1) c).findSome? λw=>t u v w
end Tw
set_option Elab.async false
set_option linter.all false
set_option maxRecDepth 100000
namespace Tw
open L2
noncomputable def enu:Nat->List Int->List PyData
 | _,[]=>[]
 | k,n::ns=>.tuple [.int k,.int n]::enu (k+1) ns
theorem Zht:∀ (ns:zf) (k:Nat),(List.range' k (ns.map PyData.int).length).zipWith (λ(n:Nat) x=>PyData.tuple [.int n,x]) (ns.map PyData.int)=enu k ns
 | [],k=>rfl
 | n::ns,k=>by
  rw [vC,vp,List.range'_succ,List.zipWith_cons_cons,Zht ns (k+1)]
  rfl
theorem tU (ns:zf):dJ (ns.map PyData.int)=enu 0 ns:=by
 unfold dJ
 rw [List.range_eq_range',Zht]
theorem tT:∀ (ns:zf) (k:Nat),(enu k ns).length=ns.length
 | [],k=>rfl
 | n::ns,k=>by rw [enu,vp,vp,tT ns]
noncomputable def eQ:Nat->List Int->List Int
 | _,[]=>[]
 | k,n::ns=>if n > 0 then (k:Int)::eQ (k+1) ns else eQ (k+1) ns
theorem qN:∀ {ns:zf} {k:Nat},(∃ n∈ns,n > 0)->eQ k ns≠[]
 | [],k,h=>by obtain ⟨n,h,_⟩:=h; cases h
 | n::ns,k,h=>by
  unfold eQ
  split
  ·simp
  ·rename_i hn
   obtain ⟨m,hm,hp⟩:=h
   rcases vJ.mp hm with rfl | hm
   ·exact absurd hp hn
   ·exact qN ⟨m,hm,hp⟩
noncomputable def great (ls:zf):Int:=eY (eQ 0 ls)
structure DayOk (most:Nat) (ls:zf):Prop where
 len:ls.length<=most
 pos:∃ n∈ls,n > 0
 le:∀ n∈ls,0<=n/\n<=1001
theorem Zke {ls:zf} (h:∀ n∈ls,0<=n):∀ n∈ls,n<=ls.sum:=by
 induction ls with
 | nil=>intro n hn; cases hn
 | cons a l ih =>
  intro n hn
  have h0:0<=l.sum:=by
   clear ih hn
   have h':∀ n∈l,0<=n:=λm hm=>h m (ve _ hm)
   clear h
   induction l with
   | nil=>decide
   | cons b l ih2 =>
    rw [w8]
    have:=h' b (by simp)
    have:=ih2 λm hm=>h' m (ve _ hm)
    omega
  have ha:=h a (by simp)
  rw [w8]
  rcases vJ.mp hn with rfl | hn
  ·omega
  ·have:=ih (λm hm=>h m (ve _ hm)) n hn
   omega
theorem DayOk.B {m:Nat} {ls:zf} (h:DayOk m ls) (hm:m<=16):DayB ls:=by
 refine ⟨vS h.len hm,λw hw=>?_,λw hw=>(h.le w hw).1,?_⟩
 ·have:=h.le w hw
  exact bJ (by show -1073741824 < _; omega) (by show _ < 1073741824; omega)
 ·obtain ⟨n,hn,hp⟩:=h.pos
  have:=Zke (λn hn=>(h.le n hn).1) n hn
  omega
structure Shp.Dr (s:Shp):Prop where
 t0:0<=s.top
 d0:0<=s.depth
 td:s.top+s.depth<=39
 p:∀ n∈[s.start,s.piece,s.keep,s.lack,s.lost,s.back,s.late],0<=n/\n<=1000000
theorem Shp.Dr.ok {s:Shp} (h:s.Dr):s.Ok:=by
 have hp:=h.p
 simp only [vJ,yA,or_false,forall_eq_or_imp,forall_eq] at hp
 obtain ⟨h1,h2,h3,h4,h5,h6,h7⟩:=hp
 have k:∀ n:Int,0<=n/\n<=1000000->nb 45 n:=λn hn=>bJ (by show -35184372088832 < _; omega) (by show _ < 35184372088832; omega)
 exact ⟨h.t0,h.d0,by have:=h.td; omega,h1.1,k _ h1,k _ h2,k _ h3,k _ h4,k _ h5,k _ h6,k _ h7⟩
theorem ZaS {a b c d e f g h i:Int}:PyData.tuple [.int a,.int b,.int c,.int d,.int e,.int f,.int g,.int h,.int i]=(Shp.mk a b c d e f g h i).d:=by
 unfold Shp.d
 rfl
theorem oO (l:zf):cJ (tI l)=.ret (l.map PyData.int):=rfl
theorem ZdL (l:zf):cJ (lI l)=.ret (l.map PyData.int):=rfl
theorem ZdM (l:List zf):cJ (fD l)=.ret (l.map tI):=rfl
theorem fq (l:zf):bZ cH [tI l]=.ret (.int l.sum):=oZ l
theorem Zm8 (l:List zf):bZ c9 [fD l]=.ret (.int l.length):=by
 show Tr.ret (PyData.int ((l.map tI).length:Int))=_
 rw [vd]
end Tw
set_option Elab.async false
set_option linter.all false
set_option maxRecDepth 100000
set_option exponentiation.threshold 9000
namespace Tw
open L2
end Tw
set_option Elab.async false
set_option linter.all false
set_option maxRecDepth 100000
set_option exponentiation.threshold 9000
namespace Tw
open L2
theorem euclid {p:y6} {s:y8} {E:Nat->Nat->List Sl} (hp:∀ a b:Nat,p (E a b)=.ret (decide (b≠0))) (hs:∀ a b:Nat,b≠0->s (E a b)=.ret (.next (E b (a % b)))) :
  ∀ n k a b:Nat,b < 2 ^ n->c5 p s (2 * n+1+k) (E a b)=.ret (.next (E (Nat.gcd a b) 0)):=by
 have stop:∀ k a:Nat,c5 p s (k+1) (E a 0)=.ret (.next (E a 0)):=λk a=>by
  rw [c5,hp,Tr.ret_bind]
  rfl
 have go:∀ k a b:Nat,b≠0->c5 p s (k+1) (E a b)=c5 p s k (E b (a % b)):=λk a b hb=>by
  rw [c5,hp,Tr.ret_bind,decide_eq_true hb,if_pos rfl,hs a b hb,Tr.ret_bind]
 intro n
 induction n with
 | zero =>
  intro k a b hb
  have e:b=0:=by simp at hb; exact hb
  subst e
  rw [Nat.gcd_zero_right,xC (2 * 0+1) k]
  exact stop k a
 | succ n ih =>
  intro k a b hb
  by_cases h0:b=0
  ·subst h0
   have e:2 * (n+1)+1+k=(2 * (n+1)+k)+1:=by omega
   rw [Nat.gcd_zero_right,e]
   exact stop _ a
  ·have e:2 * (n+1)+1+k=(2 * n+2+k)+1:=by omega
   rw [e,go _ a b h0]
   have hr:a % b < b:=Nat.mod_lt _ (wE h0)
   by_cases h1:a % b=0
   ·rw [h1]
    have e2:2 * n+2+k=(2 * n+1+k)+1:=by omega
    have eg:Nat.gcd a b=b:=by rw [x9,Nat.gcd_rec,h1,Nat.gcd_zero_left]
    rw [e2,eg]
    exact stop _ b
   ·have e2:2 * n+2+k=(2 * n+1+k)+1:=by omega
    rw [e2,go _ b (a % b) h1]
    have hlt:b % (a % b) < 2 ^ n:=by
     have h2:b % (a % b) < a % b:=Nat.mod_lt _ (wE h1)
     have h3:b % (a % b)+a % b<=b:=by
      have h4:=Nat.div_add_mod b (a % b)
      have h5:1<=b / (a % b):=(Nat.le_div_iff_mul_le (wE h1)).mpr (by omega)
      have h6:a % b<=(a % b) * (b / (a % b)):=Nat.le_mul_of_pos_right _ h5
      omega
     rw [Nat.pow_succ] at hb
     omega
    rw [ih k (a % b) (b % (a % b)) hlt]
    have eg:Nat.gcd a b=Nat.gcd (a % b) (b % (a % b)):=by
     rw [x9 a b,Nat.gcd_rec b a,Nat.gcd_rec (a % b) b,x9]
    rw [eg]
theorem Zeh (a b:Nat):(a:Int).fmod (b:Int)=((a % b:Nat):Int):=by
 rw [yJ _ (Int.natCast_nonneg b)]
 rfl
theorem ZiV (n:Int):pP n=(n.natAbs:Int):=by
 unfold pP
 split <;> omega
noncomputable def cI (t b:Int):PyData:=.tuple [.int (Gc.bU t b),.int (Gc.bQ t b)]
theorem sP {t b:Int} {k l:Nat} (ht:nb k t) (hb:nb l b) (h0:b≠0):nb k (Gc.bU t b)/\nb l (Gc.bQ t b):=by
 obtain ⟨h1,h2⟩:=Gc.ZmU (t:=t) h0
 exact ⟨wN h1 ht,wN h2 hb⟩
theorem ZhQ {t b:Int} {l:Nat} (hb:nb l b) (h0:b≠0):nb l (Gc.den t b):=by
 unfold nb
 rw [Gc.t5]
 exact wN (Nat.gcd_le_right _ (by omega)) hb
noncomputable def iw (c sc l:Int):PyData:=.tuple [cI c sc,.int l]
noncomputable def Shp.lv (s:Shp) (day:zf) (rest:List zf) (x:Int):Int:=lvl (s.sms day rest) s.top ((s.bk rest).2 * day.sum * s.start) x
noncomputable def Shp.tday (s:Shp) (day:zf) (rest:List zf):PyData:=.tuple ((aG (-s.depth) s.n).map λx=>iw ((s.bk (day::rest)).1 x) (s.bk (day::rest)).2 (s.lv day rest x))
noncomputable def Shp.tab (s:Shp):List zf->List PyData
 | []=>[]
 | day::rest=>s.tday day rest::s.tab rest
theorem Zaq (s:Shp):∀ fs:List zf,(s.tab fs).length=fs.length
 | []=>rfl
 | d::r=>by rw [Shp.tab,vp,vp,Zaq s r]
noncomputable def pr (p:Int×Int):zf:=[p.1,p.2]
end Tw
set_option Elab.async false
set_option linter.all false
set_option maxRecDepth 100000
namespace L2
variable {PK:Pk} {X:Cx} {st:Stmt} {i n:yZ}
noncomputable def Zci (K:yY):V->V->Hp->VK->Prop:=λx y H Q=>∃ p xs i v,x=.ref p/\y=.int i/\SqL K H p xs/\0<=i/\bw xs i=some v/\Q v H
theorem ZdY:ZiZ X (Zci X.K):=by
 intro pins s σ H x y v u Q I rx ry h
 obtain ⟨p,xs,i,z,rfl,rfl,hq,h0,he,q⟩:=h
 cases rx
 obtain ⟨t,rfl⟩:=ry
 obtain ⟨its,r,pl,hz⟩:=I.list hq
 obtain ⟨j,h1,h2,h3,h4,h5⟩:=pG he
 obtain ⟨w,ew,rw'⟩:=r.get h2
 have hl:=r.length
 have hn:=iq
 have fin:EP X pins σ Q w s:=⟨z,H,I,rw',q⟩
 have hj:i.toNat=j:=by
  rw [seqIndex_of h0 h5] at h1
  exact vX h1
 exact wpAny_getItem_list pl.isList h0 (by omega) (by rw [hj]; simpa using ew) fin
noncomputable def sG (xs:ze):PyData->Option (Nat×Int)
 | .int y=>if 0<=y then (match xs[y.toNat]? with | some (.int a)=>some (y.toNat,a) | _=>none) else none
 | _=>none
noncomputable def ZdT:PyData->Option Int
 | .int b=>some b
 | _=>none
noncomputable def jt (g:Int->Int->Int) (k:Nat) (n i:yZ):y8:=λρ=>match ρ[k]? with
 | some (.own xs)=>(n ρ).bind λy=>(Tr.of (sG xs y)).bind λja=>(i ρ).bind λz=>(Tr.of (ZdT z)).bind λb=>.ret (.next (ρ.set k (.own (xs.set ja.1 (.int (g ja.2 b))))))
 | _=>.fail
theorem ZiL {k:Nat} {g:Int->Int->Int} (h:PS X st (Zax (fj k) (TAe PK n) (TAe PK i) (Zci X.K) (tu g) rL)):PS X st (bG PK (jt g k n i)):=h.imp λD σ H hz0=>by
 obtain ⟨pa,zm,H₀,m,ρ,G,R,z⟩:=hz0
 unfold jt at z
 split at z
 ·rename_i xs hx
  obtain ⟨o,h1,h2⟩:=R.sl k _ hx
  cases h2 with
  | @own p vs _ a1 a2 a3 a4 =>
   refine ⟨_,h1,?_⟩
   refine TAe.then R z λm1 y v G1 H1 s1 w1 R1 d1 q1=>?_
   rw [Tr.ok_bind] at q1
   obtain ⟨ja,hja,q1⟩:=Tr.ok_of q1
   cases d1 with
   | int y =>
    have hy:∃ a,0<=y/\xs[y.toNat]?=some (.int a)/\ja=(y.toNat,a):=by
     have hja:(if 0<=y then (match xs[y.toNat]? with | some (.int a)=>some (y.toNat,a) | _=>none) else none)=some ja:=hja
     by_cases h0:0<=y
     ·rw [if_pos h0] at hja
      cases e:xs[y.toNat]? with
      | none=>rw [e] at hja; cases hja
      | some u =>
       rw [e] at hja
       cases u with
       | int a=>cases hja; exact ⟨a,h0,rfl,rfl⟩
       | _=>cases hja
     ·rw [if_neg h0] at hja; cases hja
    obtain ⟨a,h0,hat,rfl⟩:=hy
    obtain ⟨o,h1',h2⟩:=R1.sl k _ hx
    rw [h1] at h1'
    cases h1'
    cases h2 with
    | @own _ vs1 _ b1 b2 b3 b4 =>
     obtain ⟨va,hva,da⟩:=DnAll.get y.toNat b4 hat
     cases da
     refine ⟨p,vs1,y,.int a,rfl,rfl,SqL.of b1,h0,fe h0 hva,?_⟩
     refine TAe.then R1 q1 λm2 z2 u G2 H2 s2 w2 R2 d2 q2=>?_
     rw [Tr.ok_bind] at q2
     obtain ⟨b,hb,q2⟩:=Tr.ok_of q2
     cases d2 with
     | int b' =>
      cases hb
      obtain ⟨o,h1',h2⟩:=R2.sl k _ hx
      rw [h1] at h1'
      cases h1'
      cases h2 with
      | @own _ vs2 _ c1 c2 c3 c4 =>
       have hlt:y.toNat < xs.length:=(vf.mp hat).1
       refine ⟨a,b,rfl,rfl,p,vs2,y,y.toNat,rfl,rfl,c1,?_,?_⟩
       ·unfold cR
        rw [if_pos h0,if_pos (by rw [c4.length]; omega)]
       ·exact q2 σ G2 _ (s1.gs.trans s2.gs) (R2.change hx h1 (c4.set y.toNat (.int _)))
     | _=>cases hb
   | _=>cases hja
 ·exact z.elim
variable {ρ:zl} {k:Nat} {g:Int->Int->Int} {xs:ze} {sl:Sl}
noncomputable def ag3 (g:Int->Int->Int) (k:Nat) (xs:ze) (ρ:zl) (ja:Nat×Int) (b:Int):Tr Ou:=.ret (.next (ρ.set k (.own (xs.set ja.1 (.int (g ja.2 b))))))
noncomputable def uE (g:Int->Int->Int) (k:Nat) (xs:ze) (ρ:zl) (ja:Nat×Int) (z:PyData):Tr Ou:=(Tr.of (ZdT z)).bind (ag3 g k xs ρ ja)
noncomputable def uF (g:Int->Int->Int) (k:Nat) (i:yZ) (xs:ze) (ρ:zl) (ja:Nat×Int):Tr Ou:=(i ρ).bind (uE g k xs ρ ja)
noncomputable def uG (g:Int->Int->Int) (k:Nat) (i:yZ) (xs:ze) (ρ:zl) (y:PyData):Tr Ou:=(Tr.of (sG xs y)).bind (uF g k i xs ρ)
theorem ZgV (h:ρ[k]?=some (.own xs)):jt g k n i ρ=(n ρ).bind (uG g k i xs ρ):=by
 unfold jt
 rw [h]
 rfl
theorem Zhd {y:Int} {a:Int} (h0:0<=y) (h:xs[y.toNat]?=some (.int a)):uG g k i xs ρ (.int y)=uF g k i xs ρ (y.toNat,a):=by
 have e:sG xs (.int y)=some (y.toNat,a):=by
  show (if 0<=y then (match xs[y.toNat]? with | some (.int a)=>some (y.toNat,a) | _=>none) else none)=_
  rw [if_pos h0,h]
 unfold uG
 rw [e]
 rfl
theorem Zhc {ja:Nat×Int}:uF g k i xs ρ ja=(i ρ).bind (uE g k xs ρ ja):=rfl
theorem Zhb {ja:Nat×Int} (b:Int):uE g k xs ρ ja (.int b)=.ret (.next (ρ.set k (.own (xs.set ja.1 (.int (g ja.2 b)))))):=rfl
end L2
set_option Elab.async false
set_option linter.all false
set_option maxRecDepth 100000
namespace L2
variable {PK:Pk} {X:Cx} {e:Expr} {pos:Pos} {is:y4} {st:Stmt} {s:y8}
noncomputable def rem (H:Hp) (p:Addr):Hp:=λb=>if b=p then none else H b
theorem rJ {H:Hp} {p b:Addr} (h:b≠p):rem H p b=H b:=if_neg h
theorem Zk5 {H:Hp} {p:Addr}:rem H p p=none:=if_pos rfl
theorem Zk4 {H:Hp} {p b:Addr} {o:HO} (h:rem H p b=some o):H b=some o:=by
 unfold rem at h
 split at h
 ·cases h
 ·exact h
def ZqQ (PK:Pk) (f:y9):Sp:=λvs H Q _=>∃ p us xs pa m G,vs=[.ref p]/\H p=some (.lst us)/\G p=none/\p≠pa/\Wd PK pa m G H/\DnAll G us xs/\(f [.own xs]).ok m λm' r=>Kr PK pa m' G (rem H p) r Q
def u9 (PK:Pk) (P:Program) (w:World) (K:yY) (mg:zj) (base:Heap) (x:Str) (k:Nat) (y:Str) (f:y9):Prop:=Callee P w K mg base x k [y] (ZqQ PK f)
theorem ZqO {P:Program} {w:World} {K:yY} {mg:zj} {base:Heap} {x y:Str} {N:zh} {kk k:Nat} (D:Def K mg x st [y]) (S:FnScope N [y] (aL st)) (hk:N.length - 1=k) (hN:1<=N.length)
  (hbody:∀ (f:Addr) (cdv:Value) (A:Around) (outer:List Env) (sh:Shared) (H:Hp) (E:XK),Room kk (A.deeper (envOfC x (aL st) sh.heap.objs.size f cdv)) ->
   PSs (gR hU P w K mg base N x (aL st) f cdv A outer sh H E).nox (gv st) (bG PK s)):u9 PK P w K mg base x (kk+1) y (bg 1 k s):=by
 refine D.ok S (λvs H Q E h=>?_) λf cdv A outer sh H vs Q E hr hsp=>?_
 ·obtain ⟨p,us,xs,pa,m,G,rfl,_⟩:=h
  rfl
 ·obtain ⟨p,us,xs,pa,m,G,rfl,h1,h2,h3,wd,dn,z⟩:=hsp
  refine ⟨_,hbody f cdv A outer sh H E hr,?_⟩
  unfold bg at z
  obtain ⟨_,z⟩:=gK z
  have R:Rl PK pa G (rem H p) m (L2.start N [.ref p]) ([.own xs]++List.replicate k .un) G H:=by
   obtain ⟨o,ho,hpk⟩:=wd.pen
   have hs:∀ (q:Nat) (sl:Sl),([Sl.own xs]++List.replicate k .un)[q]?=some sl->(q=0/\sl=.own xs)\/(1<=q/\q < k+1/\sl=.un):=λq sl h=>by
    cases q with
    | zero=>simp at h; exact .inl ⟨rfl,h.symm⟩
    | succ q =>
     simp only [List.cons_append,yb,xT,vW] at h
     split at h
     ·cases h
      exact .inr ⟨by omega,by omega,rfl⟩
     ·cases h
   refine ⟨wd,⟨λ_ _ h=>h,λ_ _ h=>.inl h,λb o h _=>Zk4 h⟩,⟨o,by rw [rJ (Ne.symm h3)]; exact ho⟩,λq sl h=>?_,?_,λq n xs ys hn q1 q2=>?_,λq n xs ys hn q1 q2=>?_⟩
   ·rcases hs q sl h with ⟨rfl,rfl⟩ | ⟨a,b,rfl⟩
    ·exact ⟨_,rfl,.own h1 h2 Zk5 dn⟩
    ·unfold L2.start
     refine ⟨none,?_,.un⟩
     rw [v5 (by simpa using a),vW,if_pos (by simp; omega)]
   ·unfold L2.start
    simp
    omega
   ·rcases hs q _ q1 with ⟨rfl,_⟩ | ⟨_,_,z⟩
    ·rcases hs n _ q2 with ⟨rfl,_⟩ | ⟨_,_,z⟩
     ·exact absurd rfl hn
     ·cases z
    ·cases z
   ·rcases hs q _ q1 with ⟨_,z⟩ | ⟨_,_,z⟩ <;> cases z
  refine ⟨pa,G,rem H p,m,_,G,R,Tr.ok_mono (Tr.ok_bind.mp z) λm1 o ko=>?_⟩
  cases o with
  | next ρ=>exact λσ G1 H1 sb R1=>ko .non G1 H1 R1.st R1.wd .non
  | ret r=>exact ko
  | brk ρ=>exact ko.elim
  | cont ρ=>exact ko.elim
noncomputable def cO (f:y9) (xs:ze):Tr Re:=f [.own xs]
noncomputable def uU (f:y9) (is:y4):y9:=λρ=>(is ρ).bind (cO f)
theorem Zn1 {f:y9} {ρ:zl}:uU f is ρ=(is ρ).bind (cO f):=rfl
theorem Zn2 {f:y9} {xs:ze}:cO f xs=f [.own xs]:=rfl
theorem Zqv {x y:Str} {k:Nat} {f:y9} {pp:Pos} (C:u9 PK X.prog X.w X.K X.mg X.base x k y f) (hr:Room k X.A) (hg:Gl X x) (ha:PE X e (eM PK is))
  (hdb:(x == ("__debug__":Str))=false:=by decide)
  (hs:starEach [e] X.env=(false,eval e X.env)::starEach [] X.env:=by rfl) (hpl:(backTo pos (starEach [] X.env)).any (·.1)=false:=by rfl):PE X (.Call (.Name x pp) [e] [] pos) (mE PK (uU f is)) :=
 (nL C hr hg (bH ha cC hs) hdb hs hpl).imp λσ H Q hz0=>by
  obtain ⟨pa,zm,H₀,m,ρ,G,R,z⟩:=hz0
  refine ⟨pa,zm,H₀,m,ρ,G,R,Tr.ok_mono (Tr.ok_bind.mp z) λm1 xs q1=>?_⟩
  intro p vs G' H' s1 w1 hp hgp hl dn
  obtain ⟨o,ho,_⟩:=R.wd.pen
  have hne:p≠pa:=λe=>by rw [e,ho] at hp; cases hp
  refine ⟨p,vs,xs,pa,m1,G',rfl,hl,hgp,hne,w1,dn,Tr.ok_mono q1 λm2 r k=>?_⟩
  refine Kr.later k ⟨s1.gs,s1.gn,λb o h n=>?_⟩ ?_
  ·have hb:b≠p:=λe=>by rw [e,hp] at h; cases h
   rw [rJ hb]
   exact s1.hk b o h n
  ·obtain ⟨o',ho',_⟩:=w1.pen
   exact ⟨o',by rw [rJ (Ne.symm hne)]; exact ho'⟩
end L2
set_option Elab.async false
set_option linter.all false
set_option maxRecDepth 100000
namespace Tw
open L2
theorem Zjs {s:Shp} {W:Int->Int} {B x y:Int} (hx:x<=y) (hy:y<=s.top):cst (λy=>B * s.piece * y+W y) s.top (B * s.start) (B * s.piece) x<=s.ord x y * B+W y:=by
 obtain ⟨p1,p2⟩:=sx (g:=λy=>B * s.piece * y+W y) (K:=B * s.start) (x:=x) (top:=s.top) (by omega)
 unfold cst Shp.ord
 by_cases h:y<=x
 ·have e:y=x:=by omega
  subst e
  rw [if_pos h]
  omega
 ·rw [if_neg h]
  have:=p2 y (by omega) hy
  have e:(s.start+s.piece * (y - x)) * B+W y=B * s.start+(B * s.piece * y+W y) - B * s.piece * x:=by grind
  rw [e]
  omega
theorem Zqk (s:Shp) (day:zf) (rest:List zf):(s.bk (day::rest)).1=cst (λy=>(s.bk rest).2 * day.sum * s.piece * y+s.wg day y (s.bk rest).1 (s.bk rest).2) s.top ((s.bk rest).2 * day.sum * s.start) ((s.bk rest).2 * day.sum * s.piece):=rfl
theorem mN {f g:Int->Int}:∀ {l:zf} {k:Nat},(∀ w∈l,0<=w)->(∀ x:Int,0<=x->f x<=g x)->ws f k l<=ws g k l
 | [],k,_,_=>vN _
 | w::l,k,hw,h=>by
  unfold ws
  have h1:=vK (h k (by omega)) (hw w (by simp))
  have h2:=mN (l:=l) (k:=k+1) (λv hv=>hw v (ve _ hv)) h
  omega
theorem jD {f g:Int->Int}:∀ {l:zf} {k:Nat},ws (λx=>f x+g x) k l=ws f k l+ws g k l
 | [],k=>rfl
 | w::l,k=>by
  unfold ws
  rw [jD (l:=l),wt]
  omega
theorem fW {f:Int->Int} {m:Int}:∀ {l:zf} {k:Nat},ws (λx=>m * f x) k l=m * ws f k l
 | [],k=>by unfold ws; simp
 | w::l,k=>by
  unfold ws
  rw [fW (l:=l)]
  grind
theorem Zin {g:Int->Int} {top m:Int} (hm:0 < m):∀ n:Nat,bst (λy=>m * g y) top n=(m * (bst g top n).1,(bst g top n).2)
 | 0=>rfl
 | n+1=>by
  unfold bst
  rw [Zin hm n]
  dsimp only
  by_cases h:(bst g top n).1 < g (top - ((n+1:Nat):Int))
  ·rw [if_pos h,if_pos (xc h hm)]
  ·rw [if_neg h,if_neg (λz=>h (xH z (vG hm)))]
theorem ZcF {g:Int->Int} {top K m x:Int} (hm:0 < m) (hx:x<=top):pck (λy=>m * g y) top (m * K) x=(m * (pck g top K x).1,(pck g top K x).2):=by
 by_cases ht:x=top
 ·subst ht
  rw [iU,iU]
 ·obtain ⟨n,hn⟩:∃ n:Nat,x=top - ((n+1:Nat):Int):=⟨(top - x - 1).toNat,by omega⟩
  subst hn
  rw [iV,iV,Zin hm]
  dsimp only
  rw [<- wt]
  by_cases h:K+(bst g top n).1 < g (top - ((n+1:Nat):Int))
  ·rw [if_pos h,if_pos (xc h hm)]
  ·rw [if_neg h,if_neg (λz=>h (xH z (vG hm)))]
end Tw
set_option Elab.async false
set_option linter.all false
set_option maxRecDepth 100000
namespace Tw
open L2
noncomputable abbrev Rw:=zf×Int
noncomputable def tot (X:List Rw) (c:List Int->Int):Int:=(X.map λp=>p.2 * c p.1).sum
noncomputable def av:List zf->(List Int->Int)->Int
 | [],c=>c []
 | d::fs,c=>ws (λf=>av fs λr=>c (f::r)) 0 d
noncomputable def prd:List zf->Int
 | []=>1
 | d::fs=>prd fs * d.sum
theorem lr (s:Shp):∀ fs:List zf,prd fs=(s.bk fs).2
 | []=>rfl
 | d::fs=>by
  show prd fs * d.sum=(s.bk fs).2 * d.sum
  rw [lr s fs]
theorem jC {a:Int}:∀ (l:zf) (k:Nat),ws (λ_=>a) k l=a * l.sum
 | [],k=>by simp [ws]
 | w::l,k=>by
  unfold ws
  rw [jC l,w8,wt,wD]
theorem ZiC {a:Int}:∀ {fs:List zf} {c:List Int->Int},av fs (λr=>a+c r)=a * prd fs+av fs c
 | [],c=>by
  show a+c []=a * 1+c []
  omega
 | d::fs,c=>by
  show ws (λf=>av fs λr=>a+c (f::r)) 0 d=a * (prd fs * d.sum)+ws (λf=>av fs λr=>c (f::r)) 0 d
  have e:(λf=>av fs λr=>a+c (f::r))=λf=>a * prd fs+av fs λr=>c (f::r):=funext λf=>ZiC
  rw [e,jD,jC]
  grind
noncomputable def Shp.rc (s:Shp):List (Int->Int)->List Int->Int->Int
 | g::rl,f::row,x=>s.ord x (g x)+s.day (g x) f+s.rc rl row (s.nx (g x) f)
 | _,_,x=>s.fin x
def Shp.RlOk (s:Shp) (g:Int->Int):Prop:=∀ x,-s.depth<=x->x<=s.top->x<=g x/\g x<=s.top
theorem ur {s:Shp} {g:Int->Int} {rl:List (Int->Int)} {d:zf} {fs:List zf} {x:Int}:av (d::fs) (λr=>s.rc (g::rl) r x)=s.ord x (g x) * (prd fs * d.sum)+ws (λf=>prd fs * s.day (g x) f+av fs λr=>s.rc rl r (s.nx (g x) f)) 0 d:=by
 show ws (λf=>av fs λr=>s.rc (g::rl) (f::r) x) 0 d=_
 have e:(λf=>av fs λr=>s.rc (g::rl) (f::r) x)=λf=>s.ord x (g x) * prd fs+(prd fs * s.day (g x) f+av fs λr=>s.rc rl r (s.nx (g x) f)):=funext λf=>by
  have e2:(λr=>s.rc (g::rl) (f::r) x)=λr=>(s.ord x (g x)+s.day (g x) f)+s.rc rl r (s.nx (g x) f):=rfl
  rw [e2,ZiC,yI,wD (s.day (g x) f)]
  omega
 rw [e,jD (f:=λ_=>s.ord x (g x) * prd fs),jC,yW]
theorem rK {s:Shp} (h:s.Ok):∀ {fs:List zf} {rl:List (Int->Int)},(∀ l∈fs,DayB l)->(∀ g∈rl,s.RlOk g)->rl.length=fs.length->∀ x,-s.depth<=x->x<=s.top->(s.bk fs).1 x<=av fs λr=>s.rc rl r x
 | [],rl,_,_,_,x,_,_=>by
  unfold av Shp.rc
  cases rl <;> exact vN _
 | d::fs,[],_,_,hl,_,_,_=>by cases hl
 | d::fs,g::rl,hf,hr,hl,x,x1,x2=>by
  have hd:=hf d (by simp)
  have hf':∀ l∈fs,DayB l:=λl hl=>hf l (ve _ hl)
  have ih:=rK h (fs:=fs) (rl:=rl) hf' (λg hg=>hr g (ve _ hg)) (by rw [vp,vp] at hl; omega)
  obtain ⟨g1,g2⟩:=hr g (by simp) x x1 x2
  have k1:=Zjs (s:=s) (W:=λy=>s.wg d y (s.bk fs).1 (s.bk fs).2) (B:=(s.bk fs).2 * d.sum) g1 g2
  rw [Zqk,ur,lr s fs]
  have k2:s.wg d (g x) (s.bk fs).1 (s.bk fs).2<=ws (λf=>(s.bk fs).2 * s.day (g x) f+av fs λr=>s.rc rl r (s.nx (g x) f)) 0 d:=by
   unfold Shp.wg
   refine mN hd.w0 λf f0=>?_
   have:=ih (s.nx (g x) f) (eV s _ f) (eU h g2 f0)
   omega
  omega
theorem Zjr {s:Shp} {W:Int->Int} {B x:Int} (hx:x<=s.top):x<=lvl (λy=>B * s.piece * y+W y) s.top (B * s.start) x/\lvl (λy=>B * s.piece * y+W y) s.top (B * s.start) x<=s.top/\cst (λy=>B * s.piece * y+W y) s.top (B * s.start) (B * s.piece) x=s.ord x (lvl (λy=>B * s.piece * y+W y) s.top (B * s.start) x) * B+W (lvl (λy=>B * s.piece * y+W y) s.top (B * s.start) x):=by
 obtain ⟨q1,q2,q3⟩:=ly (g:=λy=>B * s.piece * y+W y) (K:=B * s.start) (x:=x) (top:=s.top) hx
 unfold lvl
 refine ⟨q1,q2,?_⟩
 generalize hl:(pck (λy=>B * s.piece * y+W y) s.top (B * s.start) x).2=l at *
 unfold cst Shp.ord
 rcases q3 with ⟨e1,e2⟩ | ⟨e1,e2,_⟩
 ·rw [e2,if_pos (by omega),e1]
  omega
 ·rw [e2,if_neg (by omega)]
  grind
theorem ZmO {s:Shp} (d:zf) (fs:List zf) {x:Int} (hx:x<=s.top):x<=s.lv d fs x/\s.lv d fs x<=s.top/\(s.bk (d::fs)).1 x=s.ord x (s.lv d fs x) * ((s.bk fs).2 * d.sum)+s.wg d (s.lv d fs x) (s.bk fs).1 (s.bk fs).2:=by
 have:=Zjr (s:=s) (W:=λy=>s.wg d y (s.bk fs).1 (s.bk fs).2) (B:=(s.bk fs).2 * d.sum) hx
 exact this
theorem jX {s:Shp} (h:s.Ok) {x y:Int} (hx:nb 20 x) (hy:nb 20 y):nb 100 (s.ord x y):=by
 unfold Shp.ord
 exact lD (show (0:Int).natAbs < 2 ^ 100 from wE (by simp)) (aD (cU h.start (bf h.piece (eW hy hx))) (by decide))
theorem dF {s:Shp} (h:s.Ok) {x:Int} (x1:-s.depth<=x) (x2:x<=s.top):nb 20 x:=by
 have:=h.t0
 have:=h.d0
 have:=h.td
 exact bJ (by show -1048576 < _; omega) (by show _ < 1048576; omega)
theorem Zb0 {s:Shp} (h:s.Ok):∀ {row:zf} {rl:List (Int->Int)},(∀ g∈rl,s.RlOk g)->(∀ f∈row,0<=f/\f < 16)->∀ x,-s.depth<=x->x<=s.top->nb (102+row.length) (s.rc rl row x)
 | [],rl,_,_,x,x1,x2=>by
  have e:s.rc rl [] x=s.fin x:=by cases rl <;> rfl
  rw [e]
  exact aD (tO h x x1 x2) (by decide)
 | f::row,[],_,_,x,x1,x2=>aD (tO h x x1 x2) (by omega)
 | f::row,g::rl,hr,hf,x,x1,x2=>by
  obtain ⟨g1,g2⟩:=hr g (by simp) x x1 x2
  obtain ⟨f0,f1⟩:=hf f (by simp)
  have ih:=Zb0 h (row:=row) (rl:=rl) (λg hg=>hr g (ve _ hg)) (λv hv=>hf v (ve _ hv)) (s.nx (g x) f) (eV s _ f) (eU h g2 f0)
  have hy:=dF h (show -s.depth<=g x by omega) g2
  rw [vp]
  unfold Shp.rc
  exact aD (cU (cU (jX h (dF h x1 x2) hy) (kz h hy (bJ (k:=40) (by show -1099511627776 < _; omega) (by show _ < 1099511627776; omega)))) ih) (by omega)
theorem qp {f:Int->Int} {a b:Nat}:∀ {l:zf} {k:Nat},(∀ w∈l,nb a w)->(∀ x:Int,(k:Int)<=x->x < k+l.length->nb b (f x))->nb (a+b+l.length) (ws f k l)
 | [],k,_,_=>by unfold ws nb; exact wE (by simp)
 | w::l,k,hw,hf=>by
  rw [vp] at hf ⊢
  have h1:=bf (hw w (by simp)) (hf k (by omega) (by omega))
  have h2:=qp (f:=f) (a:=a) (b:=b) (l:=l) (k:=k+1) (λv hv=>hw v (ve _ hv)) λx x1 x2=>hf x (by omega) (by omega)
  unfold ws
  exact aD (cU h1 h2) (by omega)
theorem ZiB {b:Nat}:∀ {fs:List zf} {c:List Int->Int},(∀ l∈fs,DayB l)->(∀ r:zf,(∀ f∈r,0<=f/\f < 16)->r.length=fs.length->nb b (c r))->nb (b+46 * fs.length) (av fs c)
 | [],c,_,hc=>hc [] (λf h=>by cases h) rfl
 | d::fs,c,hf,hc=>by
  have hd:=hf d (by simp)
  have hlen:=hd.len
  rw [vp]
  unfold av
  refine aD (qp (a:=30) (b:=b+46 * fs.length) hd.nb λx x1 x2=>?_) (by omega)
  refine ZiB (λl hl=>hf l (ve _ hl)) λr hr hl=>hc (x::r) (λf hf=>?_) (by rw [vp,vp,hl])
  rcases vJ.mp hf with rfl | hf
  ·exact ⟨by omega,by omega⟩
  ·exact hr f hf
noncomputable def rD (s:Shp) (rl:List (Int->Int)):PyData:=.tuple (rl.map λg=>tI (s.row g))
end Tw
set_option Elab.async false
set_option linter.all false
set_option maxRecDepth 100000
namespace Tw
open L2
end Tw
set_option Elab.async false
set_option linter.all false
set_option maxRecDepth 100000
namespace L2
theorem Zec {g:zb} {s:y8} {r:Re} {full:ze} (B:List PyData->PyData->Prop) (I:List PyData->List Sl->Prop)
  (ht:∀ pre x post ρ,full=pre++x::post->I pre ρ->∃ ρ1,g x ρ=some ρ1/\((B pre x/\s ρ1=.ret (.ret r))\/(¬ B pre x/\∃ ρ2,s ρ1=.ret (.next ρ2)/\I (pre++[x]) ρ2))) :
  ∀ {xs pre:ze} {ρ:zl},full=pre++xs->I pre ρ->(∀ p x q,pre=p++x::q->¬ B p x) ->
   ((∃ p x q,full=p++x::q/\B p x)/\bX g s xs ρ=.ret (.ret r))\/((∀ p x q,full=p++x::q->¬ B p x)/\∃ ρ2,bX g s xs ρ=.ret (.next ρ2)/\I full ρ2)
 | [],pre,ρ,e,h0,hn=>by
  rw [wn] at e
  subst e
  exact .inr ⟨hn,ρ,rfl,h0⟩
 | x::xs,pre,ρ,e,h0,hn=>by
  obtain ⟨ρ1,e1,hx⟩:=ht pre x xs ρ e h0
  rw [fb,e1,Tr.of_some,Tr.ret_bind]
  unfold l8
  rcases hx with ⟨hb,e2⟩ | ⟨hb,ρ2,e2,h2⟩
  ·exact .inl ⟨⟨pre,x,xs,e,hb⟩,by rw [e2,Tr.ret_bind]; rfl⟩
  ·rw [e2,Tr.ret_bind,eE]
   refine Zec B I ht (xs:=xs) (pre:=pre++[x]) (by rw [e,xa]; rfl) h2 λp y q hp=>?_
   rcases List.append_eq_append_iff.mp hp with ⟨a,h1,h2'⟩ | ⟨a,h1,h2'⟩
   ·cases a with
    | nil =>
     rw [yb] at h2'
     rw [wn] at h1
     cases h2'
     subst h1
     exact hb
    | cons z a =>
     simp at h2'
   ·cases a with
    | nil =>
     rw [yb] at h2'
     rw [wn] at h1
     cases h2'
     subst h1
     exact hb
    | cons z a =>
     rw [List.cons_append] at h2'
     cases h2'
     exact hn p y a h1
theorem Zed {g:zb} {s:y8} {r:Re} {xs:ze} {ρ:zl} (B:List PyData->PyData->Prop) (I:List PyData->List Sl->Prop) (h0:I [] ρ)
  (ht:∀ pre x post ρ,xs=pre++x::post->I pre ρ->∃ ρ1,g x ρ=some ρ1/\((B pre x/\s ρ1=.ret (.ret r))\/(¬ B pre x/\∃ ρ2,s ρ1=.ret (.next ρ2)/\I (pre++[x]) ρ2))) :
   ((∃ p x q,xs=p++x::q/\B p x)/\bX g s xs ρ=.ret (.ret r))\/((∀ p x q,xs=p++x::q->¬ B p x)/\∃ ρ2,bX g s xs ρ=.ret (.next ρ2)/\I xs ρ2) :=
 Zec B I ht (xs:=xs) (pre:=[]) rfl h0 λp x q hp=>by
  have:=congrArg List.length hp
  simp at this
end L2
set_option Elab.async false
set_option linter.all false
set_option maxRecDepth 100000
namespace Bar
noncomputable abbrev bE:=Nat->Int
noncomputable def lap (f:bE->Int):List bE->(List bE->Int)->Int
 | [],_=>0
 | c::cs,g=>f c * g cs - lap f cs λr=>g (c::r)
theorem sX (f:bE->Int) (m:Int):∀ (cs:List bE) (g h:List bE->Int),lap f cs (λr=>m * g r - h r)=m * lap f cs g - lap f cs h
 | [],g,h=>by simp [lap]
 | c::cs,g,h=>by
  rw [lap,lap,lap,sX f m cs (λr=>g (c::r)) λr=>h (c::r)]
  grind
theorem Zdy (f:bE->Int):∀ cs:List bE,lap f cs (λ_=>0)=0
 | []=>rfl
 | c::cs=>by rw [lap,Zdy f cs]; simp
theorem sW (f h:bE->Int):∀ (cs:List bE) (g:List bE->Int),lap f cs (λr=>lap h r g)=-lap h cs λr=>lap f r g
 | [],g=>by simp [lap]
 | c::cs,g=>by
  have ih:=sW f h cs λr=>g (c::r)
  have e1:(λr=>lap h (c::r) g)=λr=>h c * g r - lap h r λq=>g (c::q):=rfl
  have e2:(λr=>lap f (c::r) g)=λr=>f c * g r - lap f r λq=>g (c::q):=rfl
  rw [lap,lap,e1,e2,sX,sX,ih]
  grind
noncomputable def D:Nat->List bE->Int
 | 0,_=>1
 | k+1,cs=>lap (λc=>c k) cs (D k)
theorem Zi5:∀ {k r:Nat},r < k->∀ cs:List bE,lap (λc=>c r) cs (D k)=0
 | 0,r,h,_=>by cases h
 | k+1,r,h,cs=>by
  have e:lap (λc=>c r) cs (D (k+1))=lap (λc=>c r) cs λq=>lap (λc=>c k) q (D k):=rfl
  rw [e]
  by_cases hr:r=k
  ·subst hr
   have:=sW (λc=>c r) (λc=>c r) cs (D r)
   omega
  ·rw [sW]
   have ez:(λq=>lap (λc=>c r) q (D k))=λ_=>(0:Int):=funext λq=>Zi5 (by omega) q
   rw [ez,Zdy]
   rfl
variable (A:Nat->Nat->Int)
noncomputable def col (l:Nat):bE:=λr=>A r l
noncomputable def R:Nat->List bE
 | 0=>[]
 | k+1=>col A k::R k
noncomputable def ap (f:Nat->Int):Nat->Int
 | 0=>0
 | n+1=>ap f n+f n
theorem jI {f g:Nat->Int}:∀ {n:Nat},(∀ l,l < n->f l=g l)->ap f n=ap g n
 | 0,_=>rfl
 | n+1,h=>by rw [ap,ap,jI λl hl=>h l (by omega),h n (by omega)]
theorem gA (f g h:Nat->Int) (a b:Int):∀ n:Nat,ap (λl=>f l * (a * g l - b * h l)) n=a * ap (λl=>f l * g l) n - b * ap (λl=>f l * h l) n
 | 0=>by simp [ap]
 | n+1=>by
  rw [ap,ap,ap,gA f g h a b n]
  grind
theorem kR {f:Nat->Int} {n:Nat} (h:∀ l,l < n->f l=0):ap f n=0:=by
 rw [jI (g:=λ_=>0) h]
 induction n with
 | zero=>rfl
 | succ n ih=>rw [ap,ih λl hl=>h l (by omega)]; rfl
noncomputable def dL:Nat->(List bE->Int)->Nat->Int
 | 0,_,_=>0
 | k+1,g,l=>if l=k then g (R A k) else -dL k (λcs=>g (col A k::cs)) l
theorem ZdA (f:bE->Int):∀ (k:Nat) (g:List bE->Int),lap f (R A k) g=ap (λl=>f (col A l) * dL A k g l) k
 | 0,g=>rfl
 | k+1,g=>by
  have e1:ap (λl=>f (col A l) * dL A (k+1) g l) k=-ap (λl=>f (col A l) * dL A k (λcs=>g (col A k::cs)) l) k:=by
   have:∀ n,n<=k->ap (λl=>f (col A l) * dL A (k+1) g l) n=-ap (λl=>f (col A l) * dL A k (λcs=>g (col A k::cs)) l) n:=by
    intro n
    induction n with
    | zero=>intro _; rfl
    | succ n ih =>
     intro hn
     rw [ap,ap,ih (by omega)]
     have e:dL A (k+1) g n=-dL A k (λcs=>g (col A k::cs)) n:=by rw [dL,if_neg (by omega)]
     rw [e]
     grind
   exact this k (vo _)
  have e2:dL A (k+1) g k=g (R A k):=by rw [dL,if_pos rfl]
  rw [R,lap,ZdA f k,ap,e1,e2]
  omega
noncomputable def d (k:Nat):Int:=D k (R A k)
noncomputable def sol (k:Nat) (a:bE):Nat->Int:=dL A k λcs=>D k (a::cs)
noncomputable def F (k:Nat) (i:Nat) (a:bE):Int:=d A k * a i - ap (λl=>A i l * sol A k a l) k
theorem sY (k i:Nat) (a:bE):lap (λc=>c i) (a::R A k) (D k)=F A k i a:=by
 rw [lap,ZdA]
 unfold F d sol col
 rw [wD]
theorem cramer {k r:Nat} (h:r < k) (a:bE):ap (λl=>A r l * sol A k a l) k=d A k * a r:=by
 have:=sY A k r a
 rw [Zi5 h] at this
 unfold F at this
 omega
theorem pd (k:Nat):d A (k+1)=F A k k (col A k):=by
 rw [<- sY]
 rfl
theorem pb:d A 0=1:=rfl
theorem sole:∀ {k:Nat},(∀ j,j<=k->d A j≠0)->∀ {z:Nat->Int},(∀ r,r < k->ap (λl=>A r l * z l) k=0)->∀ l,l < k->z l=0
 | 0,_,z,_,l,hl=>by cases hl
 | k+1,hd,z,hz,l,hl=>by
  have ih:∀ z:Nat->Int,(∀ r,r < k->ap (λl=>A r l * z l) k=0)->∀ l,l < k->z l=0:=λz=>sole (k:=k) (λj hj=>hd j (by omega)) (z:=z)
  have dk:=hd k (by omega)
  have dk1:=hd (k+1) (by omega)
  -- d k times z,beside what the last of z asks of the first k
  have key:∀ l,l < k->1 * (d A k * z l - (-z k) * sol A k (col A k) l)=0:=by
   intro l hl
   have:=ih (λl=>d A k * z l - (-z k) * sol A k (col A k) l) (λr hr=>by
    rw [gA,cramer A hr]
    have h1:=hz r (by omega)
    rw [ap] at h1
    have e:ap (λl=>A r l * z l) k=-(A r k * z k):=by omega
    rw [e]
    show d A k * -(A r k * z k) - -z k * (d A k * A r k)=0
    grind) l hl
   simpa using this
  have hk:z k=0:=by
   have h1:=hz k (by omega)
   rw [ap] at h1
   have e1:ap (λl=>A k l * (d A k * z l - (-z k) * sol A k (col A k) l)) k=0:=kR λl hl=>by
    have:=key l hl
    rw [yE] at this
    rw [this,wV]
   rw [gA] at e1
   have e2:=pd A k
   unfold F at e2
   have e3:ap (λl=>A k l * z l) k=-(A k k * z k):=by omega
   rw [e3] at e1
   have e4:col A k k=A k k:=rfl
   rw [e4] at e2
   generalize ap (λl=>A k l * sol A k (col A k) l) k=S at *
   have e5:z k * d A (k+1)=0:=by
    rw [e2]
    grind
   rcases yG.mp e5 with q | q
   ·exact q
   ·exact absurd q dk1
  by_cases hlk:l=k
  ·rw [hlk]; exact hk
  ·have:=key l (by omega)
   rw [hk] at this
   have e:d A k * z l=0:=by
    rw [yE] at this
    simpa using this
   rcases yG.mp e with q | q
   ·exact absurd q dk
   ·exact q
end Bar
set_option Elab.async false
set_option linter.all false
set_option maxRecDepth 100000
namespace Bar
variable (A:Nat->Nat->Int)
theorem step {k:Nat} (hd:∀ j,j<=k+1->d A j≠0) (a:bE):sol A (k+1) a k=F A k k a/\∀ l,l < k->d A k * sol A (k+1) a l=d A (k+1) * sol A k a l - F A k k a * sol A k (col A k) l:=by
 have dk:=hd k (by omega)
 have e0:=pd A k
 have eF:F A k k a=d A k * a k - ap (λl=>A k l * sol A k a l) k:=rfl
 have eC:F A k k (col A k)=d A k * A k k - ap (λl=>A k l * sol A k (col A k) l) k:=rfl
 rw [eC] at e0
 have low:∀ r,r < k+1->ap (λl=>A r l * (d A k * sol A (k+1) a l - 1 * (d A (k+1) * sol A k a l - F A k k a * sol A k (col A k) l))) k+A r k * (d A k * sol A (k+1) a k - d A k * F A k k a)=0:=by
  intro r hr
  rw [gA,gA]
  have c1:=cramer A hr a
  rw [ap] at c1
  have c1':ap (λl=>A r l * sol A (k+1) a l) k=d A (k+1) * a r - A r k * sol A (k+1) a k:=by omega
  rw [c1']
  by_cases hk:r=k
  ·subst hk
   have q1:ap (λl=>A r l * sol A r a l) r=d A r * a r - F A r r a:=by omega
   have q2:ap (λl=>A r l * sol A r (col A r) l) r=d A r * A r r - d A (r+1):=by omega
   rw [q1,q2]
   grind
  ·have q1:=cramer A (show r < k by omega) a
   have q2:=cramer A (show r < k by omega) (col A k)
   have q2':col A k r=A r k:=rfl
   rw [q2'] at q2
   rw [q1,q2]
   grind
 have z:=sole A hd (z:=λl=>if l=k then d A k * sol A (k+1) a k - d A k * F A k k a else d A k * sol A (k+1) a l - 1 * (d A (k+1) * sol A k a l - F A k k a * sol A k (col A k) l)) (λr hr=>by
  rw [ap,if_pos rfl]
  rw [jI (g:=λl=>A r l * (d A k * sol A (k+1) a l - 1 * (d A (k+1) * sol A k a l - F A k k a * sol A k (col A k) l))) λl hl=>by rw [if_neg (by omega)]]
  exact low r hr)
 constructor
 ·have:=z k (by omega)
  rw [if_pos rfl] at this
  have e:d A k * (sol A (k+1) a k - F A k k a)=0:=by rw [Int.mul_sub]; exact this
  rcases yG.mp e with q | q
  ·exact absurd q dk
  ·omega
 ·intro l hl
  have:=z l (by omega)
  rw [if_neg (by omega)] at this
  omega
noncomputable def M (k i:Nat) (a:bE):Int:=if i < k then sol A k a i else F A k i a
theorem Zrv (i:Nat) (a:bE):M A 0 i a=a i:=by
 unfold M F
 rw [if_neg (by omega),pb,ap]
 omega
theorem u5 (k:Nat):M A k k (col A k)=d A (k+1):=by
 unfold M
 rw [if_neg (by omega),pd]
theorem Zrx {k:Nat} (hd:∀ j,j<=k+1->d A j≠0) (a:bE):M A (k+1) k a=M A k k a:=by
 unfold M
 rw [if_pos (by omega),if_neg (by omega)]
 exact (step A hd a).1
theorem Zrw {k:Nat} (hd:∀ j,j<=k+1->d A j≠0) (a:bE) {i:Nat} (hi:i≠k):d A k * M A (k+1) i a=M A k k (col A k) * M A k i a - M A k i (col A k) * M A k k a:=by
 obtain ⟨s1,s2⟩:=step A hd a
 rw [u5]
 unfold M
 by_cases h:i < k
 ·rw [if_pos (by omega),if_pos h,if_pos h,if_neg (by omega),s2 i h,wD (sol A k (col A k) i)]
 ·rw [if_neg (by omega),if_neg h,if_neg h,if_neg (by omega)]
  have e1:F A (k+1) i a=d A (k+1) * a i - (ap (λl=>A i l * sol A (k+1) a l) k+A i k * sol A (k+1) a k):=rfl
  have e2:F A k i a=d A k * a i - ap (λl=>A i l * sol A k a l) k:=rfl
  have e3:F A k i (col A k)=d A k * A i k - ap (λl=>A i l * sol A k (col A k) l) k:=rfl
  have e4:d A k * ap (λl=>A i l * sol A (k+1) a l) k=d A (k+1) * ap (λl=>A i l * sol A k a l) k - F A k k a * ap (λl=>A i l * sol A k (col A k) l) k:=by
   have q1:=gA (λl=>A i l) (sol A (k+1) a) (λ_=>0) (d A k) 0 k
   have q2:=gA (λl=>A i l) (sol A k a) (sol A k (col A k)) (d A (k+1)) (F A k k a) k
   rw [<- q2]
   have q3:d A k * ap (λl=>A i l * sol A (k+1) a l) k=ap (λl=>A i l * (d A k * sol A (k+1) a l - 0 * 0)) k:=by rw [q1]; omega
   rw [q3]
   refine jI λl hl=>?_
   rw [<- s2 l hl]
   simp
  rw [e1,e2,e3,s1]
  generalize ap (λl=>A i l * sol A (k+1) a l) k=S1 at *
  generalize ap (λl=>A i l * sol A k a l) k=S2 at *
  generalize ap (λl=>A i l * sol A k (col A k) l) k=S3 at *
  have e5:d A k * (d A (k+1) * a i - (S1+A i k * F A k k a))=d A k * d A (k+1) * a i - d A k * S1 - d A k * (A i k * F A k k a):=by grind
  rw [e5,e4]
  grind
theorem Zry {n r:Nat} (h:r < n) (a:bE):ap (λl=>A r l * M A n l a) n=d A n * a r:=by
 rw [<- cramer A h a]
 refine jI λl hl=>?_
 unfold M
 rw [if_pos hl]
end Bar
set_option Elab.async false
set_option linter.all false
set_option maxRecDepth 100000
namespace Bar
variable (A:Nat->Nat->Int)
noncomputable def unit (k:Nat):bE:=λr=>if r=k then 1 else 0
theorem ZrA {k:Nat} (hd:∀ j,j<=k->d A j≠0):F A k k (unit k)=d A k:=by
 have z:=sole A hd (z:=sol A k (unit k)) (λr hr=>by
  rw [cramer A hr]
  unfold unit
  rw [if_neg (by omega),wV])
 unfold F
 rw [kR λl hl=>by rw [z l hl,wV]]
 unfold unit
 rw [if_pos rfl]
 omega
theorem Zkk (k:Nat):sol A (k+1) (unit k) k=F A k k (unit k):=by
 unfold sol
 rw [dL,if_pos rfl]
 exact sY A k k (unit k)
theorem qJ {p v:Nat->Int} {V:Int} (hV:0<=V) (v0:v 0=0):∀ {m:Nat},(∀ l,l < m+1->0<=p l)->(∀ l,l < m+1->v l<=V)->ap (λl=>p l * v l) (m+1)<=(ap p (m+1) - p 0) * V
 | 0,hp,hv=>by
  show 0+p 0 * v 0<=(0+p 0 - p 0) * V
  rw [v0]
  simp
 | m+1,hp,hv=>by
  have ih:=qJ (p:=p) (v:=v) hV v0 (m:=m) (λl hl=>hp l (by omega)) λl hl=>hv l (by omega)
  have h1:=vK (hv (m+1) (by omega)) (hp (m+1) (by omega))
  have e1:ap (λl=>p l * v l) (m+1+1)=ap (λl=>p l * v l) (m+1)+p (m+1) * v (m+1):=rfl
  have e2:ap p (m+1+1)=ap p (m+1)+p (m+1):=rfl
  have e3:(ap p (m+1)+p (m+1) - p 0) * V=(ap p (m+1) - p 0) * V+p (m+1) * V:=by grind
  rw [e1,e2,e3]
  omega
theorem ZaC (f:Nat->Int):∀ n:Nat,ap (λl=>-f l) n=-ap f n
 | 0=>rfl
 | n+1=>by rw [ap,ap,ZaC f n]; omega
theorem qK {p:Nat->Int}:∀ {m n:Nat},m<=n->(∀ l,l < n->0<=p l)->ap p m<=ap p n
 | m,0,h,_=>by
  have:m=0:=by omega
  subst this
  exact vN _
 | m,n+1,h,hp=>by
  by_cases e:m=n+1
  ·subst e; exact vN _
  ·have:=qK (p:=p) (m:=m) (n:=n) (by omega) λl hl=>hp l (by omega)
   have:=hp n (by omega)
   rw [ap]
   omega
theorem argmax (v:Nat->Int):∀ k:Nat,∃ i,i<=k/\∀ l,l<=k->v l<=v i
 | 0=>⟨0,vo _,λl hl=>by
  have e:l=0:=by omega
  rw [e]
  exact vN _⟩
 | k+1=>by
  obtain ⟨i,hi,h⟩:=argmax v k
  by_cases hc:v i<=v (k+1)
  ·refine ⟨k+1,by omega,λl hl=>?_⟩
   by_cases e:l=k+1
   ·subst e; exact vN _
   ·have:=h l (by omega)
    omega
  ·refine ⟨i,by omega,λl hl=>?_⟩
   by_cases e:l=k+1
   ·subst e; omega
   ·exact h l (by omega)
structure Pol (n:Nat) (A P:Nat->Nat->Int) (W:Int):Prop where
 W0:0 < W
 a0:∀ i,i < n->A i 0=W
 a:∀ i j,i < n->1<=j->j < n->A i j=(if i=j then W else 0) - P i j
 p:∀ i j,i < n->j < n->0<=P i j
 p0:∀ i,i < n->0 < P i 0
 s:∀ i,i < n->ap (P i) n=W
variable {A} {P:Nat->Nat->Int} {W:Int} {n:Nat}
theorem fX (h:Pol n A P W) (z:Nat->Int) {i:Nat} (hi:i < n):∀ {m:Nat},m+1<=n->ap (λl=>A i l * z l) (m+1)=W * z 0+(if 1<=i/\i<=m then W * z i else 0) - ap (λl=>P i l * (if l=0 then 0 else z l)) (m+1)
 | 0,hm=>by
  show 0+A i 0 * z 0=_
  rw [if_neg (by omega),h.a0 i hi]
  show _=W * z 0+0 - (0+P i 0 * (if 0=0 then 0 else z 0))
  rw [if_pos rfl]
  omega
 | m+1,hm=>by
  have ih:=fX h z hi (m:=m) (by omega)
  have e1:ap (λl=>A i l * z l) (m+1+1)=ap (λl=>A i l * z l) (m+1)+A i (m+1) * z (m+1):=rfl
  have e2:ap (λl=>P i l * (if l=0 then 0 else z l)) (m+1+1)=ap (λl=>P i l * (if l=0 then 0 else z l)) (m+1)+P i (m+1) * (if m+1=0 then 0 else z (m+1)):=rfl
  rw [e1,e2,ih,h.a i (m+1) hi (by omega) (by omega),if_neg (show ¬ m+1=0 by omega)]
  by_cases e:i=m+1
  ·subst e
   rw [if_pos rfl,if_neg (by omega),if_pos (by omega)]
   grind
  ·rw [if_neg e]
   by_cases e2:1<=i/\i<=m
   ·rw [if_pos e2,if_pos (by omega)]
    grind
   ·rw [if_neg e2,if_neg (by omega)]
    grind
theorem sign (h:Pol n A P W) {k:Nat} (hk:1<=k) (hn:k+1<=n) {z:Nat->Int} {c:Int} (hz:∀ r,r < k+1->ap (λl=>A r l * z l) (k+1)=if r=k then c else 0) (zk:0 < z k):0 < c:=by
 apply yT.mp
 intro hc
 have W0:=h.W0
 -- worths: nought at the lowest
 have hv:∀ r,r < k+1->W * z 0+W * (if r=0 then 0 else z r) - ap (λl=>P r l * (if l=0 then 0 else z l)) (k+1)=if r=k then c else 0:=λr hr=>by
  have:=hz r hr
  rw [fX h z (by omega) (by omega)] at this
  rw [<- this]
  by_cases e:r=0
  ·rw [if_pos e,if_neg (by omega)]
   omega
  ·rw [if_neg e,if_pos (by omega)]
 generalize hvd:(λl=>if l=0 then 0 else z l)=v at *
 have v0:v 0=0:=by rw [<- hvd]; rfl
 have vk:v k=z k:=by rw [<- hvd]; show (if k=0 then 0 else z k)=z k; rw [if_neg (by omega)]
 have hv':∀ r,r < k+1->W * z 0+W * v r - ap (λl=>P r l * v l) (k+1)=if r=k then c else 0:=λr hr=>by
  have:=hv r hr
  rw [<- hvd]
  exact this
 clear hv
 have hs:∀ i,i < n->ap (P i) (k+1)<=W:=λi hi=>by
  rw [<- h.s i hi]
  exact qK (by omega) λl hl=>h.p i l hi hl
 have up:∀ (u:Nat->Int) (V:Int) (i:Nat),0 < V->u 0=0->i < n->(∀ l,l < k+1->u l<=V)->ap (λl=>P i l * u l) (k+1)<=(W - P i 0) * V:=λu V i hV u0 hi hu=>by
  have a1:=qJ (p:=P i) (v:=u) (vG hV) u0 (m:=k) (λl hl=>h.p i l hi (by omega)) hu
  have a2:=vL (show ap (P i) (k+1) - P i 0<=W - P i 0 by have:=hs i hi; omega) (vG hV)
  omega
 obtain ⟨i,hi,hmax⟩:=argmax v k
 have vpos:0 < v i:=by have:=hmax k (vo _); omega
 -- the greatest worth: the mean is below nought
 have m0:z 0 < 0:=by
  have r1:=hv' i (by omega)
  have r2:=up v (v i) i vpos v0 (by omega) (λl hl=>hmax l (by omega))
  have r3:=vQ (h.p0 i (by omega)) vpos
  have e:(W - P i 0) * v i=W * v i - P i 0 * v i:=by grind
  have r4:W * z 0 < 0:=by
   have:(if i=k then c else 0)<=0:=by split <;> omega
   omega
  apply yT.mp
  intro q
  have:=wA (vG W0) q
  omega
 -- the least worth: it is above nought
 obtain ⟨j,hj,hmin⟩:=argmax (λl=>-v l) k
 have r0:=hv' 0 (by omega)
 rw [v0,if_neg (by omega)] at r0
 have Wm:W * z 0 < 0:=by
  have:=vK (show z 0<=-1 by omega) (vG W0)
  omega
 have jneg:v j < 0:=by
  apply yT.mp
  intro q
  have all0:∀ l,l<=k->0<=v l:=λl hl=>by
   have:-v l<=-v j:=hmin l hl
   omega
  have:0<=ap (λl=>P 0 l * v l) (k+1):=by
   have:=qK (p:=λl=>P 0 l * v l) (m:=0) (n:=k+1) (by omega) λl hl=>wA (h.p 0 l (by omega) (by omega)) (all0 l (by omega))
   exact this
  omega
 have jk:j≠k:=λe=>by rw [e,vk] at jneg; omega
 have r1:=hv' j (by omega)
 rw [if_neg jk] at r1
 have r2:=up (λl=>-v l) (-v j) j (by omega) (by show -v 0=0; rw [v0]; rfl) (by omega) (λl hl=>hmin l (by omega))
 have e1:ap (λl=>P j l * -v l) (k+1)=-ap (λl=>P j l * v l) (k+1):=by
  rw [<- ZaC]
  refine jI λl _=>?_
  grind
 rw [e1] at r2
 have r3:=vQ (h.p0 j (by omega)) (show 0 < -v j by omega)
 have e2:(W - P j 0) * -v j=-(W * v j) - P j 0 * -v j:=by grind
 omega
theorem leads (h:Pol n A P W):∀ k,k<=n->0 < d A k
 | 0,_=>by rw [pb]; decide
 | k+1,hk=>by
  have ih:∀ j,j<=k->0 < d A j:=λj hj=>leads h j (by omega)
  by_cases k0:k=0
  ·subst k0
   have:d A 1=A 0 0:=by
    rw [pd]
    unfold F
    rw [pb,ap]
    show 1 * A 0 0 - 0=A 0 0
    omega
   rw [this,h.a0 0 (by omega)]
   exact h.W0
  ·refine sign h (k:=k) (by omega) hk (z:=sol A (k+1) (unit k)) (c:=d A (k+1)) (λr hr=>?_) ?_
   ·rw [cramer A hr]
    unfold unit
    split
    ·omega
    ·omega
   ·rw [Zkk,ZrA A λj hj=>by have:=ih j hj; omega]
    exact ih k (vo _)
termination_by k=>k
end Bar
set_option Elab.async false
set_option linter.all false
set_option maxRecDepth 100000
namespace Bar
variable {A P:Nat->Nat->Int} {W:Int} {n:Nat}
theorem improve (h:Pol n A P W) (hn:1<=n) {y:Nat->Int} {s:Nat->Int} (hs:∀ r,r < n->0<=s r) (hy:∀ r,r < n->ap (λl=>A r l * y l) n=-s r) :
  y 0 < 0\/(y 0=0/\∀ r,1<=r->r < n->y r<=0):=by
 obtain ⟨k,rfl⟩:∃ k,n=k+1:=⟨n - 1,by omega⟩
 have W0:=h.W0
 have hv:∀ r,r < k+1->W * y 0+W * (if r=0 then 0 else y r) - ap (λl=>P r l * (if l=0 then 0 else y l)) (k+1)=-s r:=λr hr=>by
  have:=hy r hr
  rw [fX h y hr (by omega)] at this
  rw [<- this]
  by_cases e:r=0
  ·rw [if_pos e,if_neg (by omega)]
   omega
  ·rw [if_neg e,if_pos (by omega)]
 generalize hvd:(λl=>if l=0 then 0 else y l)=v at *
 have v0:v 0=0:=by rw [<- hvd]; rfl
 have vr:∀ r,1<=r->v r=y r:=λr hr=>by rw [<- hvd]; show (if r=0 then 0 else y r)=y r; rw [if_neg (by omega)]
 have hv':∀ r,r < k+1->W * y 0+W * v r - ap (λl=>P r l * v l) (k+1)=-s r:=λr hr=>by
  have:=hv r hr
  rw [<- hvd]
  exact this
 clear hv
 have up:∀ (V:Int) (i:Nat),0<=V->i < k+1->(∀ l,l < k+1->v l<=V)->ap (λl=>P i l * v l) (k+1)<=(W - P i 0) * V:=λV i hV hi hu=>by
  have a1:=qJ (p:=P i) (v:=v) hV v0 (m:=k) (λl hl=>h.p i l hi (by omega)) hu
  rw [h.s i hi] at a1
  exact a1
 obtain ⟨i,hi,hmax⟩:=argmax v k
 have vi:0<=v i:=by have:=hmax 0 (by omega); omega
 have r1:=hv' i (by omega)
 have r2:=up (v i) i vi (by omega) (λl hl=>hmax l (by omega))
 have e:(W - P i 0) * v i=W * v i - P i 0 * v i:=by grind
 have si:=hs i (by omega)
 by_cases hp:0 < v i
 ·left
  have r3:=vQ (h.p0 i (by omega)) hp
  apply yT.mp
  intro q
  have:=wA (vG W0) q
  omega
 ·have v00:v i=0:=by omega
  have all0:∀ r,r < k+1->v r<=0:=λr hr=>by have:=hmax r (by omega); omega
  have q1:=hv' 0 (by omega)
  have q2:=up 0 0 (vN _) (by omega) all0
  have s0:=hs 0 (by omega)
  rw [v0] at q1
  have Wy:W * y 0<=0:=by omega
  by_cases hy0:y 0 < 0
  ·exact .inl hy0
  ·right
   have:y 0=0:=by
    apply Int.le_antisymm
    ·apply Int.not_lt.mp
     intro q
     have:=vQ W0 q
     omega
    ·omega
   exact ⟨this,λr r1 r2=>by have:=all0 r r2; rw [vr r r1] at this; exact this⟩
def Bet (n:Nat) (z:Nat->Int) (D:Int) (z':Nat->Int) (D':Int):Prop:=D * z' 0 < D' * z 0\/(D * z' 0=D' * z 0/\(∀ r,r < n->D * z' r<=D' * z r)/\∃ r,r < n/\D * z' r < D' * z r)
theorem Zc4 {a b c A B C:Int} (hA:0 < A) (hB:0 < B) (hC:0 < C) (h1:A * b<=B * a) (h2:B * c<=C * b):A * c<=C * a/\((A * b < B * a\/B * c < C * b)->A * c < C * a):=by
 -- B (A c)<=A C b<=C B a
 have e1:=vK h2 (vG hA)
 have e2:=vK h1 (vG hC)
 have q1:A * (B * c)=B * (A * c):=by grind
 have q2:A * (C * b)=C * (A * b):=by grind
 have q3:C * (B * a)=B * (C * a):=by grind
 refine ⟨xI (show B * (A * c)<=B * (C * a) by omega) hB,λh=>?_⟩
 have hlt:B * (A * c) < B * (C * a):=by
  rcases h with h | h
  ·have:=xc h hC
   omega
  ·have:=xc h hA
   omega
 exact xH hlt (vG hB)
theorem Bet.trans {z z' z'':Nat->Int} {D D' D'':Int} (hD:0 < D) (hD':0 < D') (hD'':0 < D'') (h1:Bet n z D z' D') (h2:Bet n z' D' z'' D''):Bet n z D z'' D'':=by
 have t:=λr=>Zc4 (a:=z r) (b:=z' r) (c:=z'' r) hD hD' hD''
 rcases h1 with a | ⟨a1,a2,r,hr,a3⟩
 ·rcases h2 with b | ⟨b1,b2,_⟩
  ·exact .inl ((t 0 (vG a) (vG b)).2 (.inl a))
  ·exact .inl ((t 0 (vG a) (xE b1)).2 (.inl a))
 ·rcases h2 with b | ⟨b1,b2,_⟩
  ·exact .inl ((t 0 (xE a1) (vG b)).2 (.inr b))
  ·right
   refine ⟨?_,λq hq=>(t q (a2 q hq) (b2 q hq)).1,r,hr,(t r (a2 r hr) (b2 r hr)).2 (.inl a3)⟩
   have u1:=(t 0 (xE a1) (xE b1)).1
   have u2:=(Zc4 (a:=z'' 0) (b:=z' 0) (c:=z 0) hD'' hD' hD (xE b1.symm) (xE a1.symm)).1
   omega
theorem Bet.irrefl {z:Nat->Int} {D:Int} (h:Bet n z D z D):False:=by
 rcases h with a | ⟨_,_,r,_,a⟩ <;> omega
theorem better (h:Pol n A P W) (hn:1<=n) {z z':Nat->Int} {D D':Int} (hD:0 < D) (hD':0 < D') {b:Nat->Int} (hz':∀ r,r < n->ap (λl=>A r l * z' l) n=D' * b r) {s:Nat->Int} (hs:∀ r,r < n->0<=s r) (hz:∀ r,r < n->ap (λl=>A r l * z l) n=D * b r+s r) (hsome:∃ r,r < n/\0 < s r):Bet n z D z' D':=by
 have hy:∀ r,r < n->ap (λl=>A r l * (D * z' l - D' * z l)) n=-(D' * s r):=λr hr=>by
  rw [gA,hz' r hr,hz r hr]
  grind
 have key:=improve h hn (y:=λl=>D * z' l - D' * z l) (s:=λr=>D' * s r) (λr hr=>wA (vG hD') (hs r hr)) hy
 rcases key with k | ⟨k0,k1⟩
 ·left
  have k':D * z' 0 - D' * z 0 < 0:=k
  omega
 ·have k0':D * z' 0 - D' * z 0=0:=k0
  have all0:∀ r,r < n->D * z' r<=D' * z r:=λr hr=>by
   by_cases e:r=0
   ·subst e; omega
   ·have k1':D * z' r - D' * z r<=0:=k1 r (by omega) hr
    omega
  refine .inr ⟨by omega,all0,?_⟩
  apply xK
  intro hno
  have zero:∀ r,r < n->D * z' r - D' * z r=0:=λr hr=>by
   have a:=all0 r hr
   have:¬ D * z' r < D' * z r:=λq=>hno ⟨r,hr,q⟩
   omega
  obtain ⟨r,hr,sr⟩:=hsome
  have e:=hy r hr
  rw [kR λl hl=>by rw [zero l hl,wV]] at e
  have:=vQ hD' sr
  omega
end Bar
set_option Elab.async false
set_option linter.all false
set_option maxRecDepth 100000
namespace Bar
open Tw
theorem j0 (k:Nat):nb k 0:=by show (0:Int).natAbs < 2 ^ k; exact Nat.pow_pos (by decide)
theorem Zdz {Q:bE->Prop} {f:bE->Int} {b B m:Nat} (hf:∀ c,Q c->nb b (f c)):∀ (cs:List bE) (g:List bE->Int),(∀ c∈cs,Q c)->(∀ q:List bE,(∀ c∈q,Q c)->q.length+1<=cs.length->nb B (g q))->nb (b+B+cs.length) (lap f cs g)
 | [],g,_,_=>j0 _
 | c::cs,g,hq,hg=>by
  have h1:=bf (hf c (hq c (by simp))) (hg cs (λx hx=>hq x (ve _ hx)) (by simp))
  have h2:=Zdz (m:=m) hf cs (λr=>g (c::r)) (λx hx=>hq x (ve _ hx)) λq q1 q2=>hg (c::q) (λx hx=>by
   rcases vJ.mp hx with rfl | hx
   ·exact hq _ (by simp)
   ·exact q1 x hx) (by simp; omega)
  rw [lap,vp]
  exact aD (eW h1 h2) (by omega)
noncomputable def gU (b k:Nat):Nat:=1+k * (b+10)
theorem u8 {n b:Nat}:∀ (k:Nat),k<=n->∀ cs:List bE,(∀ c∈cs,∀ r,r < n->nb b (c r))->cs.length<=10->nb (gU b k) (D k cs)
 | 0,_,cs,_,_=>by show (1:Int).natAbs < 2 ^ (1+0 * _); rw [Nat.zero_mul]; decide
 | k+1,hk,cs,hc,hl=>by
  have h:=Zdz (Q:=λc=>∀ r,r < n->nb b (c r)) (f:=λc=>c k) (b:=b) (B:=gU b k) (m:=0) (λc hc=>hc k (by omega)) cs (D k) hc λq q1 q2=>u8 k (by omega) q q1 (by omega)
  refine aD h ?_
  unfold gU
  rw [x6]
  omega
variable {A:Nat->Nat->Int}
theorem uY:∀ {k:Nat} {c:bE},c∈R A k->∃ l,l < k/\c=col A l
 | 0,c,h=>by cases h
 | k+1,c,h=>by
  rcases vJ.mp h with rfl | h
  ·exact ⟨k,by omega,rfl⟩
  ·obtain ⟨l,h1,h2⟩:=uY h
   exact ⟨l,by omega,h2⟩
theorem uZ (A:Nat->Nat->Int):∀ k:Nat,(R A k).length=k
 | 0=>rfl
 | k+1=>by rw [R,vp,uZ A k]
theorem Zh1 {Q:bE->Prop} {B:Nat}:∀ (k:Nat) (g:List bE->Int) (l:Nat),(∀ j,j < k->Q (col A j))->(∀ q:List bE,(∀ c∈q,Q c)->q.length+1<=k->nb B (g q))->nb B (dL A k g l)
 | 0,g,l,_,_=>j0 _
 | k+1,g,l,hq,hg=>by
  rw [dL]
  split
  ·exact hg _ (λc hc=>by obtain ⟨j,h1,rfl⟩:=uY hc; exact hq j (by omega)) (by rw [uZ]; exact vo _)
  ·refine gf (Zh1 k _ l (λj hj=>hq j (by omega)) λq q1 q2=>hg _ (λc hc=>?_) (by rw [vp]; omega))
   rcases vJ.mp hc with rfl | hc
   ·exact hq k (by omega)
   ·exact q1 c hc
theorem ZaD {f:Nat->Int} {b:Nat}:∀ (n:Nat),(∀ l,l < n->nb b (f l))->nb (b+n) (ap f n)
 | 0,_=>j0 _
 | n+1,h=>by
  rw [ap]
  exact aD (cU (ZaD n λl hl=>h l (by omega)) (h n (by omega))) (by omega)
theorem pf {n b:Nat} (hn:n<=9) (hA:∀ i j,i < n->j < n->nb b (A i j)) {k:Nat} (hk:k<=n):nb (gU b 9) (d A k):=by
 have h:=u8 (n:=n) (b:=b) k hk (R A k) (λc hc r hr=>by obtain ⟨j,h1,rfl⟩:=uY hc; exact hA r j hr (by omega)) (by rw [uZ]; omega)
 refine aD h ?_
 unfold gU
 have:=Nat.mul_le_mul_right (b+10) (show k<=9 by omega)
 omega
theorem Zi3 {n b:Nat} (hn:n<=9) (hA:∀ i j,i < n->j < n->nb b (A i j)) {k i:Nat} (hk:k<=n) (hi:i < n) {a:bE} (ha:∀ r,r < n->nb b (a r)):nb (b+gU b 9+11) (M A k i a):=by
 have hs:∀ l,nb (gU b 9) (sol A k a l):=λl=>by
  unfold sol
  refine Zh1 (Q:=λc=>∀ r,r < n->nb b (c r)) k _ l (λj hj r hr=>hA r j hr (by omega)) λq q1 q2=>?_
  refine aD (u8 (n:=n) (b:=b) k hk (a::q) (λc hc=>?_) (by rw [vp]; omega)) ?_
  ·rcases vJ.mp hc with rfl | hc
   ·exact ha
   ·exact q1 c hc
  ·unfold gU
   have:=Nat.mul_le_mul_right (b+10) (show k<=9 by omega)
   omega
 unfold M
 split
 ·exact aD (hs i) (by omega)
 ·unfold F
  have h1:=bf (pf hn hA hk) (ha i hi)
  have h2:=ZaD (f:=λl=>A i l * sol A k a l) (b:=b+gU b 9) k λl hl=>bf (hA i l hi (by omega)) (hs l)
  exact aD (eW h1 h2) (by omega)
end Bar
set_option Elab.async false
set_option linter.all false
set_option maxRecDepth 100000
namespace Tw
open L2
end Tw
set_option Elab.async false
set_option linter.all false
set_option maxRecDepth 100000
namespace Tw
open L2
end Tw
set_option Elab.async false
set_option linter.all false
set_option maxRecDepth 100000
namespace Tw
open L2
end Tw
set_option Elab.async false
set_option linter.all false
set_option maxRecDepth 100000
namespace Tw
open L2
end Tw
set_option Elab.async false
set_option linter.all false
set_option maxRecDepth 100000
namespace Tw
open L2
noncomputable def iy (g:Int->Int) (K x y:Int):Int:=if x < y then K+g y else g y
end Tw
set_option Elab.async false
set_option linter.all false
set_option maxRecDepth 100000
namespace L2
noncomputable def cg (c:Addr) (at' left:Int):List (aM×V):=[(Sum.inr "cells",.ref c),(Sum.inr "at",.int at'),(Sum.inr "left",.int left)]
theorem nc1:¬ ((Sum.inr ("cells":Str):aM)=(Sum.inr ("at":Str):aM)):=by trivial
theorem nc2:¬ ((Sum.inr ("cells":Str):aM)=(Sum.inr ("left":Str):aM)):=by trivial
theorem sJ:¬ ((Sum.inr ("at":Str):aM)=(Sum.inr ("left":Str):aM)):=by trivial
theorem ZlE (c:Addr) (a l:Int):dO (cg c a l) (Sum.inr "cells":aM)=some (.ref c):=jF rfl
theorem ZcB (c:Addr) (a l:Int):dO (cg c a l) (Sum.inr "at":aM)=some (.int a):=by
 unfold cg
 rw [jG nc1,jF rfl]
theorem ZcA (c:Addr) (a l:Int):dO (cg c a l) (Sum.inr "left":aM)=some (.int l):=by
 unfold cg
 rw [jG nc2,jG sJ,jF rfl]
theorem ZlD (c:Addr) (a l b:Int):cX (cg c a l) (Sum.inr "at":aM) (.int b)=cg c b l:=by
 have h:((cg c a l).any λkv=>decide (kv.1=(Sum.inr "at":aM)))=true:=by rw [mU,ZcB]; rfl
 unfold cX
 rw [if_pos h]
 unfold cg
 simp only [vC,xD,if_neg nc1,if_neg (Ne.symm sJ),if_true]
theorem ZlC (c:Addr) (a l b:Int):cX (cg c a l) (Sum.inr "left":aM) (.int b)=cg c a b:=by
 have h:((cg c a l).any λkv=>decide (kv.1=(Sum.inr "left":aM)))=true:=by rw [mU,ZcA]; rfl
 unfold cX
 rw [if_pos h]
 unfold cg
 simp only [vC,xD,if_neg nc2,if_neg sJ,if_true]
section
variable {H:Hp} {p c:Addr} {a l b:Int}
theorem o8 (h:H p=some (.dK (cg c a l))):DGet H p (.str "cells") (some (.ref c)):=by
 have q:=DGet.k (k:=(Sum.inr "cells":aM)) h
 rw [ZlE] at q
 exact q
theorem ZoB (h:H p=some (.dK (cg c a l))):DGet H p (.str "at") (some (.int a)):=by
 have q:=DGet.k (k:=(Sum.inr "at":aM)) h
 rw [ZcB] at q
 exact q
theorem t4 (h:H p=some (.dK (cg c a l))):DGet H p (.str "left") (some (.int l)):=by
 have q:=DGet.k (k:=(Sum.inr "left":aM)) h
 rw [ZcA] at q
 exact q
theorem Zoy (h:H p=some (.dK (cg c a l))):DPut H p (.str "at") (.int b) (upd H p (.dK (cg c b l))):=by
 have q:=DPut.k (k:=(Sum.inr "at":aM)) (v:=V.int b) h (by show 3 < sizeLine; decide)
 rw [ZlD] at q
 exact q
theorem ZhJ (h:H p=some (.dK (cg c a l))):DPut H p (.str "left") (.int b) (upd H p (.dK (cg c a b))):=by
 have q:=DPut.k (k:=(Sum.inr "left":aM)) (v:=V.int b) h (by show 3 < sizeLine; decide)
 rw [ZlC] at q
 exact q
end
structure Pen6 (K:yY) (H:Hp) (p c:Addr) (ns:zf) (m:Nat):Prop where
 ex:∃ (k:Nat) (left:Int),H p=some (.dK (cg c k left))/\k<=m/\0<=left
 cells:SqL K H c (ns.map V.int)
 len:ns.length<=63
def ZaK (K:yY):Sp:=λvs H Q _=>∃ (p c:Addr) (ns:zf) (m:Nat) (most:Int),vs=[.ref p,.int most]/\Pen6 K H p c ns m/\m<=500000/\0 < most/\most < 1073741824 /\
 ∀ (r:Int) (H':Hp),0<=r->r < most->Pen6 K H' p c ns (m+1)->Kept p H H'->Q (.int r) H'
def Zki (K:yY):Sp:=λvs H Q _=>∃ (a:Addr) (ns:zf),vs=[.ref a]/\SqL K H a (ns.map V.int)/\ns.length<=63 /\
 ∀ (p:Addr) (H':Hp),H p=none->(∃ c,Pen6 K H' p c ns 0)->Same H H'->Q (.ref p) H'
noncomputable def bq (cn:yY×Addr×zf):Pk where
 is:=λo G m=>∃ (k:Nat) (left:Int),o=.dK (cg cn.2.1 k left)/\k<=m/\0<=left/\SqL cn.1 G cn.2.1 (cn.2.2.map V.int)/\cn.2.2.length<=63
 mono:=λs ⟨k,left,e,h1,h2,h3,h4⟩=>⟨k,left,e,h1,h2,Same.seq (λb o h=>s b o h) h3,h4⟩
theorem sj {cn:yY×Addr×zf}:PkLow (bq cn):=⟨λ⟨_,_,_,_,_,h3,_⟩ _ ⟨k,left,e,h1,h2,_,h4⟩=>⟨k,left,e,h1,h2,h3,h4⟩⟩
theorem Zln {ι:Type} {X:Cx} {e:List Stmt} {t:ι->TS} (h:∀ i,PSs X e (t i)):PSs X e (λD σ H=>∃ i,t i D σ H):=λpins s σ H D I z=>by
 obtain ⟨i,z⟩:=z
 exact h i pins s σ H D I z
noncomputable def oB:y9:=λas=>match as with
 | [.pen,.d (.int most)]=>.draw most λr=>.ret (.d (.int r))
 | _=>.fail
theorem ZhH {as:zl} {m:Nat} {Z:Nat->Re->Prop} (h:(oB as).ok m Z):∃ most,as=[.pen,.d (.int most)]:=by
 unfold oB at h
 split at h
 ·exact ⟨_,rfl⟩
 ·exact h.elim
theorem Zox {P:Program} {w:World} {K:yY} {c:Addr×zf} {mg:zj} {base:Heap} {x:Str} {k:Nat} {ps:zh} (hp:ps.length=2) (C:Callee P w K mg base x k ps (ZaK K)):ACal (bq (K,c)) P w K mg base x k ps oB:=by
 refine ⟨?_,λas m Z h=>by obtain ⟨most,rfl⟩:=ZhH h; exact hp.symm⟩
 obtain ⟨f,fd,F,hm,hk,hb⟩:=C.ex
 refine ⟨f,fd,F.imp λvs H Q E h=>?_,hm,hk,hb⟩
 obtain ⟨hv,pa,m,G,as,wd,ar,z⟩:=h
 obtain ⟨most,rfl⟩:=ZhH z
 obtain ⟨h1,h2,h3,h4⟩:=z
 cases ar with
 | cons a1 ar =>
  cases ar with
  | cons a2 ar =>
   cases ar
   cases a1
   cases a2 with
   | d d2 =>
    cases d2
    obtain ⟨c,ns⟩:=c
    obtain ⟨o,ho,kk,left,rfl,q1,q2,q3,q4⟩:=wd.pen
    replace q3:SqL K G c (ns.map V.int):=q3
    refine ⟨pa,c,ns,m,most,rfl,⟨⟨kk,left,ho,q1,q2⟩,Same.seq (λb o h=>wd.sub b o h) q3,q4⟩,by omega,h2,h3,λr H' r0 r1 P' K'=>?_⟩
    refine h4 r r0 r1 (.int r) G H' ⟨λ_ _ q=>q,λ_ _ q=>.inl q,λb o e n=>K' b o e n⟩ ⟨λb o e=>K' b o (wd.sub b o e) (λz=>by subst z; rw [wd.gpa] at e; cases e),wd.gpa,?_⟩ (.int r)
    obtain ⟨⟨k2,l2,e2,g1,g2⟩,_,_⟩:=P'
    exact ⟨_,e2,k2,l2,rfl,g1,g2,q3,q4⟩
noncomputable def ZaJ:yY->Sp:=λK vs H Q _=>∃ (a:Addr) (ns:zf),vs=[.ref a]/\SqL K H a (ns.map V.int)/\ns.length<=63/\∀ H',Q (.bl true) H'
theorem Znd {K:yY} {D:Ends} {p:Addr} {ns:zf} {H:Hp} {σ:St} {s:y8} {n:Nat} (P:∃ c,Pen6 K H p c ns 0) (hσ:σ.length=n+2) (h1:σ[1]?=some (some (.ref p))) (hrt:∀ H',D.rt (.bl true) H')
  (h:(s (.un::.pen::List.replicate n .un)).ok 0 λ_ o=>o=.ret (.d (.bool true))):∃ cn:Addr×zf,bG (bq (K,cn)) s D σ H:=by
 obtain ⟨c,⟨k,l,e,hk,hl⟩,hc,hn⟩:=P
 obtain ⟨G,gs,gp,gc⟩:∃ G:Hp,(∀ b o,G b=some o->H b=some o)/\G p=none/\SqL K G c (ns.map V.int):=by
  rcases hc with (hc | ⟨o,hc⟩) | hc
  ·refine ⟨λb=>if b=c then H c else none,λb o hb=>?_,?_,.inl (.inl (by simp [hc]))⟩
   ·by_cases hbc:b=c
    ·subst hbc; simpa using hb
    ·simp [hbc] at hb
   ·have:p≠c:=lC e hc (by intro z; cases z)
    exact if_neg this
  ·refine ⟨λb=>if b=c then H c else none,λb o hb=>?_,?_,.inl (.inr ⟨o,by simp [hc]⟩)⟩
   ·by_cases hbc:b=c
    ·subst hbc; simpa using hb
    ·simp [hbc] at hb
   ·have:p≠c:=lC e hc (by intro z; cases z)
    exact if_neg this
  ·exact ⟨λ_=>none,λb o hb=>(by cases hb),rfl,.inr hc⟩
 have key:∀ (i:Nat) (sl:Sl),(Sl.un::.pen::List.replicate n .un)[i]?=some sl->sl=.un\/(i=1/\sl=.pen):=λi sl hi=>by
  match i with
  | 0=>simp at hi; exact .inl hi.symm
  | 1=>simp at hi; exact .inr ⟨rfl,hi.symm⟩
  | i+2 =>
   simp [vW] at hi
   exact .inl hi.2.symm
 refine ⟨(c,ns),p,G,H,0,_,G,⟨⟨gs,gp,?_⟩,.refl,⟨_,e⟩,λi sl hi=>?_,by simp [hσ],λi j xs ys _ hi _=>?_,λi j xs ys _ hi _=>by rcases key i _ hi with z | ⟨_,z⟩ <;> cases z⟩,Tr.ok_mono h λm o ho=>?_⟩
 ·exact ⟨_,e,k,l,rfl,hk,hl,gc,hn⟩
 ·have hlt:i < σ.length:=by
   have:=(vf.mp hi).1
   simp at this
   omega
  rcases key i sl hi with rfl | ⟨rfl,rfl⟩
  ·exact ⟨σ[i],by simp [hlt],.un⟩
  ·exact ⟨_,h1,.pen⟩
 ·rcases key i _ hi with z | ⟨_,z⟩ <;> cases z
 ·subst ho
  intro v G H' s' w' d
  cases (show Dn G v (.bool true) from d)
  exact hrt H'
end L2
set_option Elab.async false
set_option linter.all false
set_option maxRecDepth 100000
namespace My
open L2
noncomputable def top (i:Nat):Stmt:=PySem.Challenge.pw_twomarks_k40_whole_no_rule_beats_the_mea.main.body.getD i (.Pass ⟨0,0,0,0⟩)
noncomputable abbrev Zbk:Stmt:=top 5
abbrev Zq5:zh:=["thing"]
theorem ZkB:FnScope Zq5 ["thing"] (aL Zbk):=by trivial
noncomputable abbrev Zbj:Stmt:=top 6
abbrev Zq4:zh:=["thing","lowest","highest"]
theorem ZkA:FnScope Zq4 ["thing","lowest","highest"] (aL Zbj):=by trivial
noncomputable abbrev Zbe:Stmt:=top 17
abbrev ZqZ:zh:=["shop"]
theorem Zku:FnScope ZqZ ["shop"] (aL Zbe):=by trivial
noncomputable abbrev Zbm:Stmt:=top 18
abbrev Zq7:zh:=["shop","stock","thing"]
theorem ZkC:FnScope Zq7 ["shop","stock","thing"] (aL Zbm):=by trivial
noncomputable abbrev rj:Stmt:=top 19
abbrev mJ:zh:=["day"]
theorem ZkD:FnScope mJ ["day"] (aL rj):=by trivial
noncomputable abbrev Zbh:Stmt:=top 20
abbrev Zq2:zh:=["shop","stock","level"]
theorem Zkw:FnScope Zq2 ["shop","stock","level"] (aL Zbh):=by trivial
noncomputable abbrev Zbi:Stmt:=top 21
abbrev Zq3:zh:=["shop","level","fall"]
theorem Zkx:FnScope Zq3 ["shop","level","fall"] (aL Zbi):=by trivial
noncomputable abbrev Zbq:Stmt:=top 22
abbrev Zrb:zh:=["shop","level","fall","stock","sold_never","held"]
theorem ng:FnScope Zrb ["shop","level","fall"] (aL Zbq):=by trivial
noncomputable abbrev Zbp:Stmt:=top 23
abbrev Zra:zh:=["shop","stock"]
theorem ZkF:FnScope Zra ["shop","stock"] (aL Zbp):=by trivial
noncomputable abbrev Zbt:Stmt:=top 25
abbrev Zre:zh:=["one","other"]
theorem qW:FnScope Zre ["one","other"] (aL Zbt):=by trivial
noncomputable abbrev Zbl:Stmt:=top 26
abbrev Zq6:zh:=["thing","top","bottom"]
theorem qV:FnScope Zq6 ["thing"] (aL Zbl):=by trivial
noncomputable abbrev Zbf:Stmt:=top 27
abbrev Zq0:zh:=["top","bottom","divisor"]
theorem qT:FnScope Zq0 ["top","bottom"] (aL Zbf):=by trivial
noncomputable abbrev Zbg:Stmt:=top 28
abbrev Zq1:zh:=["one","other"]
theorem Zkv:FnScope Zq1 ["one","other"] (aL Zbg):=by trivial
noncomputable abbrev rh:Stmt:=top 30
abbrev mI:zh:=["shop","thing","own"]
theorem Zbb:FnScope mI ["shop","thing"] (aL rh):=by trivial
noncomputable abbrev rm:Stmt:=top 31
abbrev qj:zh:=["shop"]
theorem ZkE:FnScope qj ["shop"] (aL rm):=by trivial
noncomputable abbrev Zbd:Stmt:=top 32
abbrev ZqY:zh:=["shop","day","level","ahead","scale","total","fall","weight","following"]
theorem jK:FnScope ZqY ["shop","day","level","ahead","scale"] (aL Zbd):=by trivial
noncomputable abbrev Zbr:Stmt:=top 33
abbrev Zrc:zh:=["shop","day","levels","ahead","scale","own_scale","costs","stock","level"]
theorem lb:FnScope Zrc ["shop","day","levels","ahead","scale"] (aL Zbr):=by trivial
noncomputable abbrev Zbs:Stmt:=top 34
abbrev Zrd:zh:=["shop","falls","rule","stock","ahead","scale","t"]
theorem jN:FnScope Zrd ["shop","falls","rule","stock"] (aL Zbs):=by trivial
noncomputable abbrev re:Stmt:=top 36
abbrev qg:zh:=["shop","day","ahead","scale","own_scale"]
theorem Zba:FnScope qg ["shop","day","ahead","scale"] (aL re):=by trivial
noncomputable abbrev Zbu:Stmt:=top 37
abbrev Zrf:zh:=["shop","low","by_level","scale","picks","best","stock","own","cost","level"]
theorem hZ:FnScope Zrf ["shop","low","by_level","scale"] (aL Zbu):=by trivial
noncomputable abbrev Zbv:Stmt:=top 38
abbrev Zrg:zh:=["shop","by_level","scale"]
theorem ZkG:FnScope Zrg ["shop","by_level","scale"] (aL Zbv):=by trivial
noncomputable abbrev no:Stmt:=top 39
abbrev g9:zh:=["shop","falls","days","ahead","scale","day","by_level","picks"]
theorem gD:FnScope g9 ["shop","falls"] (aL no):=by trivial
noncomputable abbrev Zbw:Stmt:=top 41
abbrev Zrh:zh:=["shop","one"]
theorem ZkH:FnScope Zrh ["shop","one"] (aL Zbw):=by trivial
noncomputable abbrev Zbo:Stmt:=top 42
abbrev Zq9:zh:=["shop","one","stock","level","row","fall","weight","nothing_ahead","cost"]
theorem jM:FnScope Zq9 ["shop","one","stock","level"] (aL Zbo):=by trivial
noncomputable abbrev nk:Stmt:=top 43
abbrev iE:zh:=["rows","before","k","leading","lead","at","many"]
theorem hX:FnScope iE ["rows"] (aL nk):=by trivial
noncomputable abbrev rd:Stmt:=top 44
abbrev mH:zh:=["shop","one","levels","found","scale"]
theorem qU:FnScope mH ["shop","one","levels"] (aL rd):=by trivial
noncomputable abbrev rn:Stmt:=top 45
abbrev mK:zh:=["shop","one","levels","mean","worths","scale","picks","better"]
theorem h8:FnScope mK ["shop","one"] (aL rn):=by trivial
noncomputable abbrev rf:Stmt:=top 46
abbrev qh:zh:=["shop","one","mean","worths","scale","levels"]
theorem k9:FnScope qh ["shop","one"] (aL rf):=by trivial
noncomputable abbrev rb:Stmt:=top 48
abbrev qf:zh:=["shop","day","costs","ahead","scale","own_scale","behind","stock","cost","level"]
theorem jL:FnScope qf ["shop","day","costs","ahead","scale"] (aL rb):=by trivial
noncomputable abbrev rg:Stmt:=top 50
abbrev qi:zh:=["shop","thing"]
theorem Zkz:FnScope qi ["shop","thing"] (aL rg):=by trivial
noncomputable abbrev Zbn:Stmt:=top 51
abbrev Zq8:zh:=["shop","thing","mean","worths","levels"]
theorem nc:FnScope Zq8 ["shop","thing"] (aL Zbn):=by trivial
noncomputable abbrev ra:Stmt:=top 52
abbrev mG:zh:=["worths","scale","top","bottom"]
theorem k7:FnScope mG ["worths"] (aL ra):=by trivial
noncomputable abbrev nn:Stmt:=top 53
abbrev jw:zh:=["shop","one","thing","mean","worths","levels","ahead","scale","costs"]
theorem iM:FnScope jw ["shop","one","thing"] (aL nn):=by trivial
noncomputable abbrev ZbB:Stmt:=top 55
abbrev Zrm:zh:=["_law_script"]
theorem ZkI:FnScope Zrm ["_law_script"] (aL ZbB):=by trivial
noncomputable abbrev ZbF:Stmt:=top 56
abbrev Zrq:zh:=["_law_cell","_law_k","_law_prime","_law_one","_law_two"]
theorem nh:FnScope Zrq ["_law_cell","_law_k"] (aL ZbF):=by trivial
noncomputable abbrev Zby:Stmt:=top 57
abbrev Zrj:zh:=["_law_pen_here","_law_most","_law_found","_law_k","_law_cell"]
theorem lc:FnScope Zrj ["_law_pen_here","_law_most"] (aL Zby):=by trivial
noncomputable abbrev ZbA:Stmt:=top 58
abbrev Zrl:zh:=["_law_pen_here","_law_way"]
theorem Zbc:FnScope Zrl ["_law_pen_here"] (aL ZbA):=by trivial
noncomputable abbrev Zbx:Stmt:=top 59
abbrev Zri:zh:=["_law_pen_here","_law_many","_law_at","_law_found","_law_k"]
theorem qX:FnScope Zri ["_law_pen_here","_law_many","_law_at"] (aL Zbx):=by trivial
noncomputable abbrev rq:Stmt:=top 60
abbrev qk:zh:=["_law_pen_here","_law_few","_law_pieces","_law_depth","_law_shop","_law_many"]
theorem ld:FnScope qk ["_law_pen_here","_law_few"] (aL rq):=by trivial
noncomputable abbrev ZbC:Stmt:=top 61
abbrev Zrn:zh:=["_law_shop","_law_stock","_law_level"]
theorem ZkJ:FnScope Zrn ["_law_shop","_law_stock","_law_level"] (aL ZbC):=by trivial
noncomputable abbrev ZbE:Stmt:=top 62
abbrev Zrp:zh:=["_law_shop","_law_level","_law_fall"]
theorem ZkL:FnScope Zrp ["_law_shop","_law_level","_law_fall"] (aL ZbE):=by trivial
noncomputable abbrev ZbG:Stmt:=top 63
abbrev Zrr:zh:=["_law_shop","_law_level","_law_fall","_law_rest","_law_lost"]
theorem qZ:FnScope Zrr ["_law_shop","_law_level","_law_fall"] (aL ZbG):=by trivial
noncomputable abbrev Zbz:Stmt:=top 64
abbrev Zrk:zh:=["_law_top","_law_bottom","_law_one","_law_other"]
theorem qY:FnScope Zrk ["_law_top","_law_bottom"] (aL Zbz):=by trivial
noncomputable abbrev ZbI:Stmt:=top 65
abbrev Zrt:zh:=["_law_mean","_law_days","_law_worth","_law_other","_law_top","_law_bottom"]
theorem q9:FnScope Zrt ["_law_mean","_law_days","_law_worth","_law_other"] (aL ZbI):=by trivial
noncomputable abbrev ZbD:Stmt:=top 66
abbrev Zro:zh:=["_law_one","_law_other"]
theorem ZkK:FnScope Zro ["_law_one","_law_other"] (aL ZbD):=by trivial
noncomputable abbrev ZbH:Stmt:=top 67
abbrev Zrs:zh:=["_law_worths","_law_least_one","_law_greatest","_law_worth"]
theorem jO:FnScope Zrs ["_law_worths"] (aL ZbH):=by trivial
noncomputable abbrev rp:Stmt:=top 68
abbrev mL:zh:=["_law_shop","_law_one","_law_days","_law_stock","_law_past","_law_level","_law_whole","_law_rest","_law_k","_law_total","_law_fall","_law_weight","_law_there"]
theorem ft:FnScope mL ["_law_shop","_law_one","_law_days","_law_stock","_law_past"] (aL rp):=by trivial
noncomputable abbrev ZbJ:Stmt:=top 69
abbrev Zru:zh:=["_law_shop","_law_one","_law_days","_law_stock","_law_bound_here","_law_bottom","_law_k"]
theorem nj:FnScope Zru ["_law_shop","_law_one","_law_days","_law_stock","_law_bound_here"] (aL ZbJ):=by trivial
noncomputable abbrev lf:Stmt:=top 70
abbrev hI:zh:=["_law_script","_law_pen_here","_law_shop","_law_one","_law_mean","_law_worths","_law_levels","_law_by","_law_moved_ones","_law_days","_law_falls","_law_many","_law_drawn","_law_first_day","_law_some","_law_low","_law_high","_law_k","_law_stock","_law_bound_here","_law_own"]
theorem cM:FnScope hI ["_law_script"] (aL lf):=by trivial
structure Txt (K:yY) (mg:zj):Prop where
 dZ:mg "len"=none
 sL:mg "abs"=none
 lF:mg "max"=none
 Zc0:mg "min"=none
 nW:mg "int"=none
 Zc1:mg "list"=none
 dY:mg "tuple"=none
 Zmw:mg "bool"=none
 fu:mg "range"=none
 j3:mg "isinstance"=none
 lE:mg "zip"=none
 eX:mg "sum"=none
 Zc2:mg "all"=none
 lH:mg "enumerate"=none
 ZrD:mg "ValueError"=none
 sK:mg "reversed"=none
 ji:∃ t,mg "TOP"=some (.int 0 t)
 gt:∃ t,mg "DEPTH"=some (.int 1 t)
 Zd5:∃ t,mg "START"=some (.int 2 t)
 tK:∃ t,mg "PIECE"=some (.int 3 t)
 ZnO:∃ t,mg "KEEP"=some (.int 4 t)
 ZnN:∃ t,mg "LACK"=some (.int 5 t)
 ZnL:∃ t,mg "LOST"=some (.int 6 t)
 ZnP:∃ t,mg "BACK"=some (.int 7 t)
 ZnM:∃ t,mg "LATE"=some (.int 8 t)
 ZoY:Def K mg "is_whole" Zbk ["thing"]
 ZoX:Def K mg "is_whole_within" Zbj ["thing","lowest","highest"]
 ZoH:Def K mg "stocks" Zbe ["shop"]
 Zo1:Def K mg "is_level" Zbm ["shop","stock","thing"]
 Zo3:Def K mg "greatest_seen" rj ["day"]
 ZoM:Def K mg "order_cost" Zbh ["shop","stock","level"]
 ZoP:Def K mg "next_stock" Zbi ["shop","level","fall"]
 Zo8:Def K mg "day_cost" Zbq ["shop","level","fall"]
 Zo7:Def K mg "end_cost" Zbp ["shop","stock"]
 Zpb:Def K mg "common_divisor" Zbt ["one","other"]
 ZoZ:Def K mg "is_share" Zbl ["thing"]
 ZoJ:Def K mg "share" Zbf ["top","bottom"]
 ZoL:Def K mg "plus" Zbg ["one","other"]
 Zo0:Def K mg "is_levels" rh ["shop","thing"]
 Zo6:Def K mg "end_costs" rm ["shop"]
 ZoG:Def K mg "weighed" Zbd ["shop","day","level","ahead","scale"]
 Zo9:Def K mg "costs_by" Zbr ["shop","day","levels","ahead","scale"]
 Zpa:Def K mg "cost_of" Zbs ["shop","falls","rule","stock"]
 ZoR:Def K mg "level_sums" re ["shop","day","ahead","scale"]
 Zpc:Def K mg "cheapest_from" Zbu ["shop","low","by_level","scale"]
 Zpd:Def K mg "cheapest" Zbv ["shop","by_level","scale"]
 ZoT:Def K mg "least" no ["shop","falls"]
 Zpf:Def K mg "ask_lasting" Zbw ["shop","one"]
 Zo5:Def K mg "equation" Zbo ["shop","one","stock","level"]
 ZoI:Def K mg "solved" nk ["rows"]
 ZoQ:Def K mg "mean_and_worths" rd ["shop","one","levels"]
 Zpe:Def K mg "best_of_all" rn ["shop","one"]
 ZoV:Def K mg "lasting" rf ["shop","one"]
 ZoO:Def K mg "none_less" rb ["shop","day","costs","ahead","scale"]
 ZoW:Def K mg "is_worths" rg ["shop","thing"]
 Zo2:Def K mg "is_lasting_paper" Zbn ["shop","thing"]
 ZoN:Def K mg "on_one_scale" ra ["worths"]
 ZoS:Def K mg "lets_lasting" nn ["shop","one","thing"]
 Zpk:Def K mg "_law_pen" ZbB ["_law_script"]
 Zpo:Def K mg "_law_mixed" ZbF ["_law_cell","_law_k"]
 Zph:Def K mg "_law_take" Zby ["_law_pen_here","_law_most"]
 Zpj:Def K mg "_law_price" ZbA ["_law_pen_here"]
 Zpg:Def K mg "_law_weights" Zbx ["_law_pen_here","_law_many","_law_at"]
 Zpq:Def K mg "_law_case" rq ["_law_pen_here","_law_few"]
 Zpl:Def K mg "_law_order" ZbC ["_law_shop","_law_stock","_law_level"]
 Zpn:Def K mg "_law_next" ZbE ["_law_shop","_law_level","_law_fall"]
 Zpp:Def K mg "_law_day" ZbG ["_law_shop","_law_level","_law_fall"]
 Zpi:Def K mg "_law_share" Zbz ["_law_top","_law_bottom"]
 Zps:Def K mg "_law_bound" ZbI ["_law_mean","_law_days","_law_worth","_law_other"]
 Zpm:Def K mg "_law_no_less" ZbD ["_law_one","_law_other"]
 Zpr:Def K mg "_law_by_worth" ZbH ["_law_worths"]
 ZhU:Def K mg "_law_looks_back" rp ["_law_shop","_law_one","_law_days","_law_stock","_law_past"]
 Zpt:Def K mg "_law_back_right" ZbJ ["_law_shop","_law_one","_law_days","_law_stock","_law_bound_here"]
 ZoU:Def K mg "law" lf ["_law_script"]
theorem ZpC (ns:zf) (a:Nat) (h:ns≠[]):∃ z:Int,bw (ns.map V.int) ((a:Int) % ((ns.map V.int).length:Nat))=some (.int z):=by
 have hl:0 < ns.length:=yj.mpr h
 have hl':(ns.map V.int).length=ns.length:=vd ..
 have e:(a:Int) % ((ns.map V.int).length:Nat)=((a % ns.length:Nat):Int):=by rw [hl']; omega
 have hlt:a % ns.length < ns.length:=Nat.mod_lt _ hl
 rw [e]
 exact ⟨ns[a % ns.length],fP (by rw [vg,vx hlt]; rfl)⟩
theorem qM {K:yY} {H:Hp} {p c:Addr} {xs:zi} {d:List (aM×V)} {o:HO} (hd:H p=some (.dK d)) (hc:SqL K H c xs):SqL K (upd H p o) c xs:=by
 rcases hc with (hc | ⟨u,hc⟩) | hc
 ·exact .inl (.inl (by rw [aV (lC hc hd (by intro z; cases z))]; exact hc))
 ·exact .inl (.inr ⟨u,by rw [aV (lC hc hd (by intro z; cases z))]; exact hc⟩)
 ·exact .inr hc
def Zkj:Sp:=λvs H Q _=>∃ z a:Int,vs=[.int z,.int a]/\0<=a/\a<=500000/\∀ (r:Int) (H':Hp),Same H H'->Q (.int r) H'
theorem Zlr (a:Int):∃ q:Int,bw [V.int 2147483629,.int 2147483587,.int 2147483579,.int 2147483563,.int 2147483549] (a % 5)=some (.int q)/\0 < q/\q < 2147483648:=by
 have h0:=wZ a (show (5:Int)≠0 by decide)
 have h1:=wO a (show (0:Int) < 5 by decide)
 have:a % 5=0\/a % 5=1\/a % 5=2\/a % 5=3\/a % 5=4:=by omega
 rcases this with e | e | e | e | e <;> rw [e]
 ·exact ⟨_,mh,by decide,by decide⟩
 ·exact ⟨_,pF,by decide,by decide⟩
 ·exact ⟨_,pE,by decide,by decide⟩
 ·exact ⟨_,pD,by decide,by decide⟩
 ·exact ⟨_,pC,by decide,by decide⟩
theorem ZjH {z:Int} (h:z ≥ (10:Int) ^ (18:Int).toNat):0<=z:=by
 have e:(10:Int) ^ (18:Int).toNat=1000000000000000000:=by decide
 omega
section
variable {P:Program} {w:World} {K:yY} {mg:zj} {base:Heap}
theorem Zl9 (T:Txt K mg):Callee P w K mg base "_law_pen" 1 ["_law_script"] (Zki K):=by
 refine T.Zpk.ok ZkI (λvs H Q E h=>?_) (λf cdv A outer s H vs Q E hr h=>?_)
 ·obtain ⟨a,ns,rfl,_⟩:=h
  rfl
 ·obtain ⟨a,ns,rfl,hS,hlen,k⟩:=h
  have hu:=oT hr
  refine ⟨_,(iR (gG (ZlO (sf dW (c7 (Zia) rfl T.Zc1 boot_list (bH (ZcD ZaQ (pv 0) Zcz (Zcy cr)) cC)) (sf dW cr (sf dW cr Zlt))) rfl rfl (by simp) (by decide)))),?_⟩
  intro p hp
  have s0:Same H (upd H p (.dK [])):=(Same.refl _).new hp
  refine ⟨_,rfl,63,rfl,a,_,rfl,s0.seq hS,λq hq=>⟨q,_,rfl,Or.inl (SqL.of ce),λc hc=>?_⟩⟩
  have hcut:fA (ns.map V.int) none (some 63)=ns.map V.int:=by
   unfold fA
   have e:HT.aT (ns.map V.int).length (ns.map V.int).length (some 63)=(ns.map V.int).length:=by
    have q:=HT.ZbK (ns.map V.int).length (ns.map V.int).length 63
    rw [vd] at q ⊢
    exact q.trans (Nat.min_eq_right hlen)
   rw [e]
   show ((ns.map V.int).drop 0).take ((ns.map V.int).length - 0)=_
   rw [xG,Nat.sub_zero,yz]
  have nqp:q≠p:=λz=>by
   rw [z,ce] at hq
   cases hq
  have ncp:c≠p:=λz=>by
   rw [z,aV (Ne.symm nqp),ce] at hc
   cases hc
  have s1:=s0.new (o:=.lst (fA (ns.map V.int) none (some 63))) hq
  have s2:=s1.new (o:=.lst (fA (ns.map V.int) none (some 63))) hc
  refine ⟨by rw [aV (Ne.symm ncp),aV (Ne.symm nqp),ce],cg c 0 0,rfl,(by show 3<=15; decide),k p _ hp ⟨c,⟨0,0,by rw [ce]; rfl,vo _,vN _⟩,SqL.of ?_,hlen⟩ λb o e=>?_⟩
  ·rw [aV ncp,ce,hcut]
  ·rw [aV (cT e hp)]
   exact s2 b o e
theorem Zma (T:Txt K mg):Callee P w K mg base "_law_mixed" 1 ["_law_cell","_law_k"] Zkj:=by
 refine T.Zpo.ok nh (λvs H Q E h=>?_) (λf cdv A outer s H vs Q E hr h=>?_)
 ·obtain ⟨z,a,rfl,_⟩:=h
  rfl
 ·obtain ⟨z,a,rfl,a0,a1,k⟩:=h
  have hu:=oT hr
  refine ⟨_,(dR (aQ (i:=2) nh.nd (nK ZdI (ZcC (bH cr (bH cr (bH cr (bH cr (bH cr cC)))))) (ci fZ (pv 1) cr) (λ_ _=>rfl)))
 (dR (aQ (i:=3) nh.nd (ci fZ (ci sA (ci ig (ci ig (ci nQ (ci fZ (pv 0) (pv 2)) (ci ig (ci nQ cr (pv 1)) cr)) (ci nQ cr (pv 1))) cr) cr) (pv 2)))
 (dR (aQ (i:=4) nh.nd (ci fZ (ci ig (ci nQ (pv 3) (ci ig (ci ig (ci fZ (pv 3) cr) (pv 1)) cr)) (ci fZ (pv 0) cr)) cr))
 (iR (gG (ci sC (pv 4) cr)))))),?_⟩
  obtain ⟨q,hq,q0,q1⟩:=Zlr a
  refine ⟨by show 5<=sizeLine; decide,λt ht=>?_⟩
  have s1:Same H (upd H t (.tup [.int 2147483629,.int 2147483587,.int 2147483579,.int 2147483563,.int 2147483549])):=(Same.refl _).new ht
  refine ⟨_,rfl,_,_,rfl,rfl,(by show (0:Int) < 5; decide),t,_,_,_,rfl,rfl,SqT.of ce,hq,?_⟩
  generalize upd H t (.tup [.int 2147483629,.int 2147483587,.int 2147483579,.int 2147483563,.int 2147483549])=H1 at s1
  have b0:=wZ z (show q≠0 by omega)
  have b1:=wO z q0
  have c0:0<=z % q * (2 * a+3):=wA b0 (by omega)
  have c1:z % q * (2 * a+3)<=2147483648 * 1000003:=Int.mul_le_mul (by omega) (by omega) (by omega) (by omega)
  refine ⟨_,rfl,_,rfl,_,_,rfl,rfl,q0,_,rfl,_,_,rfl,rfl,.inl ⟨by decide,by decide⟩,_,_,rfl,rfl,_,_,rfl,rfl,.inl ⟨by omega,by omega⟩,_,rfl,_,_,rfl,rfl,.inl ⟨by decide,by decide⟩,_,_,rfl,rfl,_,_,rfl,rfl,_,_,rfl,rfl,⟨by decide,by decide,by omega⟩,_,rfl,_,_,rfl,rfl,q0,?_⟩
  have m0:0<=((z % q * (2 * a+3)+31607 * a+5) ^ (3:Int).toNat) % q:=wZ _ (by omega)
  have m1:((z % q * (2 * a+3)+31607 * a+5) ^ (3:Int).toNat) % q < q:=wO _ q0
  generalize hN:((z % q * (2 * a+3)+31607 * a+5) ^ (3:Int).toNat) % q=N at m0 m1
  have d0:=wZ N (show (40487:Int)≠0 by decide)
  have d1:=wO N (show (0:Int) < 40487 by decide)
  refine ⟨_,rfl,_,rfl,_,_,rfl,rfl,(by show (0:Int) < 40487; decide),_,rfl,_,_,rfl,rfl,_,_,rfl,rfl,_,_,rfl,rfl,.inl ⟨by omega,by omega⟩,_,rfl,_,_,rfl,rfl,(by show (0:Int) < 65537; decide),_,_,rfl,rfl,_,_,rfl,rfl,(by show (0:Int) < 1073741789; decide),?_⟩
  exact ⟨_,rfl,_,_,rfl,rfl,⟨by decide,by decide⟩,k _ _ s1⟩
theorem Zmc (T:Txt K mg):Callee P w K mg base "_law_take" 2 ["_law_pen_here","_law_most"] (ZaK K):=by
 refine T.Zph.ok lc (λvs H Q E h=>?_) (λf cdv A outer s H vs Q E hr h=>?_)
 ·obtain ⟨p,c,ns,m,most,rfl,_⟩:=h
  rfl
 ·obtain ⟨p,c,ns,m,most,rfl,hP,hm,h0,h1,k⟩:=h
  have hu:=oT hr
  have f_law_mixed:=Zma (P:=P) (w:=w) (K:=K) (mg:=mg) (base:=base) T
  refine ⟨_,(dR (nG (lq fL (ic hu (pv 0) dW (λ_ _=>rfl)) cr (nomark _)) (dR (aQ (i:=2) lc.nd (ci fZ (ic hu (pv 0) dW (λ_ _=>rfl)) (pv 1)))
 (dR (r6 hu (pv 0) dW (ci sC (ic hu (pv 0) dW (λ_ _=>rfl)) (pv 1)) rfl)
 (iR (gG (pv 2))))) nC)
 (dR (aQ (i:=3) lc.nd (ic hu (pv 0) dW (λ_ _=>rfl)))
 (dR (r6 hu (pv 0) dW (ci ig (pv 3) cr) rfl)
 (dR (aQ (i:=4) lc.nd cr)
 (dR (PS.join (nG (lq fL (bx (eI) rfl T.dZ boot_len (bH (ic hu (pv 0) dW (λ_ _=>rfl)) cC)) cr (nomark _)) (iR (aQ (i:=4) lc.nd (nK tt (ic hu (pv 0) dW (λ_ _=>rfl)) (ci fZ (pv 3) (bx (eI) rfl T.dZ boot_len (bH (ic hu (pv 0) dW (λ_ _=>rfl)) cC))) (λ_ _=>rfl)))) nC))
 (dR (nG (PT.join (PW.pt (Zcw (lq ie (pv 3) (bx (eI) rfl T.dZ boot_len (bH (ic hu (pv 0) dW (λ_ _=>rfl)) cC)) (nomark _)) (Zcv (lq ZcQ (pv 4) (ci sA cr cr) (nomark _)))))) (dR (r6 hu (pv 0) dW (ci sC (pv 4) (pv 1)) rfl)
 (iR (gG (ci fZ (pv 4) (pv 1))))) nC)
 (iR (gG (ci fZ (nL f_law_mixed (hr.mono (by decide)) rfl (bH (pv 4) (bH (pv 3) cC))) (pv 1)))))))))),?_⟩
  obtain ⟨⟨a,l,hd,ha,hl⟩,hc,hn⟩:=hP
  refine ⟨_,rfl,p,_,rfl,t4 hd,_,_,rfl,rfl,_,rfl,?_⟩
  refine oN (λhz=>?_) (λhz=>?_)
  ·refine ⟨_,rfl,p,_,rfl,t4 hd,_,rfl,_,_,rfl,rfl,h0,?_⟩
   refine ⟨_,rfl,p,_,rfl,t4 hd,_,rfl,_,_,rfl,rfl,⟨h0,h1⟩,_,rfl,p,_,rfl,ZhJ hd,?_⟩
   exact ⟨_,rfl,k _ _ (wZ _ (by omega)) (wO _ h0) ⟨⟨a,_,ce,by omega,yH hl (by omega)⟩,qM hd hc,hn⟩ Kept.refl.pen⟩
  ·refine ⟨_,rfl,p,_,rfl,ZoB hd,?_⟩
   refine ⟨_,rfl,_,_,rfl,rfl,_,rfl,p,_,rfl,Zoy hd,?_⟩
   have hd1:(upd H p (.dK (cg c ((a:Int)+1) l))) p=some (.dK (cg c ((a+1:Nat):Int) l)):=by
    rw [ce]
    rfl
   have hc1:SqL K (upd H p (.dK (cg c ((a:Int)+1) l))) c (ns.map V.int):=qM hd hc
   have k1:Kept p H (upd H p (.dK (cg c ((a:Int)+1) l))):=Kept.refl.pen
   generalize upd H p (.dK (cg c ((a:Int)+1) l))=H1 at hd1 hc1 k1
   refine ⟨λσ' H'=>∃ (z:Int),σ'=[some (.ref p),some (.int most),none,some (.int a),some (.int z)]/\H'=H1,?_,?_⟩
   ·refine ⟨_,rfl,p,_,rfl,o8 hd1,c,_,rfl,.inl hc1,_,_,rfl,rfl,_,rfl,?_⟩
    refine oN (λhlen=>?_) (λ_=>⟨_,rfl,rfl⟩)
    have hlen':(0:Int) < ((ns.map V.int).length:Nat):=of_decide_eq_true hlen
    have hne':ns≠[]:=by
     rintro rfl
     simp at hlen'
    obtain ⟨z,hz2⟩:=ZpC ns a hne'
    refine ⟨_,rfl,p,_,rfl,o8 hd1,_,rfl,_,rfl,p,_,rfl,o8 hd1,c,_,rfl,.inl hc1,_,_,rfl,rfl,hlen',c,_,_,_,rfl,rfl,hc1,hz2,?_⟩
    exact ⟨z,rfl,rfl⟩
   ·rintro σ2 H2 ⟨z,rfl,rfl⟩
    refine ⟨λb H'=>(b=true->0<=z)/\H'=H2,?_,?_⟩
    ·refine ⟨_,rfl,_,rfl,p,_,rfl,o8 hd1,c,_,rfl,.inl hc1,_,_,rfl,rfl,_,rfl,?_⟩
     refine oN (λ_=>?_) (λ_=>⟨λh=>(by cases h),rfl⟩)
     exact ⟨_,rfl,_,_,rfl,rfl,⟨by decide,by decide,by decide⟩,_,_,rfl,rfl,_,rfl,λh=>ZjH (of_decide_eq_true h),rfl⟩
    ·rintro b H3 ⟨hb0,rfl⟩
     refine oN (λhb=>?_) (λ_=>?_)
     ·refine ⟨_,rfl,_,rfl,_,_,rfl,rfl,⟨h0,h1⟩,_,rfl,p,_,rfl,ZhJ hd1,?_⟩
      refine ⟨_,rfl,_,rfl,_,_,rfl,rfl,h0,?_⟩
      exact k _ _ (wZ _ (by omega)) (wO _ h0) ⟨⟨a+1,_,ce,by omega,yH (hb0 hb) (by omega)⟩,qM hd1 hc1,hn⟩ k1.pen
     ·refine ⟨_,rfl,_,rfl,z,a,rfl,by omega,by omega,λr H' s'=>?_⟩
      refine ⟨_,rfl,_,_,rfl,rfl,h0,?_⟩
      exact k _ _ (wZ _ (by omega)) (wO _ h0) ⟨⟨a+1,l,s' _ _ hd1,by omega,hl⟩,s'.seq hc1,hn⟩ λb o e n=>s' b o (k1 b o e n)
end
end My
set_option Elab.async false
set_option linter.all false
set_option maxRecDepth 100000
namespace My
open L2
noncomputable section
variable {cn:Addr×zf} {P:Program} {w:World} {K:yY} {mg:zj} {base:Heap}
def j6:y9:=bg 1 0
 (bj (kM (iC "int" (aa 0)) (uS (iC "bool" (aa 0)))))
theorem uh (T:Txt K mg):ACal (bq (K,cn)) P w K mg base "is_whole" 1 ["thing"] j6:=bA T.ZoY ZkB rfl λf cdv A outer sh H E hr=>by
 exact (aH (bn (pO (kH (T:="int") (.inl rfl) rfl (bx kA rfl T.j3 boot_isinstance (bH (ab (pv 0)) (bH (jW (v:=.ty "int") rfl T.nW boot_int rfl) cC)))) (uH (ZqJ (kH (T:="bool") (Or.inr (.inl rfl)) rfl (bx kA rfl T.j3 boot_isinstance (bH (ab (pv 0)) (bH (jW (v:=.ty "bool") rfl T.Zmw boot_bool rfl) cC)))))))))
def fv:y9:=bg 1 0
 (bj (uN (ag (fB (ac ao (aa 0) (aC (.int 1)))) (ag (ac ba (ac ao (aa 0) (aC (.int 0))) (aC (.int 1))) ay))))
theorem gT (T:Txt K mg):ACal (bq (K,cn)) P w K mg base "stocks" 1 ["shop"] fv:=bA T.ZoH Zku rfl λf cdv A outer sh H E hr=>by
 exact (aH (bn (ZqI (c7 (ZpJ hr.hd) rfl T.dY boot_tuple (bH (c7 Zh8 rfl T.fu boot_range (ai (gW (aK aJ aI (ab (pv 0)) (cp rfl T.gt))) (ai (ah bD bB (aK aJ aI (ab (pv 0)) (cp rfl T.ji)) al) aA))) cC)))))
noncomputable def lp:yZ :=
 (aa 0)
noncomputable def lz:y6 :=
 (bO (ac (cK λi j=>decide (i > j)) (aa 1) (aC (.int 0))))
def oz:y9:=bg 1 0
 (bj (bo iZ (ag (bV (pU (js (aa 0)) 2 [] (bd (am (af 0) (am (af 1) bc))) lz lp)) ay)))
theorem Zqb (T:Txt K mg):ACal (bq (K,cn)) P w K mg base "greatest_seen" 1 ["day"] oz:=bA T.Zo3 ZkD rfl λf cdv A outer sh H E hr=>by
 exact (aH (bn (bz (t:=a9) (bx (ZpN rfl) rfl T.lF boot_max (ai (cF (Zqx (ZlK mJ ["fall","weight"] [] rfl (mr (lx rfl rfl T.lH (ab (pv 0)))) (λb=>(cy rfl (aZ (aP (aO (i:=0) (show ((bN mJ ["fall","weight"] [])).Nodup by trivial))) (aZ (aP (aO (i:=1) (show ((bN mJ ["fall","weight"] [])).Nodup by trivial))) cx)) (aY (aY cu)))) (λb=>(cE fL cS (ab (pv 1)) al (nomark _))) (λb=>(ab (pv 0))) rfl (show BlkOk mJ (aL rj) _ [] by trivial)) (gH (c6 (b8 (by decide)) (c6 (b8 (by decide)) gI))))) aA)) Zjn)))
def i5:y9:=bg 3 0
 (aj (cm (bO (ac (cK λi j=>decide (i<=j)) (aa 2) (aa 1)))
  (bj (aC (.int 0)))
  ck)
 (bj (ac ba (ac ao (aa 0) (aC (.int 2))) (ac aX (ac ao (aa 0) (aC (.int 3))) (ac bW (aa 2) (aa 1))))))
theorem uf (T:Txt K mg):ACal (bq (K,cn)) P w K mg base "order_cost" 1 ["shop","stock","level"] i5:=bA T.ZoM Zkw rfl λf cdv A outer sh H E hr=>by
 exact (ak (cw (cE sB cS (ab (pv 2)) (ab (pv 1)) (nomark _))
 (aH (bn al))
 cv)
 (aH (bn (ah bD bB (aK aJ aI (ab (pv 0)) (cp rfl T.Zd5)) (ah bi bh (aK aJ aI (ab (pv 0)) (cp rfl T.tK)) (ah cj cb (ab (pv 2)) (ab (pv 1))))))))
def i6:y9:=bg 3 0
 (bj (bo iY (ag (ac bW (aa 1) (aa 2)) (ag (fB (ac ao (aa 0) (aC (.int 1)))) ay))))
theorem ug (T:Txt K mg):ACal (bq (K,cn)) P w K mg base "next_stock" 1 ["shop","level","fall"] i6:=bA T.ZoP Zkx rfl λf cdv A outer sh H E hr=>by
 exact (aH (bn (bz (t:=a9) (bx (pj rfl) rfl T.lF boot_max (ai (ah cj cb (ab (pv 1)) (ab (pv 2))) (ai (gW (aK aJ aI (ab (pv 0)) (cp rfl T.gt))) aA))) mS)))
def lS:y9:=bg 2 0
 (aj (cm (bO (ac (cK λi j=>decide (i > j)) (aa 1) (aC (.int 0))))
  (bj (ac aX (fB (ac ao (aa 0) (aC (.int 7)))) (aa 1)))
  ck)
 (bj (ac aX (ac ao (aa 0) (aC (.int 8))) (fB (aa 1)))))
theorem Zqd (T:Txt K mg):ACal (bq (K,cn)) P w K mg base "end_cost" 1 ["shop","stock"] lS:=bA T.Zo7 ZkF rfl λf cdv A outer sh H E hr=>by
 exact (ak (cw (cE fL cS (ab (pv 1)) al (nomark _))
 (aH (bn (ah bi bh (gW (aK aJ aI (ab (pv 0)) (cp rfl T.ZnP))) (ab (pv 1)))))
 cv)
 (aH (bn (ah bi bh (aK aJ aI (ab (pv 0)) (cp rfl T.ZnM)) (gW (ab (pv 1)))))))
noncomputable def qu:y6 :=
 (di (aa 1))
noncomputable def tp:y8 :=
 (jr 0 1 (ag (aa 1) (ag (ac gg (aa 0) (aa 1)) ay)))
def j8:y9:=bg 2 0
 (aj (jr 0 1 (ag (bo kI (ag (aa 0) ay)) (ag (bo kI (ag (aa 1) ay)) ay)))
 (aj (c5 qu tp 100000)
 (fR 0)))
theorem ui (T:Txt K mg):ACal (bq (K,cn)) P w K mg base "common_divisor" 1 ["one","other"] j8:=bA T.Zpb qW rfl λf cdv A outer sh H E hr=>by
 exact (ak (pI (nF (i:=0) (j:=1) rfl qW.nd rfl rfl (by decide) rfl rfl (ai (bz (t:=a9) (bx ue rfl T.sL boot_abs (ai (ab (pv 0)) aA)) qz) (ai (bz (t:=a9) (bx ue rfl T.sL boot_abs (ai (ab (pv 1)) aA)) qz) aA)) rfl))
 (ak (uA 100000 vR (dM (ab (pv 1)))
  (aH (pI (nF (i:=0) (j:=1) rfl qW.nd rfl rfl (by decide) rfl rfl (ai (ab (pv 1)) (ai (ah nR mQ (ab (pv 0)) (ab (pv 1))) aA)) rfl))))
 (aH (mj (pv 0)))))
noncomputable def ZdE:y8 :=
 (aj (aR 7 (cD (ag (ac ao (aa 2) (ac bW (aa 6) (aa 1))) (ag (aa 6) ay))))
 (aj (fg (bd (am (af 8) (am (af 9) bc))) (bo il (ag (aa 7) (ag (cD (ag (ac ba (ac aX (aa 3) (ac ao (aa 0) (aC (.int 2)))) (ac ao (aa 5) (aC (.int 0)))) (ag (ac ao (aa 5) (aC (.int 1))) ay))) ay))))
 (aj (jv 4 (cD (ag (ac bW (aa 8) (ac aX (ac aX (aa 3) (ac ao (aa 0) (aC (.int 3)))) (aa 6))) (ag (aa 9) ay))))
 (aR 5 (bo il (ag (aa 7) (ag (aa 5) ay)))))))
def oC:y9:=bg 4 6
 (aj (jq 4 (dN ay))
 (aj (aR 5 (cD (ag (ac ao (aa 2) (fB (aC (.int 1)))) (ag (ac ao (aa 0) (aC (.int 0))) ay))))
 (aj (cW (uP (ag (aa 1) (ag (ac ba (ac ao (aa 0) (aC (.int 0))) (aC (.int 1))) ay))) (af 6) ZdE)
 (aj (my 4)
 (fR 4)))))
theorem Zqf (T:Txt K mg):ACal (bq (K,cn)) P w K mg base "cheapest_from" 1 ["shop","low","by_level","scale"] oC:=bA T.Zpc hZ rfl λf cdv A outer sh H E hr=>by
 exact (ak (mi (aQ (i:=4) hZ.nd (ff aA)))
 (ak (aU (aQ (i:=5) hZ.nd (cL (ai (aK aJ aI (ab (pv 2)) (gW al)) (ai (aK aJ aI (ab (pv 0)) (cp rfl T.ji)) aA)))))
 (ak (dc vR rfl (ZqE (su rfl T.sK (c7 Zh8 rfl T.fu boot_range (ai (ab (pv 1)) (ai (ah bD bB (aK aJ aI (ab (pv 0)) (cp rfl T.ji)) al) aA))))) (aP (aO (i:=6) hZ.nd))
  (ak (aU (aQ (i:=7) hZ.nd (cL (ai (aK aJ aI (ab (pv 2)) (ah cj cb (ab (pv 6)) (ab (pv 1)))) (ai (ab (pv 6)) aA)))))
 (ak (fQ (dS (bz (t:=a9) (bx (Zh9 hr rfl) rfl T.Zc0 boot_min (ai (ab (pv 7)) (ai (cL (ai (ah bD bB (ah bi bh (ab (pv 3)) (aK aJ aI (ab (pv 0)) (cp rfl T.Zd5))) (aK aJ aI (ab (pv 5)) al)) (ai (aK aJ aI (ab (pv 5)) al) aA))) aA))) Zaj) (cy rfl (aZ (aP (aO (i:=8) hZ.nd)) (aZ (aP (aO (i:=9) hZ.nd)) cx)) (aY (aY cu)))))
 (ak (pL (iS (nM wF xi xh nX (pv 4) (bH (cL (ai (ah cj cb (ab (pv 8)) (ah bi bh (ah bi bh (ab (pv 3)) (aK aJ aI (ab (pv 0)) (cp rfl T.tK))) (ab (pv 6)))) (ai (ab (pv 9)) aA))) cC))))
 (aH (aU (aQ (i:=5) hZ.nd (bz (t:=a9) (bx (Zh9 hr rfl) rfl T.Zc0 boot_min (ai (ab (pv 7)) (ai (ab (pv 5)) aA))) Zaj))))))))
 (ak (ZiH (iS (ZcE wF yM yL Zc5 (pv 4))))
 (aH (mj (pv 4)))))))
noncomputable def ll:yZ :=
 (ac fx (ac bW (ac aX (aa 3) (aa 0)) (ac aX (aa 4) (aa 1))) (aa 2))
noncomputable def l3:y8 :=
 (cm (bO (ac dX (aa 5) (aa 2)))
  (aj (aR 6 (ac ao (iB 0 (aa 5)) (aa 2)))
 (kK 0 (aa 5) (bV (cG (jp (iB 0 (aa 5)) (aa 3)) 2 [1,4,6] (bd (am (af 0) (am (af 1) bc))) ll))))
  ck)
noncomputable def oG:y8 :=
 (aj (aR 3 (iB 0 (aa 2)))
 (aj (aR 4 (ac ao (aa 3) (aa 2)))
 (aj (cW (gx (ag (mC c9 (kJ 0 au)) ay)) (af 5) l3)
 (aR 1 (aa 4)))))
noncomputable def lj:yZ :=
 (ac ao (aa 0) (fB (aC (.int 1))))
def n6:y9:=bg 1 6
 (aj (aR 1 (aC (.int 1)))
 (aj (cW (gx (ag (mC c9 (kJ 0 au)) ay)) (af 2) oG)
 (kL 0 (bj (cD (ag (bV (cG (cZ (aa 0)) 1 [] (af 0) lj)) (ag (aa 1) ay)))))))
theorem ZpP (T:Txt K mg):u9 (bq (K,cn)) P w K mg base "solved" 1 "rows" n6:=ZqO T.ZoI hX rfl (by decide) λf cdv A outer sh H E hr=>by
 exact (ak (aU (aQ (i:=1) hX.nd al))
 (ak (dc vR rfl (iz (ib rfl T.fu (ai (uJ sj (bx eI rfl T.dZ boot_len (uM (pv 0) uL)) fH) aA))) (aP (aO (i:=2) hX.nd))
  (ak (aU (aQ (i:=3) hX.nd (pN (ab (pv 2)) (pv 0) (λ_ _=>rfl))))
 (ak (aU (aQ (i:=4) hX.nd (aK aJ aI (ab (pv 3)) (ab (pv 2)))))
 (ak (dc vR rfl (iz (ib rfl T.fu (ai (uJ sj (bx eI rfl T.dZ boot_len (uM (pv 0) uL)) fH) aA))) (aP (aO (i:=5) hX.nd))
  (aH (cw (cE (jY hr) jE (ab (pv 5)) (ab (pv 2)) (nomark _))
  (ak (aU (aQ (i:=6) hX.nd (aK aJ aI (pN (ab (pv 5)) (pv 0) (λ_ _=>rfl)) (ab (pv 2)))))
 (aH (uB (dS (cF (dB (dm iE ["x","y"] [1,4,6] rfl (mq (lw rfl rfl T.lE (pN (ab (pv 5)) (pv 0) (λ_ _=>rfl)) (ab (pv 3)))) (λb=>(cy rfl (aZ (aP (aO (i:=0) (show ((bN iE ["x","y"] [1,4,6])).Nodup by trivial))) (aZ (aP (aO (i:=1) (show ((bN iE ["x","y"] [1,4,6])).Nodup by trivial))) cx)) (aY (aY cu)))) (λb=>(ah iW iJ (ah cj cb (ah bi bh (ab (pv 3)) (ab (pv 0))) (ah bi bh (ab (pv 4)) (ab (pv 1)))) (ab (pv 2)))) rfl (show BlkOk iE (aL nk) _ [1,4,6] by trivial)) (gH (c6 (b8 (by decide)) (c6 (b8 (by decide)) gI))))) (sv (pv 0) (ab (pv 5)) kY)))))
  cv)))
 (aH (aU (aQ (i:=1) hX.nd (ab (pv 4)))))))))
 (aH (pJ (k:=0) (bn (cL (ai (cF (dB (dm iE ["row"] [] rfl (dg (ab (pv 0))) (λb=>(aP (aO (i:=0) (show ((bN iE ["row"] [])).Nodup by trivial)))) (λb=>(aK aJ aI (ab (pv 0)) (gW al))) rfl (show BlkOk iE (aL nk) _ [] by trivial)) (b8 (by decide)))) (ai (ab (pv 1)) aA))))))))
def lN:y9:=bg 3 0
 (bj (ac aX (ac ba (ac ao (aa 0) (aC (.int 2))) (ac aX (ac ao (aa 0) (aC (.int 3))) (ac bW (aa 2) (aa 1)))) (bo jf (ag (ac (cK λi j=>decide (i > j)) (aa 2) (aa 1)) ay))))
theorem ZpZ (T:Txt K mg):ACal (bq (K,cn)) P w K mg base "_law_order" 1 ["_law_shop","_law_stock","_law_level"] lN:=bA T.Zpl ZkJ rfl λf cdv A outer sh H E hr=>by
 exact (aH (bn (ah bi bh (ah bD bB (aK aJ aI (ab (pv 0)) al) (ah bi bh (aK aJ aI (ab (pv 0)) al) (ah cj cb (ab (pv 2)) (ab (pv 1))))) (bz (t:=a9) (c7 ud rfl T.nW boot_int (ai (mt fL cS (ab (pv 2)) (ab (pv 1)) (nomark _)) aA)) qy))))
def oo:y9:=bg 3 0
 (bj (bo iY (ag (ac bW (aa 1) (aa 2)) (ag (ac bW (aC (.int 0)) (ac ao (aa 0) (aC (.int 1)))) ay))))
theorem Zp0 (T:Txt K mg):ACal (bq (K,cn)) P w K mg base "_law_next" 1 ["_law_shop","_law_level","_law_fall"] oo:=bA T.Zpn ZkL rfl λf cdv A outer sh H E hr=>by
 exact (aH (bn (bz (t:=a9) (bx (pj rfl) rfl T.lF boot_max (ai (ah cj cb (ab (pv 1)) (ab (pv 2))) (ai (ah cj cb al (aK aJ aI (ab (pv 0)) al)) aA))) mS)))
def lO:y9:=bg 3 2
 (aj (aR 3 (ac bW (aa 1) (aa 2)))
 (aj (aR 4 (bo iY (ag (aC (.int 0)) (ag (ac bW (ac bW (aC (.int 0)) (ac ao (aa 0) (aC (.int 1)))) (aa 3)) ay))))
 (aj (cm (bO (ac (cK λi j=>decide (i > j)) (aa 3) (aC (.int 0))))
  (bj (ac aX (ac ao (aa 0) (aC (.int 4))) (aa 3)))
  ck)
 (bj (ac ba (ac aX (ac ao (aa 0) (aC (.int 5))) (ac bW (ac bW (aC (.int 0)) (aa 3)) (aa 4))) (ac aX (ac ao (aa 0) (aC (.int 6))) (aa 4)))))))
theorem Zp1 (T:Txt K mg):ACal (bq (K,cn)) P w K mg base "_law_day" 1 ["_law_shop","_law_level","_law_fall"] lO:=bA T.Zpp qZ rfl λf cdv A outer sh H E hr=>by
 exact (ak (aU (aQ (i:=3) qZ.nd (ah cj cb (ab (pv 1)) (ab (pv 2)))))
 (ak (aU (aQ (i:=4) qZ.nd (bz (t:=a9) (bx (pj rfl) rfl T.lF boot_max (ai al (ai (ah cj cb (ah cj cb al (aK aJ aI (ab (pv 0)) al)) (ab (pv 3))) aA))) mS)))
 (ak (cw (cE fL cS (ab (pv 3)) al (nomark _))
  (aH (bn (ah bi bh (aK aJ aI (ab (pv 0)) al) (ab (pv 3)))))
  cv)
 (aH (bn (ah bD bB (ah bi bh (aK aJ aI (ab (pv 0)) al) (ah cj cb (ah cj cb al (ab (pv 3))) (ab (pv 4)))) (ah bi bh (aK aJ aI (ab (pv 0)) al) (ab (pv 4)))))))))
noncomputable def qt:y6 :=
 (bO (ac (cK λi j=>decide (i > j)) (aa 3) (aC (.int 0))))
noncomputable def tf:y8 :=
 (jr 2 3 (ag (aa 3) (ag (ac gg (aa 2) (aa 3)) ay)))
def oj:y9:=bg 2 2
 (aj (jr 2 3 (ag (bo kI (ag (aa 0) ay)) (ag (aa 1) ay)))
 (aj (c5 qt tf 100000)
 (bj (cD (ag (ac fx (aa 0) (aa 2)) (ag (ac fx (aa 1) (aa 2)) ay))))))
theorem ZpX (T:Txt K mg):ACal (bq (K,cn)) P w K mg base "_law_share" 1 ["_law_top","_law_bottom"] oj:=bA T.Zpi qY rfl λf cdv A outer sh H E hr=>by
 exact (ak (pI (nF (i:=2) (j:=3) rfl qY.nd rfl rfl (by decide) rfl rfl (ai (bz (t:=a9) (bx ue rfl T.sL boot_abs (ai (ab (pv 0)) aA)) qz) (ai (ab (pv 1)) aA)) rfl))
 (ak (uA 100000 vR (cE fL cS (ab (pv 3)) al (nomark _))
  (aH (pI (nF (i:=2) (j:=3) rfl qY.nd rfl rfl (by decide) rfl rfl (ai (ab (pv 3)) (ai (ah nR mQ (ab (pv 2)) (ab (pv 3))) aA)) rfl))))
 (aH (bn (cL (ai (ah iW iJ (ab (pv 0)) (ab (pv 2))) (ai (ah iW iJ (ab (pv 1)) (ab (pv 2))) aA)))))))
def lP:y9:=bg 4 2
 (aj (aR 4 (ac bW (ac aX (ac ao (aa 2) (aC (.int 0))) (ac ao (aa 3) (aC (.int 1)))) (ac aX (ac ao (aa 3) (aC (.int 0))) (ac ao (aa 2) (aC (.int 1))))))
 (aj (aR 5 (ac aX (ac ao (aa 2) (aC (.int 1))) (ac ao (aa 3) (aC (.int 1)))))
 (bj (cD (ag (ac ba (ac aX (ac aX (aa 1) (ac ao (aa 0) (aC (.int 0)))) (aa 5)) (ac aX (aa 4) (ac ao (aa 0) (aC (.int 1))))) (ag (ac aX (ac ao (aa 0) (aC (.int 1))) (aa 5)) ay))))))
theorem Zie (T:Txt K mg):ACal (bq (K,cn)) P w K mg base "_law_bound" 1 ["_law_mean","_law_days","_law_worth","_law_other"] lP:=bA T.Zps q9 rfl λf cdv A outer sh H E hr=>by
 exact (ak (aU (aQ (i:=4) q9.nd (ah cj cb (ah bi bh (aK aJ aI (ab (pv 2)) al) (aK aJ aI (ab (pv 3)) al)) (ah bi bh (aK aJ aI (ab (pv 3)) al) (aK aJ aI (ab (pv 2)) al)))))
 (ak (aU (aQ (i:=5) q9.nd (ah bi bh (aK aJ aI (ab (pv 2)) al) (aK aJ aI (ab (pv 3)) al))))
 (aH (bn (cL (ai (ah bD bB (ah bi bh (ah bi bh (ab (pv 1)) (aK aJ aI (ab (pv 0)) al)) (ab (pv 5))) (ah bi bh (ab (pv 4)) (aK aJ aI (ab (pv 0)) al))) (ai (ah bi bh (aK aJ aI (ab (pv 0)) al) (ab (pv 5))) aA)))))))
def dG:y9:=bg 2 0
 (bj (ac (cK λi j=>decide (i ≥ j)) (ac aX (ac ao (aa 0) (aC (.int 0))) (ac ao (aa 1) (aC (.int 1)))) (ac aX (ac ao (aa 1) (aC (.int 0))) (ac ao (aa 0) (aC (.int 1))))))
theorem jl (T:Txt K mg):ACal (bq (K,cn)) P w K mg base "_law_no_less" 1 ["_law_one","_law_other"] dG:=bA T.Zpm ZkK rfl λf cdv A outer sh H E hr=>by
 exact (aH (bn (mt ZcQ cS (ah bi bh (aK aJ aI (ab (pv 0)) al) (aK aJ aI (ab (pv 1)) al)) (ah bi bh (aK aJ aI (ab (pv 1)) al) (aK aJ aI (ab (pv 0)) al)) (nomark _))))
def gj:y9:=bg 3 0
 (bj (kM (aB (aw j6 (ad (aa 0) au))) (pW (cK λi j=>decide (i<=j)) (cK λi j=>decide (i<=j)) (aa 1) (aa 0) (aa 2))))
theorem Zp7 (T:Txt K mg):ACal (bq (K,cn)) P w K mg base "is_whole_within" 2 ["thing","lowest","highest"] gj:=bA T.ZoX ZkA rfl λf cdv A outer sh H E hr=>by
 exact (aH (bn (pO (aF (aE (uh T) hr (ae (ab (pv 0)) az))) (uH (ZqM sB cS sB cS (ab (pv 1)) (ab (pv 0)) (ab (pv 2)))))))
def lT:y9:=bg 3 3
 (aj (aR 3 (aB (aw i6 (ad (aa 0) (ad (aa 1) (ad (aa 2) au))))))
 (aj (aR 4 (ac bW (aa 3) (ac bW (aa 1) (aa 2))))
 (aj (aR 5 (uT (bO (ac (cK λi j=>decide (i > j)) (aa 3) (aC (.int 0)))) (ac aX (ac ao (aa 0) (aC (.int 4))) (aa 3)) (ac aX (ac ao (aa 0) (aC (.int 5))) (fB (aa 3)))))
 (bj (ac ba (aa 5) (ac aX (ac ao (aa 0) (aC (.int 6))) (aa 4)))))))
theorem Zqe (T:Txt K mg):ACal (bq (K,cn)) P w K mg base "day_cost" 2 ["shop","level","fall"] lT:=bA T.Zo8 ng rfl λf cdv A outer sh H E hr=>by
 exact (ak (aU (aQ (i:=3) ng.nd (aF (aE (ug T) hr (ae (ab (pv 0)) (ae (ab (pv 1)) (ae (ab (pv 2)) az)))))))
 (ak (aU (aQ (i:=4) ng.nd (ah cj cb (ab (pv 3)) (ah cj cb (ab (pv 1)) (ab (pv 2))))))
 (ak (aU (aQ (i:=5) ng.nd (ZqL (cE fL cS (ab (pv 3)) al (nomark _)) (ah bi bh (aK aJ aI (ab (pv 0)) (cp rfl T.ZnO)) (ab (pv 3))) (ah bi bh (aK aJ aI (ab (pv 0)) (cp rfl T.ZnN)) (gW (ab (pv 3)))))))
 (aH (bn (ah bD bB (ab (pv 5)) (ah bi bh (aK aJ aI (ab (pv 0)) (cp rfl T.ZnL)) (ab (pv 4)))))))))
def gk:y9:=bg 1 2
 (aj (cm (gX (dD (di (iC "tuple" (aa 0)))) (bO (ac dX (bo c9 (ag (aa 0) ay)) (aC (.int 2)))))
  (bj (aC (.bool false)))
  ck)
 (aj (fg (bd (am (af 1) (am (af 2) bc))) (aa 0))
 (aj (cm (gX (dD (di (aB (aw j6 (ad (aa 1) au))))) (gX (dD (di (aB (aw j6 (ad (aa 2) au))))) (bO (ac (cK λi j=>decide (i < j)) (aa 2) (aC (.int 1))))))
  (bj (aC (.bool false)))
  ck)
 (bj (ac eG (aB (aw j8 (ad (aa 1) (ad (aa 2) au)))) (aC (.int 1)))))))
theorem Zif (T:Txt K mg):ACal (bq (K,cn)) P w K mg base "is_share" 2 ["thing"] gk:=bA T.ZoZ qV rfl λf cdv A outer sh H E hr=>by
 exact (ak (cw (jn (jm (eJ (dM (kH (T:="tuple") (Or.inr (Or.inr (Or.inr (Or.inr (.inl rfl))))) rfl (bx kA rfl T.j3 boot_isinstance (bH (ab (pv 0)) (bH (jW (v:=.ty "tuple") rfl T.dY boot_tuple rfl) cC)))))) (kD (cE (jY hr) jE (bz (t:=a9) (bx eI rfl T.dZ boot_len (ai (ab (pv 0)) aA)) fH) al (nomark _)))))
 (aH (bn dh))
 cv)
 (ak (fQ (dS (ab (pv 0)) (cy rfl (aZ (aP (aO (i:=1) qV.nd)) (aZ (aP (aO (i:=2) qV.nd)) cx)) (aY (aY cu)))))
 (ak (cw (jn (jm (eJ (dM (aF (aE (uh T) hr (ae (ab (pv 1)) az))))) (jm (eJ (dM (aF (aE (uh T) hr (ae (ab (pv 2)) az))))) (kD (cE ie cS (ab (pv 2)) al (nomark _))))))
  (aH (bn dh))
  cv)
 (aH (bn (mt (nS hr) mR (aF (aE (ui T) hr (ae (ab (pv 1)) (ae (ab (pv 2)) az)))) al (nomark _)))))))
def gh:y9:=bg 2 1
 (aj (cm (bO (ac eG (aa 1) (aC (.int 0))))
  mB
  ck)
 (aj (aR 2 (aB (aw j8 (ad (aa 0) (ad (aa 1) au)))))
 (aj (cm (bO (ac (cK λi j=>decide (i < j)) (aa 1) (aC (.int 0))))
  (aR 2 (fB (aa 2)))
  ck)
 (bj (cD (ag (ac fx (aa 0) (aa 2)) (ag (ac fx (aa 1) (aa 2)) ay)))))))
theorem kC (T:Txt K mg):ACal (bq (K,cn)) P w K mg base "share" 2 ["top","bottom"] gh:=bA T.ZoJ qT rfl λf cdv A outer sh H E hr=>by
 exact (ak (cw (cE (nS hr) mR (ab (pv 1)) al (nomark _))
 (aH ZiJ)
 cv)
 (ak (aU (aQ (i:=2) qT.nd (aF (aE (ui T) hr (ae (ab (pv 0)) (ae (ab (pv 1)) az))))))
 (ak (cw (cE ie cS (ab (pv 1)) al (nomark _))
  (aH (aU (aQ (i:=2) qT.nd (gW (ab (pv 2))))))
  cv)
 (aH (bn (cL (ai (ah iW iJ (ab (pv 0)) (ab (pv 2))) (ai (ah iW iJ (ab (pv 1)) (ab (pv 2))) aA))))))))
noncomputable def rY:yZ :=
 (aB (aw lS (ad (aa 1) (ad (aa 0) au))))
def lR:y9:=bg 1 0
 (pS (cG (cZ (aB (aw fv (ad (aa 0) au)))) 1 [0] (af 0) rY))
theorem Zig (T:Txt K mg):ACal (bq (K,cn)) P w K mg base "end_costs" 2 ["shop"] lR:=bA T.Zo6 ZkE rfl λf cdv A outer sh H E hr=>by
 exact (aH (ZiI (dB (dm qj ["stock"] [0] rfl (dg (aF (aE (gT T) hr (ae (ab (pv 0)) az)))) (λb=>(aP (aO (i:=0) (show ((bN qj ["stock"] [0])).Nodup by trivial)))) (λb=>(aF (aE (Zqd T) hr (ae (ab (pv 1)) (ae (ab (pv 0)) az))))) rfl (show BlkOk qj (aL rm) _ [0] by trivial)) (b8 (by decide)))))
def j9:y9:=bg 3 0
 (iA (aw oC (ad (aa 0) (ad (fB (ac ao (aa 0) (aC (.int 1)))) (ad (aa 1) (ad (aa 2) au))))))
theorem Zij (T:Txt K mg):ACal (bq (K,cn)) P w K mg base "cheapest" 2 ["shop","by_level","scale"] j9:=bA T.Zpd ZkG rfl λf cdv A outer sh H E hr=>by
 exact (aH (kE (aE (Zqf T) hr (ae (ab (pv 0)) (ae (gW (aK aJ aI (ab (pv 0)) (cp rfl T.gt))) (ae (ab (pv 1)) (ae (ab (pv 2)) az)))))))
def i7:y9:=bg 2 0
 (cm (bO (ac (cK λi j=>decide (i < j)) (aB (aw oz (ad (aa 1) au))) (ac ba (ac ao (aa 0) (aC (.int 0))) (ac ao (aa 0) (aC (.int 1))))))
  mB
  ck)
theorem Zik (T:Txt K mg):ACal (bq (K,cn)) P w K mg base "ask_lasting" 2 ["shop","one"] i7:=bA T.Zpf ZkH rfl λf cdv A outer sh H E hr=>by
 exact (aH (cw (cE ie cS (aF (aE (Zqb T) hr (ae (ab (pv 1)) az))) (ah bD bB (aK aJ aI (ab (pv 0)) (cp rfl T.ji)) (aK aJ aI (ab (pv 0)) (cp rfl T.gt))) (nomark _))
 (aH ZiJ)
 cv))
noncomputable def oH:y8 :=
 (ju jh 1 (ac fx (aa 3) (aB (aw j8 (ad (aa 1) (ad (aa 3) au))))))
noncomputable def nr:yZ :=
 (ac aX (aa 0) (ac fx (aa 2) (aa 1)))
def og:y9:=bg 1 3
 (aj (aR 1 (aC (.int 1)))
 (aj (cW (cZ (aa 0)) (bd (am (af 2) (am (af 3) bc))) oH)
 (bj (cD (ag (bV (cG (cZ (aa 0)) 2 [1] (bd (am (af 0) (am (af 1) bc))) nr)) (ag (aa 1) ay))))))
theorem ZpR (T:Txt K mg):ACal (bq (K,cn)) P w K mg base "on_one_scale" 2 ["worths"] og:=bA T.ZoN k7 rfl λf cdv A outer sh H E hr=>by
 exact (ak (aU (aQ (i:=1) k7.nd al))
 (ak (dc vR rfl (dg (ab (pv 0))) (cy rfl (aZ (aP (aO (i:=2) k7.nd)) (aZ (aP (aO (i:=3) k7.nd)) cx)) (aY (aY cu)))
  (aH (pK qx (nH (i:=1) k7.nd rfl (.inr rfl) (ah iW iJ (ab (pv 3)) (aF (aE (ui T) hr (ae (ab (pv 1)) (ae (ab (pv 3)) az))))) (pip tw)))))
 (aH (bn (cL (ai (cF (dB (dm mG ["top","bottom"] [1] rfl (dg (ab (pv 0))) (λb=>(cy rfl (aZ (aP (aO (i:=0) (show ((bN mG ["top","bottom"] [1])).Nodup by trivial))) (aZ (aP (aO (i:=1) (show ((bN mG ["top","bottom"] [1])).Nodup by trivial))) cx)) (aY (aY cu)))) (λb=>(ah bi bh (ab (pv 0)) (ah iW iJ (ab (pv 2)) (ab (pv 1))))) rfl (show BlkOk mG (aL ra) _ [1] by trivial)) (gH (c6 (b8 (by decide)) (c6 (b8 (by decide)) gI))))) (ai (ab (pv 1)) aA)))))))
noncomputable abbrev c8:=oB
theorem dA (T:Txt K mg):ACal (bq (K,cn)) P w K mg base "_law_take" 2 ["_law_pen_here","_law_most"] c8:=Zox rfl (Zmc T)
noncomputable def jc:y8 :=
 (aj (cm (dD (di (aB (aw dG (ad (aa 3) (ad (aa 1) au))))))
  (aR 1 (aa 3))
  ck)
 (cm (dD (di (aB (aw dG (ad (aa 2) (ad (aa 3) au))))))
  (aR 2 (aa 3))
  ck))
def ot:y9:=bg 1 3
 (aj (aR 1 (ac ao (aa 0) (aC (.int 0))))
 (aj (aR 2 (ac ao (aa 0) (aC (.int 0))))
 (aj (cW (cZ (aa 0)) (af 3) jc)
 (bj (cD (ag (aa 1) (ag (aa 2) ay)))))))
theorem Zp3 (T:Txt K mg):ACal (bq (K,cn)) P w K mg base "_law_by_worth" 2 ["_law_worths"] ot:=bA T.Zpr jO rfl λf cdv A outer sh H E hr=>by
 exact (ak (aU (aQ (i:=1) jO.nd (aK aJ aI (ab (pv 0)) al)))
 (ak (aU (aQ (i:=2) jO.nd (aK aJ aI (ab (pv 0)) al)))
 (ak (dc vR rfl (dg (ab (pv 0))) (aP (aO (i:=3) jO.nd))
  (ak (cw (eJ (dM (aF (aE (jl T) hr (ae (ab (pv 3)) (ae (ab (pv 1)) az))))))
  (aH (aU (aQ (i:=1) jO.nd (ab (pv 3)))))
  cv)
 (aH (cw (eJ (dM (aF (aE (jl T) hr (ae (ab (pv 2)) (ae (ab (pv 3)) az))))))
  (aH (aU (aQ (i:=2) jO.nd (ab (pv 3)))))
  cv))))
 (aH (bn (cL (ai (ab (pv 1)) (ai (ab (pv 2)) aA))))))))
def oy:y9:=bg 3 0
 (iA (aw gj (ad (aa 2) (ad (aa 1) (ad (ac ao (aa 0) (aC (.int 0))) au)))))
theorem Zp9 (T:Txt K mg):ACal (bq (K,cn)) P w K mg base "is_level" 3 ["shop","stock","thing"] oy:=bA T.Zo1 ZkC rfl λf cdv A outer sh H E hr=>by
 exact (aH (kE (aE (Zp7 T) hr (ae (ab (pv 2)) (ae (ab (pv 1)) (ae (aK aJ aI (ab (pv 0)) (cp rfl T.ji)) az))))))
def oa:y9:=bg 2 0
 (iA (aw gh (ad (ac ba (ac aX (ac ao (aa 0) (aC (.int 0))) (ac ao (aa 1) (aC (.int 1)))) (ac aX (ac ao (aa 1) (aC (.int 0))) (ac ao (aa 0) (aC (.int 1))))) (ad (ac aX (ac ao (aa 0) (aC (.int 1))) (ac ao (aa 1) (aC (.int 1)))) au))))
theorem ZpQ (T:Txt K mg):ACal (bq (K,cn)) P w K mg base "plus" 3 ["one","other"] oa:=bA T.ZoL Zkv rfl λf cdv A outer sh H E hr=>by
 exact (aH (kE (aE (kC T) hr (ae (ah bD bB (ah bi bh (aK aJ aI (ab (pv 0)) al) (aK aJ aI (ab (pv 1)) al)) (ah bi bh (aK aJ aI (ab (pv 1)) al) (aK aJ aI (ab (pv 0)) al))) (ae (ah bi bh (aK aJ aI (ab (pv 0)) al) (aK aJ aI (ab (pv 1)) al)) az)))))
noncomputable def ZdB:y8 :=
 (aj (aR 8 (ac ao (aa 3) (ac ba (aB (aw i6 (ad (aa 0) (ad (aa 2) (ad (aa 6) au))))) (ac ao (aa 0) (aC (.int 1))))))
 (ju oR 5 (ac aX (aa 7) (ac ba (ac aX (aa 4) (aB (aw lT (ad (aa 0) (ad (aa 2) (ad (aa 6) au)))))) (aa 8)))))
def i0:y9:=bg 5 4
 (aj (aR 5 (aC (.int 0)))
 (aj (cW (js (aa 1)) (bd (am (af 6) (am (af 7) bc))) ZdB)
 (fR 5)))
theorem pq (T:Txt K mg):ACal (bq (K,cn)) P w K mg base "weighed" 3 ["shop","day","level","ahead","scale"] i0:=bA T.ZoG jK rfl λf cdv A outer sh H E hr=>by
 exact (ak (aU (aQ (i:=5) jK.nd al))
 (ak (dc vR rfl (mr (lx rfl rfl T.lH (ab (pv 1)))) (cy rfl (aZ (aP (aO (i:=6) jK.nd)) (aZ (aP (aO (i:=7) jK.nd)) cx)) (aY (aY cu)))
  (ak (aU (aQ (i:=8) jK.nd (aK aJ aI (ab (pv 3)) (ah bD bB (aF (aE (ug T) hr (ae (ab (pv 0)) (ae (ab (pv 2)) (ae (ab (pv 6)) az))))) (aK aJ aI (ab (pv 0)) (cp rfl T.gt))))))
 (aH (pK Zjl (nH (i:=5) jK.nd rfl (.inl rfl) (ah bi bh (ab (pv 7)) (ah bD bB (ah bi bh (ab (pv 4)) (aF (aE (Zqe T) hr (ae (ab (pv 0)) (ae (ab (pv 2)) (ae (ab (pv 6)) az)))))) (ab (pv 8)))) (pip Znx))))))
 (aH (mj (pv 5)))))
noncomputable def rW:yZ :=
 (aB (aw gk (ad (aa 0) au)))
def j5:y9:=bg 2 0
 (aj (cm (gX (dD (di (iC "tuple" (aa 1)))) (bO (ac dX (bo c9 (ag (aa 1) ay)) (bo c9 (ag (aB (aw fv (ad (aa 0) au))) ay)))))
  (bj (aC (.bool false)))
  ck)
 (bj (bo ml (ag (bV (cG (cZ (aa 1)) 1 [] (af 0) rW)) ay))))
theorem Zp6 (T:Txt K mg):ACal (bq (K,cn)) P w K mg base "is_worths" 3 ["shop","thing"] j5:=bA T.ZoW Zkz rfl λf cdv A outer sh H E hr=>by
 exact (ak (cw (jn (jm (eJ (dM (kH (T:="tuple") (Or.inr (Or.inr (Or.inr (Or.inr (.inl rfl))))) rfl (bx kA rfl T.j3 boot_isinstance (bH (ab (pv 1)) (bH (jW (v:=.ty "tuple") rfl T.dY boot_tuple rfl) cC)))))) (kD (cE (jY hr) jE (bz (t:=a9) (bx eI rfl T.dZ boot_len (ai (ab (pv 1)) aA)) fH) (bz (t:=a9) (bx eI rfl T.dZ boot_len (ai (aF (aE (gT T) hr (ae (ab (pv 0)) az))) aA)) fH) (nomark _)))))
 (aH (bn dh))
 cv)
 (aH (bn (bz (t:=a9) (bx (Zib rfl) rfl T.Zc2 boot_all (ai (cF (dB (dm qi ["worth"] [] rfl (dg (ab (pv 1))) (λb=>(aP (aO (i:=0) (show ((bN qi ["worth"] [])).Nodup by trivial)))) (λb=>(aF (aE (Zif T) hr (ae (ab (pv 0)) az)))) rfl (show BlkOk qi (aL rg) _ [] by trivial)) (b8 (by decide)))) aA)) Zak))))
def om:y9:=bg 1 1
 (aj (aR 1 (aB (aw c8 (cP 0 (ad (aC (.int 6)) au)))))
 (aj (cm (bO (ac (cK λi j=>decide (i < j)) (aa 1) (aC (.int 4))))
  (bj (ac aX (aB (aw c8 (cP 0 (ad (aC (.int 10)) au)))) (bo jf (ag (ac (cK λi j=>decide (i > j)) (aa 1) (aC (.int 0))) ay))))
  ck)
 (bj (ac ao (bV (dN (ag (aB (aw c8 (cP 0 (ad (aC (.int 1000)) au)))) (ag (ac bW (ac sg (aC (.int 10)) (aC (.int 6))) (aB (aw c8 (cP 0 (ad (aC (.int 3)) au))))) ay)))) (ac bW (aa 1) (aC (.int 4)))))))
theorem ZpY (T:Txt K mg):ACal (bq (K,cn)) P w K mg base "_law_price" 3 ["_law_pen_here"] om:=bA T.Zpj Zbc rfl λf cdv A outer sh H E hr=>by
 exact (ak (aU (aQ (i:=1) Zbc.nd (aF (aE (dA T) hr (cY (pv 0) (ae al az))))))
 (ak (cw (cE ie cS (ab (pv 1)) al (nomark _))
  (aH (bn (ah bi bh (aF (aE (dA T) hr (cY (pv 0) (ae al az)))) (bz (t:=a9) (c7 ud rfl T.nW boot_int (ai (mt fL cS (ab (pv 1)) al (nomark _)) aA)) qy))))
  cv)
 (aH (bn (aK aJ aI (cF (ff (ai (aF (aE (dA T) hr (cY (pv 0) (ae al az)))) (ai (ah cj cb (ah sA Zjj al al) (aF (aE (dA T) hr (cY (pv 0) (ae al az))))) aA)))) (ah cj cb (ab (pv 1)) al))))))
noncomputable def sZ:y8 :=
 (jv 3 (ac ao (bV (dN (ag (aC (.int 0)) (ag (aC (.int 1)) (ag (aB (aw c8 (cP 0 (ad (aC (.int 10)) au)))) (ag (aB (aw c8 (cP 0 (ad (aC (.int 1001)) au)))) ay)))))) (aB (aw c8 (cP 0 (ad (aC (.int 4)) au))))))
def oi:y9:=bg 3 2
 (aj (jq 3 (dN ay))
 (aj (cW (gx (ag (aa 1) ay)) (af 4) sZ)
 (aj (kK 3 (aa 2) (bo iY (ag (aC (.int 1)) (ag (iB 3 (aa 2)) ay))))
 (kL 3 (bj (bo eP (ag (aa 3) ay)))))))
theorem ZpW (T:Txt K mg):ACal (bq (K,cn)) P w K mg base "_law_weights" 3 ["_law_pen_here","_law_many","_law_at"] oi:=bA T.Zpg qX rfl λf cdv A outer sh H E hr=>by
 exact (ak (mi (aQ (i:=3) qX.nd (ff aA)))
 (ak (dc vR rfl (iz (ib rfl T.fu (ai (ab (pv 1)) aA))) (aP (aO (i:=4) qX.nd))
  (aH (pL (iS (nM wF xi xh nX (pv 3) (bH (aK aJ aI (cF (ff (ai al (ai al (ai (aF (aE (dA T) hr (cY (pv 0) (ae al az)))) (ai (aF (aE (dA T) hr (cY (pv 0) (ae al az)))) aA)))))) (aF (aE (dA T) hr (cY (pv 0) (ae al az))))) cC))))))
 (ak (uB (dS (bz (t:=a9) (bx (pj rfl) rfl T.lF boot_max (ai al (ai (pN (ab (pv 2)) (pv 3) (λ_ _=>rfl)) aA))) mS) (sv (pv 3) (ab (pv 2)) kY)))
 (aH (pJ (k:=3) (bn (bz (t:=a9) (c7 gS rfl T.dY boot_tuple (ai (ab (pv 3)) aA)) gz)))))))
noncomputable def rX:yZ :=
 (aB (aw oy (ad (aa 2) (ad (aa 0) (ad (aa 1) au)))))
def j7:y9:=bg 2 1
 (aj (aR 2 (aB (aw fv (ad (aa 0) au))))
 (aj (cm (gX (dD (di (iC "tuple" (aa 1)))) (bO (ac dX (bo c9 (ag (aa 1) ay)) (bo c9 (ag (aa 2) ay)))))
  (bj (aC (.bool false)))
  ck)
 (bj (bo ml (ag (bV (cG (jp (aa 2) (aa 1)) 2 [0] (bd (am (af 0) (am (af 1) bc))) rX)) ay)))))
theorem Zp8 (T:Txt K mg):ACal (bq (K,cn)) P w K mg base "is_levels" 4 ["shop","thing"] j7:=bA T.Zo0 Zbb rfl λf cdv A outer sh H E hr=>by
 exact (ak (aU (aQ (i:=2) Zbb.nd (aF (aE (gT T) hr (ae (ab (pv 0)) az)))))
 (ak (cw (jn (jm (eJ (dM (kH (T:="tuple") (Or.inr (Or.inr (Or.inr (Or.inr (.inl rfl))))) rfl (bx kA rfl T.j3 boot_isinstance (bH (ab (pv 1)) (bH (jW (v:=.ty "tuple") rfl T.dY boot_tuple rfl) cC)))))) (kD (cE (jY hr) jE (bz (t:=a9) (bx eI rfl T.dZ boot_len (ai (ab (pv 1)) aA)) fH) (bz (t:=a9) (bx eI rfl T.dZ boot_len (ai (ab (pv 2)) aA)) fH) (nomark _)))))
  (aH (bn dh))
  cv)
 (aH (bn (bz (t:=a9) (bx (Zib rfl) rfl T.Zc2 boot_all (ai (cF (dB (dm mI ["stock","level"] [0] rfl (mq (lw rfl rfl T.lE (ab (pv 2)) (ab (pv 1)))) (λb=>(cy rfl (aZ (aP (aO (i:=0) (show ((bN mI ["stock","level"] [0])).Nodup by trivial))) (aZ (aP (aO (i:=1) (show ((bN mI ["stock","level"] [0])).Nodup by trivial))) cx)) (aY (aY cu)))) (λb=>(aF (aE (Zp9 T) hr (ae (ab (pv 2)) (ae (ab (pv 0)) (ae (ab (pv 1)) az)))))) rfl (show BlkOk mI (aL rh) _ [0] by trivial)) (gH (c6 (b8 (by decide)) (c6 (b8 (by decide)) gI))))) aA)) Zak)))))
noncomputable def tm:y8 :=
 (jv 6 (ac ba (ac aX (aa 5) (aB (aw i5 (ad (aa 0) (ad (aa 7) (ad (aa 8) au)))))) (aB (aw i0 (ad (aa 0) (ad (aa 1) (ad (aa 8) (ad (aa 3) (ad (aa 4) au)))))))))
def lU:y9:=bg 5 4
 (aj (aR 5 (ac aX (aa 4) (bo cH (ag (aa 1) ay))))
 (aj (jq 6 (dN ay))
 (aj (cW (jp (aB (aw fv (ad (aa 0) au))) (aa 2)) (bd (am (af 7) (am (af 8) bc))) tm)
 (fR 6))))
theorem Zih (T:Txt K mg):ACal (bq (K,cn)) P w K mg base "costs_by" 4 ["shop","day","levels","ahead","scale"] lU:=bA T.Zo9 lb rfl λf cdv A outer sh H E hr=>by
 exact (ak (aU (aQ (i:=5) lb.nd (ah bi bh (ab (pv 4)) (bz (t:=a9) (bx (fc rfl) rfl T.eX boot_sum (ai (ab (pv 1)) aA)) eO))))
 (ak (mi (aQ (i:=6) lb.nd (ff aA)))
 (ak (dc vR rfl (mq (lw rfl rfl T.lE (aF (aE (gT T) hr (ae (ab (pv 0)) az))) (ab (pv 2)))) (cy rfl (aZ (aP (aO (i:=7) lb.nd)) (aZ (aP (aO (i:=8) lb.nd)) cx)) (aY (aY cu)))
  (aH (pL (iS (nM wF xi xh nX (pv 6) (bH (ah bD bB (ah bi bh (ab (pv 5)) (aF (aE (uf T) hr (ae (ab (pv 0)) (ae (ab (pv 7)) (ae (ab (pv 8)) az)))))) (aF (aE (pq T) hr (ae (ab (pv 0)) (ae (ab (pv 1)) (ae (ab (pv 8)) (ae (ab (pv 3)) (ae (ab (pv 4)) az)))))))) cC))))))
 (aH (mj (pv 6))))))
noncomputable def rR:yZ :=
 (ac ba (ac aX (ac aX (aa 5) (ac ao (aa 1) (aC (.int 3)))) (aa 0)) (aB (aw i0 (ad (aa 1) (ad (aa 2) (ad (aa 0) (ad (aa 3) (ad (aa 4) au))))))))
def lM:y9:=bg 4 1
 (aj (aR 4 (ac aX (aa 3) (bo cH (ag (aa 1) ay))))
 (pS (cG (cZ (aB (aw fv (ad (aa 0) au)))) 1 [0,1,2,3,4] (af 0) rR)))
theorem Zic (T:Txt K mg):ACal (bq (K,cn)) P w K mg base "level_sums" 4 ["shop","day","ahead","scale"] lM:=bA T.ZoR Zba rfl λf cdv A outer sh H E hr=>by
 exact (ak (aU (aQ (i:=4) Zba.nd (ah bi bh (ab (pv 3)) (bz (t:=a9) (bx (fc rfl) rfl T.eX boot_sum (ai (ab (pv 1)) aA)) eO))))
 (aH (ZiI (dB (dm qg ["level"] [0,1,2,3,4] rfl (dg (aF (aE (gT T) hr (ae (ab (pv 0)) az)))) (λb=>(aP (aO (i:=0) (show ((bN qg ["level"] [0,1,2,3,4])).Nodup by trivial)))) (λb=>(ah bD bB (ah bi bh (ah bi bh (ab (pv 5)) (aK aJ aI (ab (pv 1)) (cp rfl T.tK))) (ab (pv 0))) (aF (aE (pq T) hr (ae (ab (pv 1)) (ae (ab (pv 2)) (ae (ab (pv 0)) (ae (ab (pv 3)) (ae (ab (pv 4)) az))))))))) rfl (show BlkOk qg (aL re) _ [0,1,2,3,4] by trivial)) (b8 (by decide))))))
noncomputable def oK:y8 :=
 (jt (λi j=>i - j) 4 (ac ba (aB (aw i6 (ad (aa 0) (ad (aa 3) (ad (aa 5) au))))) (ac ao (aa 0) (aC (.int 1)))) (aa 6))
def oA:y9:=bg 4 5
 (aj (jq 4 (pZ jT (bV (dN (ag (aC (.int 0)) ay))) (ac ba (ac ba (ac ao (aa 0) (aC (.int 0))) (ac ao (aa 0) (aC (.int 1)))) (aC (.int 1)))))
 (aj (jt (λi j=>i+j) 4 (ac ba (aa 2) (ac ao (aa 0) (aC (.int 1)))) (bo cH (ag (aa 1) ay)))
 (aj (cW (js (aa 1)) (bd (am (af 5) (am (af 6) bc))) oK)
 (aj (kK 4 (aC (.int 0)) (bo cH (ag (aa 1) ay)))
 (aj (aR 7 (ac aX (bV (dN (ag (aC (.int 0)) ay))) (mC c9 (kJ 4 au))))
 (aj (aR 8 (ac ba (ac aX (bo cH (ag (aa 1) ay)) (aB (aw i5 (ad (aa 0) (ad (aa 2) (ad (aa 3) au)))))) (aB (aw i0 (ad (aa 0) (ad (aa 1) (ad (aa 3) (ad (aa 7) (ad (aC (.int 1)) au)))))))))
 (kL 4 (bj (ac ba (aa 4) (bV (dN (ag (aa 8) ay))))))))))))
theorem Zqc (T:Txt K mg):ACal (bq (K,cn)) P w K mg base "equation" 4 ["shop","one","stock","level"] oA:=bA T.Zo5 jM rfl λf cdv A outer sh H E hr=>by
 exact (ak (mi (aQ (i:=4) jM.nd (Zqw ZcP Zji (cF (ff (ai al aA))) (ah bD bB (ah bD bB (aK aJ aI (ab (pv 0)) (cp rfl T.ji)) (aK aJ aI (ab (pv 0)) (cp rfl T.gt))) al))))
 (ak (ZiL (Zcx (pv 4) (ah bD bB (ab (pv 2)) (aK aJ aI (ab (pv 0)) (cp rfl T.gt))) ZdY (bz (t:=a9) (bx (fc rfl) rfl T.eX boot_sum (ai (ab (pv 1)) aA)) eO) Znw kY))
 (ak (dc vR rfl (mr (lx rfl rfl T.lH (ab (pv 1)))) (cy rfl (aZ (aP (aO (i:=5) jM.nd)) (aZ (aP (aO (i:=6) jM.nd)) cx)) (aY (aY cu)))
  (aH (ZiL (Zcx (pv 4) (ah bD bB (aF (aE (ug T) hr (ae (ab (pv 0)) (ae (ab (pv 3)) (ae (ab (pv 5)) az))))) (aK aJ aI (ab (pv 0)) (cp rfl T.gt))) ZdY (ab (pv 6)) Znv kY))))
 (ak (uB (dS (bz (t:=a9) (bx (fc rfl) rfl T.eX boot_sum (ai (ab (pv 1)) aA)) eO) (sv (pv 4) al kY)))
 (ak (aU (aQ (i:=7) jM.nd (ah bi bh (cF (ff (ai al aA))) (uJ sj (bx eI rfl T.dZ boot_len (uM (pv 4) uL)) fH))))
 (ak (aU (aQ (i:=8) jM.nd (ah bD bB (ah bi bh (bz (t:=a9) (bx (fc rfl) rfl T.eX boot_sum (ai (ab (pv 1)) aA)) eO) (aF (aE (uf T) hr (ae (ab (pv 0)) (ae (ab (pv 2)) (ae (ab (pv 3)) az)))))) (aF (aE (pq T) hr (ae (ab (pv 0)) (ae (ab (pv 1)) (ae (ab (pv 3)) (ae (ab (pv 7)) (ae al az))))))))))
 (aH (pJ (k:=4) (bn (ah bD bB (ab (pv 4)) (cF (ff (ai (ab (pv 8)) aA)))))))))))))
noncomputable def rQ:yZ :=
 (aB (aw i0 (ad (aa 1) (ad (aa 2) (ad (aa 0) (ad (aa 3) (ad (aa 4) au)))))))
noncomputable def kc:y8 :=
 (cm (bO (ac (cK λi j=>decide (i < j)) (ac ba (ac aX (aa 5) (aB (aw i5 (ad (aa 0) (ad (aa 7) (ad (aa 9) au)))))) (ac ao (aa 6) (ac ba (aa 9) (ac ao (aa 0) (aC (.int 1)))))) (aa 8)))
  (bj (aC (.bool false)))
  ck)
noncomputable def kb:y8 :=
 (cW (uO (ag (aa 7) (ag (ac ba (ac ao (aa 0) (aC (.int 0))) (aC (.int 1))) ay))) (af 9) kc)
def j4:y9:=bg 5 5
 (aj (aR 5 (ac aX (aa 4) (bo cH (ag (aa 1) ay))))
 (aj (aR 6 (bV (cG (cZ (aB (aw fv (ad (aa 0) au)))) 1 [0,1,3,4] (af 0) rQ)))
 (aj (cW (jp (aB (aw fv (ad (aa 0) au))) (aa 2)) (bd (am (af 7) (am (af 8) bc))) kb)
 (bj (aC (.bool true))))))
theorem ZpS (T:Txt K mg):ACal (bq (K,cn)) P w K mg base "none_less" 4 ["shop","day","costs","ahead","scale"] j4:=bA T.ZoO jL rfl λf cdv A outer sh H E hr=>by
 exact (ak (aU (aQ (i:=5) jL.nd (ah bi bh (ab (pv 4)) (bz (t:=a9) (bx (fc rfl) rfl T.eX boot_sum (ai (ab (pv 1)) aA)) eO))))
 (ak (pH (nE (i:=6) qf ["level"] [0,1,3,4] rfl jL.nd rfl rfl (dg (aF (aE (gT T) hr (ae (ab (pv 0)) az)))) (λb=>(aP (aO (i:=0) (show ((bN qf ["level"] [0,1,3,4])).Nodup by trivial)))) (λb=>(aF (aE (pq T) hr (ae (ab (pv 1)) (ae (ab (pv 2)) (ae (ab (pv 0)) (ae (ab (pv 3)) (ae (ab (pv 4)) az)))))))) rfl (show BlkOk qf (aL rb) _ [0,1,3,4] by trivial) rfl) (b8 (by decide)))
 (ak (dc vR rfl (mq (lw rfl rfl T.lE (aF (aE (gT T) hr (ae (ab (pv 0)) az))) (ab (pv 2)))) (cy rfl (aZ (aP (aO (i:=7) jL.nd)) (aZ (aP (aO (i:=8) jL.nd)) cx)) (aY (aY cu)))
  (aH (dc vR rfl (ZqD (Zlx rfl T.fu (ai (ab (pv 7)) (ai (ah bD bB (aK aJ aI (ab (pv 0)) (cp rfl T.ji)) al) aA)))) (aP (aO (i:=9) jL.nd))
  (aH (cw (cE ie cS (ah bD bB (ah bi bh (ab (pv 5)) (aF (aE (uf T) hr (ae (ab (pv 0)) (ae (ab (pv 7)) (ae (ab (pv 9)) az)))))) (aK aJ aI (ab (pv 6)) (ah bD bB (ab (pv 9)) (aK aJ aI (ab (pv 0)) (cp rfl T.gt))))) (ab (pv 8)) (nomark _))
  (aH (bn dh))
  cv)))))
 (aH (bn dh)))))
noncomputable def Zcq:yZ :=
 (aB (aw om (cP 1 au)))
def oq:y9:=bg 2 4
 (aj (aR 2 (aB (aw c8 (cP 0 (ad (ac ao (bV (dN (ag (aC (.int 8)) (ag (ac ba (aa 1) (aC (.int 1))) ay)))) (bo jf (ag (ac (cK λi j=>decide (i > j)) (aB (aw c8 (cP 0 (ad (aC (.int 8)) au)))) (aC (.int 0))) ay))) au)))))
 (aj (aR 3 (aB (aw c8 (cP 0 (ad (ac ba (aa 2) (aC (.int 1))) au)))))
 (aj (aR 4 (ac ba (cD (ag (ac bW (aa 2) (aa 3)) (ag (aa 3) ay))) (bo eP (ag (bV (cG (gx (ag (aC (.int 7)) ay)) 1 [0] (af 0) Zcq)) ay))))
 (aj (aR 5 (ac ba (ac ba (aa 2) (aC (.int 1))) (aB (aw c8 (cP 0 (ad (ac bW (aC (.int 8)) (aa 2)) au))))))
 (bj (cD (ag (aa 4) (ag (aB (aw oi (cP 0 (ad (aa 5) (ad (ac ba (aa 2) (aB (aw c8 (cP 0 (ad (ac bW (aa 5) (aa 2)) au))))) au))))) ay))))))))
theorem Zp2 (T:Txt K mg):ACal (bq (K,cn)) P w K mg base "_law_case" 4 ["_law_pen_here","_law_few"] oq:=bA T.Zpq ld rfl λf cdv A outer sh H E hr=>by
 exact (ak (aU (aQ (i:=2) ld.nd (aF (aE (dA T) hr (cY (pv 0) (ae (aK aJ aI (cF (ff (ai al (ai (ah bD bB (ab (pv 1)) al) aA)))) (bz (t:=a9) (c7 ud rfl T.nW boot_int (ai (mt fL cS (aF (aE (dA T) hr (cY (pv 0) (ae al az)))) al (nomark _)) aA)) qy)) az))))))
 (ak (aU (aQ (i:=3) ld.nd (aF (aE (dA T) hr (cY (pv 0) (ae (ah bD bB (ab (pv 2)) al) az))))))
 (ak (aU (aQ (i:=4) ld.nd (ah bD bB (cL (ai (ah cj cb (ab (pv 2)) (ab (pv 3))) (ai (ab (pv 3)) aA))) (bz (t:=a9) (c7 gS rfl T.dY boot_tuple (ai (cF (dB (dm qk ["_law_k"] [0] rfl (iz (ib rfl T.fu (ai al aA))) (λb=>(aP (aO (i:=0) (show ((bN qk ["_law_k"] [0])).Nodup by trivial)))) (λb=>(aF (aE (ZpY T) hr (cY (pv 1) az)))) rfl (show BlkOk qk (aL rq) _ [0] by trivial)) (b8 (by decide)))) aA)) gz))))
 (ak (aU (aQ (i:=5) ld.nd (ah bD bB (ah bD bB (ab (pv 2)) al) (aF (aE (dA T) hr (cY (pv 0) (ae (ah cj cb al (ab (pv 2))) az)))))))
 (aH (bn (cL (ai (ab (pv 4)) (ai (aF (aE (ZpW T) hr (cY (pv 0) (ae (ab (pv 5)) (ae (ah bD bB (ab (pv 2)) (aF (aE (dA T) hr (cY (pv 0) (ae (ah cj cb (ab (pv 5)) (ab (pv 2))) az))))) az))))) aA)))))))))
noncomputable def ZdD:y8 :=
 (aj (aR 4 (aB (aw lU (ad (aa 0) (ad (ac ao (aa 1) (aa 6)) (ad (ac ao (aa 2) (aa 6)) (ad (aa 4) (ad (aa 5) au))))))))
 (ju jh 5 (bo cH (ag (ac ao (aa 1) (aa 6)) ay))))
def lV:y9:=bg 4 3
 (aj (aR 4 (aB (aw lR (ad (aa 0) au))))
 (aj (aR 5 (aC (.int 1)))
 (aj (cW (uQ (ag (bo c9 (ag (aa 1) ay)) ay)) (af 6) ZdD)
 (iA (aw gh (ad (ac ao (aa 4) (ac ba (aa 3) (ac ao (aa 0) (aC (.int 1))))) (ad (aa 5) au)))))))
theorem Zii (T:Txt K mg):ACal (bq (K,cn)) P w K mg base "cost_of" 5 ["shop","falls","rule","stock"] lV:=bA T.Zpa jN rfl λf cdv A outer sh H E hr=>by
 exact (ak (aU (aQ (i:=4) jN.nd (aF (aE (Zig T) hr (ae (ab (pv 0)) az)))))
 (ak (aU (aQ (i:=5) jN.nd al))
 (ak (dc vR rfl (ZqF (su rfl T.sK (c7 ZpM rfl T.fu boot_range (ai (bz (t:=a9) (bx eI rfl T.dZ boot_len (ai (ab (pv 1)) aA)) fH) aA)))) (aP (aO (i:=6) jN.nd))
  (ak (aU (aQ (i:=4) jN.nd (aF (aE (Zih T) hr (ae (ab (pv 0)) (ae (aK aJ aI (ab (pv 1)) (ab (pv 6))) (ae (aK aJ aI (ab (pv 2)) (ab (pv 6))) (ae (ab (pv 4)) (ae (ab (pv 5)) az)))))))))
 (aH (pK qx (nH (i:=5) jN.nd rfl (.inl rfl) (bz (t:=a9) (bx (fc rfl) rfl T.eX boot_sum (ai (aK aJ aI (ab (pv 1)) (ab (pv 6))) aA)) eO) (pip tw))))))
 (aH (kE (aE (kC T) hr (ae (aK aJ aI (ab (pv 4)) (ah bD bB (ab (pv 3)) (aK aJ aI (ab (pv 0)) (cp rfl T.gt)))) (ae (ab (pv 5)) az))))))))
noncomputable def nw:yZ :=
 (cD (ag (aB (aw gh (ad (aa 0) (ad (aa 2) au)))) (ag (aa 1) ay)))
noncomputable def nu:yZ :=
 (aa 0)
noncomputable def ZdC:y8 :=
 (aj (aR 6 (aB (aw lM (ad (aa 0) (ad (aa 5) (ad (aa 3) (ad (aa 4) au)))))))
 (aj (ju jh 4 (bo cH (ag (aa 5) ay)))
 (aj (aR 7 (aB (aw j9 (ad (aa 0) (ad (aa 6) (ad (aa 4) au))))))
 (aj (jv 2 (bo eP (ag (bV (cG (cZ (aa 7)) 2 [4] (bd (am (af 0) (am (af 1) bc))) nw)) ay)))
 (aR 3 (bV (cG (cZ (aa 7)) 2 [] (bd (am (af 0) (am (af 1) bc))) nu)))))))
def oh:y9:=bg 2 6
 (aj (jq 2 (dN ay))
 (aj (aR 3 (aB (aw lR (ad (aa 0) au))))
 (aj (aR 4 (aC (.int 1)))
 (aj (cW (uR (aa 1)) (af 5) ZdC)
 (aj (my 2)
 (kL 2 (bj (bo eP (ag (aa 2) ay)))))))))
theorem ZpV (T:Txt K mg):ACal (bq (K,cn)) P w K mg base "least" 5 ["shop","falls"] oh:=bA T.ZoT gD rfl λf cdv A outer sh H E hr=>by
 exact (ak (mi (aQ (i:=2) gD.nd (ff aA)))
 (ak (aU (aQ (i:=3) gD.nd (aF (aE (Zig T) hr (ae (ab (pv 0)) az)))))
 (ak (aU (aQ (i:=4) gD.nd al))
 (ak (dc vR rfl (ZqG (su rfl T.sK (ab (pv 1)))) (aP (aO (i:=5) gD.nd))
  (ak (aU (aQ (i:=6) gD.nd (aF (aE (Zic T) hr (ae (ab (pv 0)) (ae (ab (pv 5)) (ae (ab (pv 3)) (ae (ab (pv 4)) az))))))))
 (ak (pK qx (nH (i:=4) gD.nd rfl (.inr rfl) (bz (t:=a9) (bx (fc rfl) rfl T.eX boot_sum (ai (ab (pv 5)) aA)) eO) (pip tw)))
 (ak (aU (aQ (i:=7) gD.nd (aF (aE (Zij T) hr (ae (ab (pv 0)) (ae (ab (pv 6)) (ae (ab (pv 4)) az)))))))
 (ak (pL (iS (nM wF xi xh nX (pv 2) (bH (bz (t:=a9) (c7 gS rfl T.dY boot_tuple (ai (cF (dB (dm g9 ["cost","level"] [4] rfl (dg (ab (pv 7))) (λb=>(cy rfl (aZ (aP (aO (i:=0) (show ((bN g9 ["cost","level"] [4])).Nodup by trivial))) (aZ (aP (aO (i:=1) (show ((bN g9 ["cost","level"] [4])).Nodup by trivial))) cx)) (aY (aY cu)))) (λb=>(cL (ai (aF (aE (kC T) hr (ae (ab (pv 0)) (ae (ab (pv 2)) az)))) (ai (ab (pv 1)) aA)))) rfl (show BlkOk g9 (aL no) _ [4] by trivial)) (gH (c6 (b8 (by decide)) (c6 (b8 (by decide)) gI))))) aA)) gz) cC))))
 (aH (pH (nE (i:=3) g9 ["cost","level"] [] rfl gD.nd rfl rfl (dg (ab (pv 7))) (λb=>(cy rfl (aZ (aP (aO (i:=0) (show ((bN g9 ["cost","level"] [])).Nodup by trivial))) (aZ (aP (aO (i:=1) (show ((bN g9 ["cost","level"] [])).Nodup by trivial))) cx)) (aY (aY cu)))) (λb=>(ab (pv 0))) rfl (show BlkOk g9 (aL no) _ [] by trivial) rfl) (gH (c6 (b8 (by decide)) (c6 (b8 (by decide)) gI))))))))))
 (ak (ZiH (iS (ZcE wF yM yL Zc5 (pv 2))))
 (aH (pJ (k:=2) (bn (bz (t:=a9) (c7 gS rfl T.dY boot_tuple (ai (ab (pv 2)) aA)) gz)))))))))
noncomputable def ln:yZ :=
 (aB (aw oA (ad (aa 2) (ad (aa 3) (ad (aa 0) (ad (aa 1) au))))))
def lL:y9:=bg 3 2
 (aj (fg (bd (am (af 3) (am (af 4) bc))) (aB (uU n6 (cG (jp (aB (aw fv (ad (aa 0) au))) (aa 2)) 2 [0,1] (bd (am (af 0) (am (af 1) bc))) ln))))
 (bj (cD (ag (ac ao (aa 3) (aC (.int 0))) (ag (ac ba (bV (dN (ag (aC (.int 0)) ay))) (pR (aa 3) (mz (aC (.int 1))) pT)) (ag (aa 4) ay))))))
theorem ZpT (T:Txt K mg):ACal (bq (K,cn)) P w K mg base "mean_and_worths" 5 ["shop","one","levels"] lL:=bA T.ZoQ qU rfl λf cdv A outer sh H E hr=>by
 exact (ak (fQ (dS (aF (Zqv (ZpP T) (hr.mono (by decide)) rfl (dB (dm mH ["stock","level"] [0,1] rfl (mq (lw rfl rfl T.lE (aF (aE (gT T) hr (ae (ab (pv 0)) az))) (ab (pv 2)))) (λb=>(cy rfl (aZ (aP (aO (i:=0) (show ((bN mH ["stock","level"] [0,1])).Nodup by trivial))) (aZ (aP (aO (i:=1) (show ((bN mH ["stock","level"] [0,1])).Nodup by trivial))) cx)) (aY (aY cu)))) (λb=>(aF (aE (Zqc T) hr (ae (ab (pv 2)) (ae (ab (pv 3)) (ae (ab (pv 0)) (ae (ab (pv 1)) az))))))) rfl (show BlkOk mH (aL rd) _ [0,1] by trivial)) (gH (c6 (b8 (by decide)) (c6 (b8 (by decide)) gI)))))) (cy rfl (aZ (aP (aO (i:=3) qU.nd)) (aZ (aP (aO (i:=4) qU.nd)) cx)) (aY (aY cu)))))
 (aH (bn (cL (ai (aK aJ aI (ab (pv 3)) al) (ai (ah bD bB (cF (ff (ai al aA))) (ZiU (ab (pv 3)) (ZiP al) ZiQ)) (ai (ab (pv 4)) aA)))))))
def gL:y9:=bg 2 3
 (aj (cm (gX (dD (di (iC "tuple" (aa 1)))) (bO (ac dX (bo c9 (ag (aa 1) ay)) (aC (.int 3)))))
  (bj (aC (.bool false)))
  ck)
 (aj (fg (bd (am (af 2) (am (af 3) (am (af 4) bc)))) (aa 1))
 (bj (kM (aB (aw gk (ad (aa 2) au))) (kM (aB (aw j5 (ad (aa 0) (ad (aa 3) au)))) (aB (aw j7 (ad (aa 0) (ad (aa 4) au)))))))))
theorem Zqa (T:Txt K mg):ACal (bq (K,cn)) P w K mg base "is_lasting_paper" 5 ["shop","thing"] gL:=bA T.Zo2 nc rfl λf cdv A outer sh H E hr=>by
 exact (ak (cw (jn (jm (eJ (dM (kH (T:="tuple") (Or.inr (Or.inr (Or.inr (Or.inr (.inl rfl))))) rfl (bx kA rfl T.j3 boot_isinstance (bH (ab (pv 1)) (bH (jW (v:=.ty "tuple") rfl T.dY boot_tuple rfl) cC)))))) (kD (cE (jY hr) jE (bz (t:=a9) (bx eI rfl T.dZ boot_len (ai (ab (pv 1)) aA)) fH) al (nomark _)))))
 (aH (bn dh))
 cv)
 (ak (fQ (dS (ab (pv 1)) (cy rfl (aZ (aP (aO (i:=2) nc.nd)) (aZ (aP (aO (i:=3) nc.nd)) (aZ (aP (aO (i:=4) nc.nd)) cx))) (aY (aY (aY cu))))))
 (aH (bn (pO (aF (aE (Zif T) hr (ae (ab (pv 2)) az))) (pO (aF (aE (Zp6 T) hr (ae (ab (pv 0)) (ae (ab (pv 3)) az)))) (uH (aF (aE (Zp8 T) hr (ae (ab (pv 0)) (ae (ab (pv 4)) az)))))))))))
noncomputable def rZ:yZ :=
 (aa 1)
noncomputable def qv:y6 :=
 (bO (aC (.bool true)))
noncomputable def l4:y8 :=
 (aj (fg (bd (am (af 3) (am (af 4) (am (af 5) bc)))) (aB (aw lL (ad (aa 0) (ad (aa 1) (ad (aa 2) au))))))
 (aj (aR 6 (aB (aw j9 (ad (aa 0) (ad (aB (aw lM (ad (aa 0) (ad (aa 1) (ad (aa 4) (ad (aa 5) au)))))) (ad (ac aX (aa 5) (bo cH (ag (aa 1) ay))) au))))))
 (aj (aR 7 (bV (cG (cZ (aa 6)) 2 [] (bd (am (af 0) (am (af 1) bc))) rZ)))
 (aj (cm (bO (ac eG (aa 7) (aa 2)))
  (bj (cD (ag (aa 3) (ag (aa 4) (ag (aa 5) (ag (aa 2) ay))))))
  ck)
 (aR 2 (aa 7))))))
def oD:y9:=bg 2 6
 (aj (aR 2 (bV (pX ka (ag (aB (aw fv (ad (aa 0) au))) ay))))
 (c5 qv l4 100000))
theorem Zqg (T:Txt K mg):ACal (bq (K,cn)) P w K mg base "best_of_all" 6 ["shop","one"] oD:=bA T.Zpe h8 rfl λf cdv A outer sh H E hr=>by
 exact (ak (aU (aQ (i:=2) h8.nd (cF (Zqy (t:=a9) (c7 Zia rfl T.Zc1 boot_list (ai (aF (aE (gT T) hr (ae (ab (pv 0)) az))) aA)) Zjo))))
 (aH (uA 100000 vR (Zqp dh)
  (ak (fQ (dS (aF (aE (ZpT T) hr (ae (ab (pv 0)) (ae (ab (pv 1)) (ae (ab (pv 2)) az))))) (cy rfl (aZ (aP (aO (i:=3) h8.nd)) (aZ (aP (aO (i:=4) h8.nd)) (aZ (aP (aO (i:=5) h8.nd)) cx))) (aY (aY (aY cu))))))
 (ak (aU (aQ (i:=6) h8.nd (aF (aE (Zij T) hr (ae (ab (pv 0)) (ae (aF (aE (Zic T) hr (ae (ab (pv 0)) (ae (ab (pv 1)) (ae (ab (pv 4)) (ae (ab (pv 5)) az)))))) (ae (ah bi bh (ab (pv 5)) (bz (t:=a9) (bx (fc rfl) rfl T.eX boot_sum (ai (ab (pv 1)) aA)) eO)) az)))))))
 (ak (pH (nE (i:=7) mK ["cost","level"] [] rfl h8.nd rfl rfl (dg (ab (pv 6))) (λb=>(cy rfl (aZ (aP (aO (i:=0) (show ((bN mK ["cost","level"] [])).Nodup by trivial))) (aZ (aP (aO (i:=1) (show ((bN mK ["cost","level"] [])).Nodup by trivial))) cx)) (aY (aY cu)))) (λb=>(ab (pv 1))) rfl (show BlkOk mK (aL rn) _ [] by trivial) rfl) (gH (c6 (b8 (by decide)) (c6 (b8 (by decide)) gI))))
 (ak (cw (cE (nS hr) mR (ab (pv 7)) (ab (pv 2)) (nomark _))
  (aH (bn (cL (ai (ab (pv 3)) (ai (ab (pv 4)) (ai (ab (pv 5)) (ai (ab (pv 2)) aA)))))))
  cv)
 (aH (aU (aQ (i:=2) h8.nd (ab (pv 7))))))))))))
noncomputable def rT:yZ :=
 (aB (aw gh (ad (aa 0) (ad (ac aX (aa 1) (bo cH (ag (aa 2) ay))) au))))
noncomputable def rS:yZ :=
 (aB (aw oa (ad (aa 1) (ad (aa 0) au))))
def io:y9:=bg 3 6
 (aj (pV (aB (aw i7 (ad (aa 0) (ad (aa 1) au)))))
 (aj (cm (dD (di (aB (aw gL (ad (aa 0) (ad (aa 2) au))))))
  (bj (aC (.bool false)))
  ck)
 (aj (fg (bd (am (af 3) (am (af 4) (am (af 5) bc)))) (aa 2))
 (aj (fg (bd (am (af 6) (am (af 7) bc))) (aB (aw og (ad (aa 4) au))))
 (aj (aR 8 (aB (aw lU (ad (aa 0) (ad (aa 1) (ad (aa 5) (ad (aa 6) (ad (aa 7) au))))))))
 (aj (cm (bO (ac dX (bV (cG (cZ (aa 8)) 1 [7,1] (af 0) rT)) (bV (cG (cZ (aa 4)) 1 [3] (af 0) rS))))
  (bj (aC (.bool false)))
  ck)
 (iA (aw j4 (ad (aa 0) (ad (aa 1) (ad (aa 8) (ad (aa 6) (ad (aa 7) au)))))))))))))
theorem ZpU (T:Txt K mg):ACal (bq (K,cn)) P w K mg base "lets_lasting" 6 ["shop","one","thing"] io:=bA T.ZoS iM rfl λf cdv A outer sh H E hr=>by
 exact (ak (ZiK (aF (aE (Zik T) hr (ae (ab (pv 0)) (ae (ab (pv 1)) az)))))
 (ak (cw (eJ (dM (aF (aE (Zqa T) hr (ae (ab (pv 0)) (ae (ab (pv 2)) az))))))
  (aH (bn dh))
  cv)
 (ak (fQ (dS (ab (pv 2)) (cy rfl (aZ (aP (aO (i:=3) iM.nd)) (aZ (aP (aO (i:=4) iM.nd)) (aZ (aP (aO (i:=5) iM.nd)) cx))) (aY (aY (aY cu))))))
 (ak (fQ (dS (aF (aE (ZpR T) hr (ae (ab (pv 4)) az))) (cy rfl (aZ (aP (aO (i:=6) iM.nd)) (aZ (aP (aO (i:=7) iM.nd)) cx)) (aY (aY cu)))))
 (ak (aU (aQ (i:=8) iM.nd (aF (aE (Zih T) hr (ae (ab (pv 0)) (ae (ab (pv 1)) (ae (ab (pv 5)) (ae (ab (pv 6)) (ae (ab (pv 7)) az)))))))))
 (ak (cw (cE (jY hr) jE (cF (dB (dm jw ["cost"] [7,1] rfl (dg (ab (pv 8))) (λb=>(aP (aO (i:=0) (show ((bN jw ["cost"] [7,1])).Nodup by trivial)))) (λb=>(aF (aE (kC T) hr (ae (ab (pv 0)) (ae (ah bi bh (ab (pv 1)) (bz (t:=a9) (bx (fc rfl) rfl T.eX boot_sum (ai (ab (pv 2)) aA)) eO)) az))))) rfl (show BlkOk jw (aL nn) _ [7,1] by trivial)) (b8 (by decide)))) (cF (dB (dm jw ["worth"] [3] rfl (dg (ab (pv 4))) (λb=>(aP (aO (i:=0) (show ((bN jw ["worth"] [3])).Nodup by trivial)))) (λb=>(aF (aE (ZpQ T) hr (ae (ab (pv 1)) (ae (ab (pv 0)) az))))) rfl (show BlkOk jw (aL nn) _ [3] by trivial)) (b8 (by decide)))) (nomark _))
  (aH (bn dh))
  cv)
 (aH (kE (aE (ZpS T) hr (ae (ab (pv 0)) (ae (ab (pv 1)) (ae (ab (pv 8)) (ae (ab (pv 6)) (ae (ab (pv 7)) az))))))))))))))
noncomputable def nA:yZ :=
 (aB (aw gh (ad (aa 0) (ad (aa 1) au))))
def lQ:y9:=bg 2 4
 (aj (pV (aB (aw i7 (ad (aa 0) (ad (aa 1) au)))))
 (aj (fg (bd (am (af 2) (am (af 3) (am (af 4) (am (af 5) bc))))) (aB (aw oD (ad (aa 0) (ad (aa 1) au)))))
 (bj (cD (ag (aB (aw gh (ad (aa 2) (ad (aa 4) au)))) (ag (bo eP (ag (bV (cG (cZ (aa 3)) 1 [4] (af 0) nA)) ay)) (ag (bo eP (ag (aa 5) ay)) ay)))))))
theorem Zp5 (T:Txt K mg):ACal (bq (K,cn)) P w K mg base "lasting" 7 ["shop","one"] lQ:=bA T.ZoV k9 rfl λf cdv A outer sh H E hr=>by
 exact (ak (ZiK (aF (aE (Zik T) hr (ae (ab (pv 0)) (ae (ab (pv 1)) az)))))
 (ak (fQ (dS (aF (aE (Zqg T) hr (ae (ab (pv 0)) (ae (ab (pv 1)) az)))) (cy rfl (aZ (aP (aO (i:=2) k9.nd)) (aZ (aP (aO (i:=3) k9.nd)) (aZ (aP (aO (i:=4) k9.nd)) (aZ (aP (aO (i:=5) k9.nd)) cx)))) (aY (aY (aY (aY cu)))))))
 (aH (bn (cL (ai (aF (aE (kC T) hr (ae (ab (pv 2)) (ae (ab (pv 4)) az)))) (ai (bz (t:=a9) (c7 gS rfl T.dY boot_tuple (ai (cF (dB (dm qh ["worth"] [4] rfl (dg (ab (pv 3))) (λb=>(aP (aO (i:=0) (show ((bN qh ["worth"] [4])).Nodup by trivial)))) (λb=>(aF (aE (kC T) hr (ae (ab (pv 0)) (ae (ab (pv 1)) az))))) rfl (show BlkOk qh (aL rf) _ [4] by trivial)) (b8 (by decide)))) aA)) gz) (ai (bz (t:=a9) (c7 gS rfl T.dY boot_tuple (ai (ab (pv 5)) aA)) gz) aA))))))))
noncomputable def ny (slf:y9):yZ :=
 (ac aX (ac ba (aa 0) (aC (.int 2))) (aa 1))
noncomputable def oI (slf:y9):y8 :=
 (aR 7 (ac aX (aa 7) (aa 6)))
noncomputable def kd (slf:y9):y8 :=
 (cm (bO (ac (cK λi j=>decide (i > j)) (aa 11) (aC (.int 0))))
  (aj (aR 12 (aB (aw slf (ad (aa 0) (ad (aa 1) (ad (ac bW (aa 2) (aC (.int 1))) (ad (aB (aw oo (ad (aa 0) (ad (aa 5) (ad (aa 10) au))))) (ad (ac ba (aa 4) (bV (dN (ag (aa 10) ay)))) au))))))))
 (aR 9 (ac ba (aa 9) (ac aX (aa 11) (ac ba (ac aX (aa 7) (aB (aw lO (ad (aa 0) (ad (aa 5) (ad (aa 10) au)))))) (aa 12))))))
  ck)
noncomputable def lG (slf:y9):y9:=bg 5 8
 (aj (cm (bO (ac eG (aa 2) (aC (.int 0))))
  (bj (aC (.int 0)))
  ck)
 (aj (aR 5 (ac ba (aa 3) (ac gg (ac gg (bo cH (ag (bV (cG (js (aa 4)) 2 [] (bd (am (af 0) (am (af 1) bc))) (ny slf))) ay)) (aC (.int 13))) (ac ba (ac bW (ac ao (aa 0) (aC (.int 0))) (aa 3)) (aC (.int 1))))))
 (aj (aR 6 (bo cH (ag (aa 1) ay)))
 (aj (aR 7 (aC (.int 1)))
 (aj (cW (gx (ag (ac bW (aa 2) (aC (.int 1))) ay)) (af 8) (oI slf))
 (aj (aR 9 (ac aX (ac aX (aa 6) (aa 7)) (aB (aw lN (ad (aa 0) (ad (aa 3) (ad (aa 5) au)))))))
 (aj (cW (js (aa 1)) (bd (am (af 10) (am (af 11) bc))) (kd slf))
 (fR 9))))))))
noncomputable def gi:Nat->List Sl->Tr Re
 | 0=>bg 5 8 mB
 | n+1=>lG (gi n)
theorem Zid (T:Txt K mg):∀ n:Nat,ACal (bq (K,cn)) P w K mg base "_law_looks_back" (2+n) ["_law_shop","_law_one","_law_days","_law_stock","_law_past"] (gi n)
 | 0=>bA T.ZhU ft rfl λf cdv A outer sh H E hr=>Zqt
 | n+1=>bA (kk:=2+n) T.ZhU ft rfl λf cdv A outer sh H E hr=>by
  exact (ak (cw (cE (nS hr) mR (ab (pv 2)) al (nomark _))
 (aH (bn al))
 cv)
 (ak (aU (aQ (i:=5) ft.nd (ah bD bB (ab (pv 3)) (ah nR mQ (ah nR mQ (bz (t:=a9) (bx (fc rfl) rfl T.eX boot_sum (ai (cF (dB (dm mL ["_law_k","_law_fall"] [] rfl (mr (lx rfl rfl T.lH (ab (pv 4)))) (λb=>(cy rfl (aZ (aP (aO (i:=0) (show ((bN mL ["_law_k","_law_fall"] [])).Nodup by trivial))) (aZ (aP (aO (i:=1) (show ((bN mL ["_law_k","_law_fall"] [])).Nodup by trivial))) cx)) (aY (aY cu)))) (λb=>(ah bi bh (ah bD bB (ab (pv 0)) al) (ab (pv 1)))) rfl (show BlkOk mL (aL rp) _ [] by trivial)) (gH (c6 (b8 (by decide)) (c6 (b8 (by decide)) gI))))) aA)) eO) al) (ah bD bB (ah cj cb (aK aJ aI (ab (pv 0)) al) (ab (pv 3))) al)))))
 (ak (aU (aQ (i:=6) ft.nd (bz (t:=a9) (bx (fc rfl) rfl T.eX boot_sum (ai (ab (pv 1)) aA)) eO)))
 (ak (aU (aQ (i:=7) ft.nd al))
 (ak (dc vR rfl (iz (ib rfl T.fu (ai (ah cj cb (ab (pv 2)) al) aA))) (aP (aO (i:=8) ft.nd))
  (aH (aU (aQ (i:=7) ft.nd (ah bi bh (ab (pv 7)) (ab (pv 6)))))))
 (ak (aU (aQ (i:=9) ft.nd (ah bi bh (ah bi bh (ab (pv 6)) (ab (pv 7))) (aF (kF (ZpZ T) (hr.mono (by omega)) rfl (ae (ab (pv 0)) (ae (ab (pv 3)) (ae (ab (pv 5)) az))))))))
 (ak (dc vR rfl (mr (lx rfl rfl T.lH (ab (pv 1)))) (cy rfl (aZ (aP (aO (i:=10) ft.nd)) (aZ (aP (aO (i:=11) ft.nd)) cx)) (aY (aY cu)))
  (aH (cw (cE fL cS (ab (pv 11)) al (nomark _))
  (ak (aU (aQ (i:=12) ft.nd (aF (kF (Zid T n) (hr.mono (vo _)) rfl (ae (ab (pv 0)) (ae (ab (pv 1)) (ae (ah cj cb (ab (pv 2)) al) (ae (aF (kF (Zp0 T) (hr.mono (by omega)) rfl (ae (ab (pv 0)) (ae (ab (pv 5)) (ae (ab (pv 10)) az))))) (ae (ah bD bB (ab (pv 4)) (cF (ff (ai (ab (pv 10)) aA)))) az)))))))))
 (aH (aU (aQ (i:=9) ft.nd (ah bD bB (ab (pv 9)) (ah bi bh (ab (pv 11)) (ah bD bB (ah bi bh (ab (pv 7)) (aF (kF (Zp1 T) (hr.mono (by omega)) rfl (ae (ab (pv 0)) (ae (ab (pv 5)) (ae (ab (pv 10)) az)))))) (ab (pv 12)))))))))
  cv)))
 (aH (mj (pv 9))))))))))
noncomputable def oJ:y8 :=
 (aR 5 (ac aX (aa 5) (bo cH (ag (aa 1) ay))))
def ou:y9:=bg 5 2
 (aj (aR 5 (aC (.int 1)))
 (aj (cW (gx (ag (aa 2) ay)) (af 6) oJ)
 (iA (aw dG (ad (cD (ag (aB (aw (gi 6) (ad (aa 0) (ad (aa 1) (ad (aa 2) (ad (aa 3) (ad (bV (dN ay)) au))))))) (ag (aa 5) ay))) (ad (aa 4) au))))))
theorem Zp4 (T:Txt K mg):ACal (bq (K,cn)) P w K mg base "_law_back_right" 9 ["_law_shop","_law_one","_law_days","_law_stock","_law_bound_here"] ou:=bA T.Zpt nj rfl λf cdv A outer sh H E hr=>by
 exact (ak (aU (aQ (i:=5) nj.nd al))
 (ak (dc vR rfl (iz (ib rfl T.fu (ai (ab (pv 2)) aA))) (aP (aO (i:=6) nj.nd))
  (aH (aU (aQ (i:=5) nj.nd (ah bi bh (ab (pv 5)) (bz (t:=a9) (bx (fc rfl) rfl T.eX boot_sum (ai (ab (pv 1)) aA)) eO))))))
 (aH (kE (aE (jl T) hr (ae (cL (ai (aF (kF (Zid T 6) (hr.mono (by decide)) rfl (ae (ab (pv 0)) (ae (ab (pv 1)) (ae (ab (pv 2)) (ae (ab (pv 3)) (ae (cF (ff aA)) az))))))) (ai (ab (pv 5)) aA))) (ae (ab (pv 4)) az)))))))
noncomputable def rV:yZ :=
 (aB (aw oj (ad (ac ba (ac aX (ac ao (aa 0) (aC (.int 0))) (ac ao (aa 1) (aC (.int 1)))) (ac aX (ac ao (aa 1) (aC (.int 0))) (ac ao (aa 0) (aC (.int 1))))) (ad (ac aX (ac ao (aa 0) (aC (.int 1))) (ac ao (aa 1) (aC (.int 1)))) au))))
noncomputable def Zcs:yZ :=
 (ac ba (ac bW (aa 0) (ac ao (aa 2) (aC (.int 1)))) (aB (aw c8 (cP 1 (ad (ac bW (aa 3) (aa 0)) au)))))
noncomputable def Zcr:yZ :=
 (bo eP (ag (bV (cG (gx (ag (aa 2) ay)) 1 [1,3,2] (af 0) Zcs)) ay))
noncomputable def ke:y8 :=
 (aj (aR 18 (ac bW (aa 17) (ac ao (aa 2) (aC (.int 1)))))
 (aj (aR 19 (aB (aw lP (ad (aa 4) (ad (aa 9) (ad (ac ao (aa 14) (aa 17)) (ad (aa 16) au)))))))
 (aj (aR 20 (aB (aw lV (ad (aa 2) (ad (aa 10) (ad (ac h9 (cD (ag (aa 6) ay)) (aa 9)) (ad (aa 18) au)))))))
 (aj (cm (gX (dD (di (aB (aw dG (ad (ac ao (ac ao (aa 13) (aa 17)) (aC (.int 0))) (ad (aa 19) au)))))) (dD (di (aB (aw dG (ad (aa 20) (ad (ac ao (ac ao (aa 13) (aa 17)) (aC (.int 0))) au)))))))
  (bj (aC (.bool false)))
  ck)
 (aj (cm (dD (di (aB (aw dG (ad (aB (aw lP (ad (aa 4) (ad (aa 9) (ad (ac ao (aa 14) (aa 17)) (ad (aa 15) au)))))) (ad (aa 20) au))))))
  (bj (aC (.bool false)))
  ck)
 (aj (cm (dD (di (aB (aw dG (ad (aB (aw lV (ad (aa 2) (ad (aa 10) (ad (aa 12) (ad (aa 18) au)))))) (ad (ac ao (ac ao (aa 13) (aa 17)) (aC (.int 0))) au))))))
  (bj (aC (.bool false)))
  ck)
 (cm (p6 (bO (ac (cK λi j=>decide (i < j)) (aa 9) (aC (.int 4)))) (p6 (bO (ac (cK λi j=>decide (i < j)) (aa 11) (aC (.int 6)))) (dD (di (aB (aw ou (ad (aa 2) (ad (aa 3) (ad (aa 9) (ad (aa 18) (ad (aa 19) au)))))))))))
  (bj (aC (.bool false)))
  ck)))))))
noncomputable def tj:y8 :=
 (aj (cm (bO (ac oP (aB (aw io (ad (aa 2) (ad (aa 3) (ad (cD (ag (aa 4) (ag (aa 14) (ag (aa 6) ay)))) au))))) (aC (.bool true))))
  (bj (aC (.bool false)))
  ck)
 (aj (fg (bd (am (af 15) (am (af 16) bc))) (aB (aw ot (ad (aa 14) au))))
 (cW (gx (ag (aa 11) ay)) (af 17) ke)))
noncomputable def ox:y8 :=
 (aj (fg (bd (am (af 2) (am (af 3) bc))) (aB (aw oq (cP 1 (ad (aC (.int 4)) au)))))
 (aj (aR 2 (ac mv (pR (aa 2) pT (mz (aC (.int 7)))) (cD (ag (aC (.int 0)) (ag (aC (.int 0)) ay)))))
 (aj (fg (bd (am (af 4) (am (af 5) (am (af 6) bc)))) (aB (aw lQ (ad (aa 2) (ad (aa 3) au)))))
 (aj (aR 7 (cD (ag (ac bW (aB (aw c8 (cP 1 (ad (aC (.int 9)) au)))) (aC (.int 4))) (ag (ac ba (aC (.int 1)) (aB (aw c8 (cP 1 (ad (aC (.int 3)) au))))) ay))))
 (aj (aR 8 (bV (cG (cZ (aa 5)) 1 [7] (af 0) rV)))
 (aj (aR 9 (ac ba (aC (.int 1)) (aB (aw c8 (cP 1 (ad (aC (.int 6)) au))))))
 (aj (aR 10 (ac h9 (cD (ag (aa 3) ay)) (aa 9)))
 (aj (aR 11 (bo c9 (ag (aa 5) ay)))
 (aj (aR 12 (bo eP (ag (bV (cG (cZ (aa 10)) 1 [1,11,2] (af 0) Zcr)) ay)))
 (aj (aR 13 (ac ao (aB (aw oh (ad (aa 2) (ad (aa 10) au)))) (aC (.int 0))))
 (aj (cW (cZ (cD (ag (aa 5) (ag (bo eP (ag (aa 8) ay)) ay)))) (af 14) tj)
 (bj (aC (.bool true))))))))))))))
noncomputable abbrev sV:zl:=.un::.pen::List.replicate 19 .un
theorem Zmb (T:Txt K mg) {f:Addr} {fd:FuncData} (F:Fun K "law" "law" lf f fd) (hl:(ox sV).ok 0 λ_ o=>o=.ret (.d (.bool true))):FnOk P w K mg base hU 10 f fd ["_law_script"] (ZaJ K):=by
 refine F.ok cM (λvs H Q E h=>?_) (λcdv A outer s H vs Q E hr h=>?_)
 ·obtain ⟨a,ns,rfl,_⟩:=h
  rfl
 ·obtain ⟨a,ns,rfl,hS,hlen,k⟩:=h
  have hu:=oT hr
  refine ⟨_,(dR (aQ (i:=1) cM.nd (nL (Zl9 T) (hr.mono (by decide)) rfl (bH (pv 0) cC)))
 (Zln (t:=λcn=>bG (bq (K,cn)) ox) λcn=>(ak (fQ (dS (aF (aE (Zp2 T) hr (cY (pv 1) (ae al az)))) (cy rfl (aZ (aP (aO (i:=2) cM.nd)) (aZ (aP (aO (i:=3) cM.nd)) cx)) (aY (aY cu)))))
 (ak (aU (aQ (i:=2) cM.nd (ah Zl8 Zjm (ZiU (ab (pv 2)) ZiQ (ZiP al)) (cL (ai al (ai al aA))))))
 (ak (fQ (dS (aF (aE (Zp5 T) hr (ae (ab (pv 2)) (ae (ab (pv 3)) az)))) (cy rfl (aZ (aP (aO (i:=4) cM.nd)) (aZ (aP (aO (i:=5) cM.nd)) (aZ (aP (aO (i:=6) cM.nd)) cx))) (aY (aY (aY cu))))))
 (ak (aU (aQ (i:=7) cM.nd (cL (ai (ah cj cb (aF (aE (dA T) hr (cY (pv 1) (ae al az)))) al) (ai (ah bD bB al (aF (aE (dA T) hr (cY (pv 1) (ae al az))))) aA)))))
 (ak (pH (nE (i:=8) hI ["_law_worth"] [7] rfl cM.nd rfl rfl (dg (ab (pv 5))) (λb=>(aP (aO (i:=0) (show ((bN hI ["_law_worth"] [7])).Nodup by trivial)))) (λb=>(aF (aE (ZpX T) hr (ae (ah bD bB (ah bi bh (aK aJ aI (ab (pv 0)) al) (aK aJ aI (ab (pv 1)) al)) (ah bi bh (aK aJ aI (ab (pv 1)) al) (aK aJ aI (ab (pv 0)) al))) (ae (ah bi bh (aK aJ aI (ab (pv 0)) al) (aK aJ aI (ab (pv 1)) al)) az))))) rfl (show BlkOk hI (aL lf) _ [7] by trivial) rfl) (b8 (by decide)))
 (ak (aU (aQ (i:=9) cM.nd (ah bD bB al (aF (aE (dA T) hr (cY (pv 1) (ae al az)))))))
 (ak (aU (aQ (i:=10) cM.nd (ah ZcO Zai (cL (ai (ab (pv 3)) aA)) (ab (pv 9)))))
 (ak (aU (aQ (i:=11) cM.nd (bz (t:=a9) (bx eI rfl T.dZ boot_len (ai (ab (pv 5)) aA)) fH)))
 (ak (aU (aQ (i:=12) cM.nd (bz (t:=a9) (c7 gS rfl T.dY boot_tuple (ai (cF (dB (dm hI ["_law_day_here"] [1,11,2] rfl (dg (ab (pv 10))) (λb=>(aP (aO (i:=0) (show ((bN hI ["_law_day_here"] [1,11,2])).Nodup by trivial)))) (λb=>(bz (t:=a9) (c7 gS rfl T.dY boot_tuple (ai (cF (dB (dm (bN hI ["_law_day_here"] [1,11,2]) ["_law_k"] [1,3,2] rfl (iz (ib rfl T.fu (ai (ab (pv 2)) aA))) (λb=>(aP (aO (i:=0) (show ((bN (bN hI ["_law_day_here"] [1,11,2]) ["_law_k"] [1,3,2])).Nodup by trivial)))) (λb=>(ah bD bB (ah cj cb (ab (pv 0)) (aK aJ aI (ab (pv 2)) al)) (aF (aE (dA T) hr (cY (pv 1) (ae (ah cj cb (ab (pv 3)) (ab (pv 0))) az)))))) rfl (BlkOk.nest ⟨rfl,by trivial,by trivial,by trivial,by trivial⟩)) (b8 (by decide)))) aA)) gz)) rfl (show BlkOk hI (aL lf) _ [1,11,2] by trivial)) (b8 (by decide)))) aA)) gz)))
 (ak (aU (aQ (i:=13) cM.nd (aK aJ aI (aF (aE (ZpV T) hr (ae (ab (pv 2)) (ae (ab (pv 10)) az)))) al)))
 (ak (dc vR rfl (dg (cL (ai (ab (pv 5)) (ai (bz (t:=a9) (c7 gS rfl T.dY boot_tuple (ai (ab (pv 8)) aA)) gz) aA)))) (aP (aO (i:=14) cM.nd))
  (ak (cw (cE Zl2 Zjk (aF (aE (ZpU T) hr (ae (ab (pv 2)) (ae (ab (pv 3)) (ae (cL (ai (ab (pv 4)) (ai (ab (pv 14)) (ai (ab (pv 6)) aA)))) az))))) dh (nomark _))
  (aH (bn dh))
  cv)
 (ak (fQ (dS (aF (aE (Zp3 T) hr (ae (ab (pv 14)) az))) (cy rfl (aZ (aP (aO (i:=15) cM.nd)) (aZ (aP (aO (i:=16) cM.nd)) cx)) (aY (aY cu)))))
 (aH (dc vR rfl (iz (ib rfl T.fu (ai (ab (pv 11)) aA))) (aP (aO (i:=17) cM.nd))
  (ak (aU (aQ (i:=18) cM.nd (ah cj cb (ab (pv 17)) (aK aJ aI (ab (pv 2)) al))))
 (ak (aU (aQ (i:=19) cM.nd (aF (aE (Zie T) hr (ae (ab (pv 4)) (ae (ab (pv 9)) (ae (aK aJ aI (ab (pv 14)) (ab (pv 17))) (ae (ab (pv 16)) az))))))))
 (ak (aU (aQ (i:=20) cM.nd (aF (aE (Zii T) hr (ae (ab (pv 2)) (ae (ab (pv 10)) (ae (ah ZcO Zai (cL (ai (ab (pv 6)) aA)) (ab (pv 9))) (ae (ab (pv 18)) az))))))))
 (ak (cw (jn (jm (eJ (dM (aF (aE (jl T) hr (ae (aK aJ aI (aK aJ aI (ab (pv 13)) (ab (pv 17))) al) (ae (ab (pv 19)) az)))))) (kD (eJ (dM (aF (aE (jl T) hr (ae (ab (pv 20)) (ae (aK aJ aI (aK aJ aI (ab (pv 13)) (ab (pv 17))) al) az)))))))))
  (aH (bn dh))
  cv)
 (ak (cw (eJ (dM (aF (aE (jl T) hr (ae (aF (aE (Zie T) hr (ae (ab (pv 4)) (ae (ab (pv 9)) (ae (aK aJ aI (ab (pv 14)) (ab (pv 17))) (ae (ab (pv 15)) az)))))) (ae (ab (pv 20)) az))))))
  (aH (bn dh))
  cv)
 (ak (cw (eJ (dM (aF (aE (jl T) hr (ae (aF (aE (Zii T) hr (ae (ab (pv 2)) (ae (ab (pv 10)) (ae (ab (pv 12)) (ae (ab (pv 18)) az)))))) (ae (aK aJ aI (aK aJ aI (ab (pv 13)) (ab (pv 17))) al) az))))))
  (aH (bn dh))
  cv)
 (aH (cw (jn (ZiA (cE ie cS (ab (pv 9)) al (nomark _)) (ZiA (cE ie cS (ab (pv 11)) al (nomark _)) (Zqo (eJ (dM (aF (aE (Zp4 T) hr (ae (ab (pv 2)) (ae (ab (pv 3)) (ae (ab (pv 9)) (ae (ab (pv 18)) (ae (ab (pv 19)) az)))))))))))))
  (aH (bn dh))
  cv)))))))))))))
 (aH (bn dh))))))))))))))),?_⟩
  refine ⟨_,rfl,a,ns,rfl,hS,hlen,λp H' hp hP hs=>?_⟩
  exact Znd (n:=19) hP rfl rfl (λH'=>k H') hl
end
end My
set_option Elab.async false
set_option linter.all false
set_option maxRecDepth 100000
local macro_rules | `(tactic| simp_arith [$ls,*] $[$loc]?) => do let b : Lean.TSyntaxArray ``Lean.Parser.Tactic.simpLemma ← (("L2.Zep L2.Zeo L2.Zhp L2.ZgU L2.ZgT L2.Zhh L2.Zhe L2.md L2.ZeD L2.ZgH L2.Zgy L2.ZfE L2.Zgz L2.Zgx L2.ZfD L2.Zf7 L2.ma L2.dI L2.mh L2.pF L2.pE L2.pD L2.pC L2.uy L2.ux L2.uw L2.uv L2.ZfC L2.ZfB L2.ZeC L2.Zev L2.ZeB L2.ZeA L2.Zez L2.Zey L2.Zew L2.Zex L2.Zg9 L2.Zfu L2.Zfz L2.Zg7 L2.Zg8 L2.Zfs L2.Zft L2.Zfy L2.Zg6 L2.Zfx L2.Zg4 L2.Zg5 L2.Zfw L2.Zgm L2.Zgk L2.Zgl L2.ZgI L2.ZgN L2.ZgM L2.ZgL L2.ZgJ L2.ZgK L2.ZfA L2.ZgG L2.ZgF L2.ZgE L2.Zeu L2.Zet L2.ZfL L2.ZfK L2.ZfN L2.ZfM L2.b7 L2.ZgR L2.ZgO L2.ZfR L2.ZfP L2.Zhi L2.ZfH L2.Zga L2.Zgb L2.Zes L2.Zeq L2.ZfJ L2.ZfI L2.tQ L2.oZ L2.ZfG L2.Zha L2.Zf9 L2.Zf8 L2.ZeH L2.ZeG L2.ZeF L2.tR L2.ZeE L2.Zfp L2.Zfo L2.Zfn L2.Zer L2.tP L2.Zhl L2.Zhm L2.Zho L2.Zhn L2.Zfk L2.Zfj L2.Zhk L2.Zhj L2.ZgS L2.Zfi L2.Zfh L2.ZgD L2.Zgw L2.Zgv L2.ZeU L2.ZeR L2.ZeQ L2.ZeT L2.ZeS L2.ZeI L2.Zgf L2.Zgd L2.Zge L2.Zff L2.Zfe L2.Zfd L2.Zfc L2.Zfb L2.Zfa L2.Ze9 L2.Ze8 L2.Ze7 L2.ZeP L2.ZeO L2.ZeN L2.ZeM L2.Zdi L2.Zdh L2.ZgY L2.ZgX L2.ZgW L2.Zgn L2.Zfr L2.Zfq L2.Zg3 L2.Zg2 L2.Zg1 L2.Ze6 L2.Ze5 L2.Zgo L2.Zd9 L2.Zea L2.Zd8 L2.Zd7 L2.Zeb L2.Zg0 L2.ZgZ L2.Zfv L2.Zd2 L2.ZdZ L2.Zd3 L2.Zd4 L2.Zd0 L2.Zfm L2.Zfl L2.Zf6 L2.Zf5 L2.Zf4 L2.Ze0 L2.ZeZ L2.Zen L2.Zem L2.Zel L2.Zek L2.Zej L2.ZgA L2.ZgC L2.ZgB L2.Zgt L2.Zgs L2.tL L2.fy L2.eE L2.Zgq L2.Zgr L2.Zgp L2.ZfZ L2.ZfY L2.ZfX L2.Zc6 L2.Zc7 L2.Zc9 L2.Zc8 L2.ZfS L2.ZfT L2.ZfQ L2.ZfO L2.ZfU L2.ZfW L2.ZfV L2.Zgg L2.Zgi L2.Zgj L2.Zgh L2.ZgQ L2.ZgP L2.Zgu L2.ZeL L2.ZeK L2.ZeJ L2.Zhg L2.Zhf L2.Ze4 L2.ZeY L2.ZeX L2.Ze3 L2.Ze2 L2.ZeW L2.ZeV L2.o4 L2.Zf3 L2.Zf2 L2.Zf1 L2.Zf0 Tw.Za1 Tw.Za0 Tw.ZaZ Tw.ZaY Tw.ZaX Tw.ZaW Tw.ZaV Tw.ZaU Tw.ZaT L2.ZfF L2.Zgc L2.rb2 L2.Tr.of_some L2.Tr.bind_assoc L2.Tr.draw_bind List.cons_append List.nil_append List.replicate_succ List.replicate_zero List.length_cons List.length_nil L2.Re.val_d L2.Re.val_own L2.blk L2.pB List.map_cons List.map_nil List.getElem?_cons_zero List.getElem?_cons_succ Option.getD_some Nat.reduceAdd Nat.reduceLeDiff List.isEmpty_cons".splitOn " ").toArray.map fun s => Lean.mkIdent s.toName).mapM fun i => `(Lean.Parser.Tactic.simpLemma| $i:ident); `(tactic| simp only [$b,*, $ls,*] $[$loc]?)
local macro_rules | `(tactic| simp_arith only [$ls,*] $[$loc]?) => do let b : Lean.TSyntaxArray ``Lean.Parser.Tactic.simpLemma ← (("L2.Zep L2.Zeo L2.Zhp L2.ZgU L2.ZgT L2.Zhh L2.Zhe L2.md L2.ZeD L2.ZgH L2.Zgy L2.ZfE L2.Zgz L2.Zgx L2.ZfD L2.Zf7 L2.ma L2.dI L2.mh L2.pF L2.pE L2.pD L2.pC L2.uy L2.ux L2.uw L2.uv L2.ZfC L2.ZfB L2.ZeC L2.Zev L2.ZeB L2.ZeA L2.Zez L2.Zey L2.Zew L2.Zex L2.Zg9 L2.Zfu L2.Zfz L2.Zg7 L2.Zg8 L2.Zfs L2.Zft L2.Zfy L2.Zg6 L2.Zfx L2.Zg4 L2.Zg5 L2.Zfw L2.Zgm L2.Zgk L2.Zgl L2.ZgI L2.ZgN L2.ZgM L2.ZgL L2.ZgJ L2.ZgK L2.ZfA L2.ZgG L2.ZgF L2.ZgE L2.Zeu L2.Zet L2.ZfL L2.ZfK L2.ZfN L2.ZfM L2.b7 L2.ZgR L2.ZgO L2.ZfR L2.ZfP L2.Zhi L2.ZfH L2.Zga L2.Zgb L2.Zes L2.Zeq L2.ZfJ L2.ZfI L2.tQ L2.oZ L2.ZfG L2.Zha L2.Zf9 L2.Zf8 L2.ZeH L2.ZeG L2.ZeF L2.tR L2.ZeE L2.Zfp L2.Zfo L2.Zfn L2.Zer L2.tP L2.Zhl L2.Zhm L2.Zho L2.Zhn L2.Zfk L2.Zfj L2.Zhk L2.Zhj L2.ZgS L2.Zfi L2.Zfh L2.ZgD L2.Zgw L2.Zgv L2.ZeU L2.ZeR L2.ZeQ L2.ZeT L2.ZeS L2.ZeI L2.Zgf L2.Zgd L2.Zge L2.Zff L2.Zfe L2.Zfd L2.Zfc L2.Zfb L2.Zfa L2.Ze9 L2.Ze8 L2.Ze7 L2.ZeP L2.ZeO L2.ZeN L2.ZeM L2.Zdi L2.Zdh L2.ZgY L2.ZgX L2.ZgW L2.Zgn L2.Zfr L2.Zfq L2.Zg3 L2.Zg2 L2.Zg1 L2.Ze6 L2.Ze5 L2.Zgo L2.Zd9 L2.Zea L2.Zd8 L2.Zd7 L2.Zeb L2.Zg0 L2.ZgZ L2.Zfv L2.Zd2 L2.ZdZ L2.Zd3 L2.Zd4 L2.Zd0 L2.Zfm L2.Zfl L2.Zf6 L2.Zf5 L2.Zf4 L2.Ze0 L2.ZeZ L2.Zen L2.Zem L2.Zel L2.Zek L2.Zej L2.ZgA L2.ZgC L2.ZgB L2.Zgt L2.Zgs L2.tL L2.fy L2.eE L2.Zgq L2.Zgr L2.Zgp L2.ZfZ L2.ZfY L2.ZfX L2.Zc6 L2.Zc7 L2.Zc9 L2.Zc8 L2.ZfS L2.ZfT L2.ZfQ L2.ZfO L2.ZfU L2.ZfW L2.ZfV L2.Zgg L2.Zgi L2.Zgj L2.Zgh L2.ZgQ L2.ZgP L2.Zgu L2.ZeL L2.ZeK L2.ZeJ L2.Zhg L2.Zhf L2.Ze4 L2.ZeY L2.ZeX L2.Ze3 L2.Ze2 L2.ZeW L2.ZeV L2.o4 L2.Zf3 L2.Zf2 L2.Zf1 L2.Zf0 Tw.Za1 Tw.Za0 Tw.ZaZ Tw.ZaY Tw.ZaX Tw.ZaW Tw.ZaV Tw.ZaU Tw.ZaT L2.ZfF L2.Zgc L2.rb2 L2.Tr.of_some L2.Tr.bind_assoc L2.Tr.draw_bind List.cons_append List.nil_append List.replicate_succ List.replicate_zero List.length_cons List.length_nil L2.Re.val_d L2.Re.val_own L2.blk L2.pB List.map_cons List.map_nil List.getElem?_cons_zero List.getElem?_cons_succ Option.getD_some Nat.reduceAdd Nat.reduceLeDiff List.isEmpty_cons".splitOn " ").toArray.map fun s => Lean.mkIdent s.toName).mapM fun i => `(Lean.Parser.Tactic.simpLemma| $i:ident); `(tactic| simp -implicitDefEqProofs only [$b,*, $ls,*] $[$loc]?)
namespace My
open L2 Tw
theorem gQ {s:Shp} (h:s.Ok):fv [.d s.d]=.ret (.d (.tuple (aN (-s.depth) (s.top+1)))):=by
 have:=h.t0
 have:=h.d0
 have:=h.td
 have hr:li (-s.depth) (s.top+1)=true:=by
  unfold li
  rw [eD (by omega) (by omega),eD (by omega) (by omega)]
  simp
  omega
 simp_arith [fv,tP hr]
theorem tX (s:Shp) (y f:Int):i6 [.d s.d,.d (.int y),.d (.int f)]=.ret (.d (.int (s.nx y f))):=by
 simp_arith [i6,Shp.nx]
theorem Zoo {s:Shp} (h:s.Ok) {x:Int} (hx:nb 20 x):lS [.d s.d,.d (.int x)]=.ret (.d (.int (s.fin x))):=by
 have f1:=aq (gf h.back) (by decide)
 have f2:=aq h.late (by decide)
 have f3:=aq hx (by decide)
 have f4:=aq (gf hx) (by decide)
 by_cases hp:x > 0
 ·simp_arith [lS,decide_eq_true hp,f1,f3,Shp.fin,if_pos hp]
 ·simp_arith [lS,decide_eq_false hp,f2,f4,Shp.fin,if_neg hp]
theorem tW {s:Shp} (h:s.Ok) {x y:Int} (hx:nb 20 x) (hy:nb 20 y):i5 [.d s.d,.d (.int x),.d (.int y)]=.ret (.d (.int (s.ord x y))):=by
 have f1:=aq h.piece (by decide)
 have f2:=aq (eW hy hx) (by decide)
 by_cases hp:y<=x
 ·simp_arith [i5,decide_eq_true hp,Shp.ord,if_pos hp]
 ·simp_arith [i5,decide_eq_false hp,f1,f2,Shp.ord,if_neg hp]
theorem Zop {s:Shp} (h:s.Ok) {y f:Int} (hy:nb 20 y) (hf:nb 40 f):lT [.d s.d,.d (.int y),.d (.int f)]=.ret (.d (.int (s.day y f))):=by
 have hd:nb 7 s.depth:=by have:=h.t0; have:=h.d0; have:=h.td; exact bJ (by show -128 < _; omega) (by show _ < 128; omega)
 have hn:nb 50 (s.nx y f):=by
  unfold Shp.nx bR
  exact lD (aD (gf hd) (by decide)) (aD (eW hy hf) (by decide))
 have f1:=aq h.keep (by decide)
 have f2:=aq hn (by decide)
 have f3:=aq (gf hn) (by decide)
 have f4:=aq h.lack (by decide)
 have f5:=aq h.lost (by decide)
 have f6:=aq (eW hn (eW hy hf)) (by decide)
 have e:=tX s y f
 by_cases hp:s.nx y f > 0
 ·simp_arith [lT,e,decide_eq_true hp,f1,f2,f5,f6,Shp.day,if_pos hp]
 ·simp_arith [lT,e,decide_eq_false hp,f3,f4,f5,f6,Shp.day,if_neg hp]
theorem ZhA {s:Shp} (h:s.Ok):lR [.d s.d]=.ret (.own ((s.row s.fin).map PyData.int)):=by
 have:=h.t0
 have:=h.d0
 have:=h.td
 have hs:small (aN (-s.depth) (s.top+1)).length=true:=b7 (by rw [cA]; omega)
 have e:br (bL (af 0) rY (blk 1 [0] [.d s.d])) (aN (-s.depth) (s.top+1))=.ret ((s.row s.fin).map PyData.int):=by
  refine Eq.trans (sN (f:=λx=>.int (s.fin x)) λz h1 h2=>?_) ?_
  ·have e1:=Zoo h (x:=z) (bJ (by show -1048576 < _; omega) (by show _ < 1048576; omega))
   simp_arith [rY,e1]
  ·unfold Shp.row Shp.n
   rw [vH]
   rfl
 simp_arith [lR,gQ h,hs] at e ⊢
 simp_arith [e]
end My
set_option Elab.async false
set_option linter.all false
set_option maxRecDepth 100000
namespace My
open L2 Tw
theorem Zm9 (l:zf):(l.map PyData.int).length=l.length:=vd ..
theorem o7 {s:Shp} (h:s.Ok) {day:zf} (hd:DayB day) {y:Int} (y1:-s.depth<=y) (y2:y<=s.top) {A:Int->Int} {b:Nat} (hA:Bd s b A) {sc:Int} (hs:nb b sc) (hb:b<=5000) :
  i0 [.d s.d,.d (tI day),.d (.int y),.d (lI (s.row A)),.d (.int sc)]=.ret (.d (.int (s.wg day y A sc))):=by
 have:=h.t0
 have:=h.d0
 have:=h.td
 have hy:nb 20 y:=bJ (by show -1048576 < _; omega) (by show _ < 1048576; omega)
 apply mo
 simp_arith [i0,tI,lI]
 refine eK (n:=0) (n':=0) (P:=λo=>∃ J1 J2 J3:Sl,o=.next [.d s.d,.d (.tuple (day.map PyData.int)),.d (.int y),.d (.list ((s.row A).map PyData.int)),.d (.int sc),.d (.int (s.wg day y A sc)),J1,J2,J3]) ?_ (by decide) ?_
 ·refine kG (n:=0) (λpre ρ=>∃ J1 J2 J3:Sl,ρ=[.d s.d,.d (.tuple (day.map PyData.int)),.d (.int y),.d (.list ((s.row A).map PyData.int)),.d (.int sc),.d (.int (s.wg day y A sc - ws (λf=>sc * s.day y f+A (s.nx y f)) pre.length (day.drop pre.length))),J1,J2,J3]) ⟨.un,.un,.un,?_⟩ (by simp) ?_ ?_
  ·have:s.wg day y A sc - ws (λf=>sc * s.day y f+A (s.nx y f)) 0 day=0:=by unfold Shp.wg; omega
   simp only [wG,xG,this]
  ·rintro pre x post ρ e ⟨J1,J2,J3,rfl⟩
   obtain ⟨w,hw,rfl⟩:=Zn8 e
   rw [vg] at hw
   obtain ⟨v,hv,rfl⟩:=xo.mp hw
   refine ⟨_,rfl,?_⟩
   have hl:pre.length < day.length:=(vf.mp hv).1
   have hlen:=hd.len
   have hf:nb 40 (pre.length:Int):=bJ (by show -1099511627776 < _; omega) (by show _ < 1099511627776; omega)
   have e1:=tX s y pre.length
   have e2:=Zop h hy hf
   have n1:=eV s y pre.length
   have n2:=eU h y2 (show (0:Int)<=pre.length by omega)
   have e3:=rA (f:=A) n1 n2
   have v1:nb 30 v:=hd.nb v (wu hv)
   have b1:=bf hs (kz h hy hf)
   have f1:=aq hs (by omega)
   have f2:=aq (kz h hy hf) (by decide)
   have f3:=aq v1 (by decide)
   have f4:=aq (cU b1 (hA _ n1 n2)) (by omega)
   simp_arith [ZdB,e1,e2,e3,f1,f2,f3,f4]
   have ed:day.drop pre.length=v::day.drop (pre.length+1):=by
    rw [wm hl]
    congr 1
    exact (vf.mp hv).2
   have el:(pre++[PyData.tuple [PyData.int pre.length,PyData.int v]]).length=pre.length+1:=by simp
   have ee:s.wg day y A sc - ws (λf=>sc * s.day y f+A (s.nx y f)) pre.length (day.drop pre.length)+v * (sc * s.day y pre.length+A (s.nx y pre.length)) =
     s.wg day y A sc - ws (λf=>sc * s.day y f+A (s.nx y f)) (pre++[PyData.tuple [PyData.int pre.length,PyData.int v]]).length (day.drop (pre++[PyData.tuple [PyData.int pre.length,PyData.int v]]).length):=by
    rw [el,ed,ws]
    omega
   rw [ee]
   exact cN ⟨_,rfl,_,_,_,rfl⟩
  ·rintro ρ ⟨J1,J2,J3,rfl⟩
   refine ⟨J1,J2,J3,?_⟩
   rw [Zn9,Zm9,wL,ws,Int.sub_zero]
 ·rintro _ ⟨J1,J2,J3,rfl⟩
  simp_arith [xr]
  exact cN rfl
theorem Zhy {s:Shp} (h:s.Ok) {day:zf} (hd:DayB day) {A:Int->Int} {b:Nat} (hA:Bd s b A) {sc:Int} (hs:nb b sc) (hb:b<=5000) :
  lM [.d s.d,.d (tI day),.d (lI (s.row A)),.d (.int sc)]=.ret (.own ((s.row (s.sm day A sc)).map PyData.int)):=by
 have:=h.t0
 have:=h.d0
 have:=h.td
 have f1:=aq hs (by omega)
 have f2:=aq (cq hd) (by decide)
 have f3:=aq (bf hs (cq hd)) (by omega)
 have f4:=aq h.piece (by decide)
 have f5:=aq (bf (bf hs (cq hd)) h.piece) (by omega)
 have es:bZ cH [tI day]=.ret (.int day.sum):=oZ day
 have hsm:small (aN (-s.depth) (s.top+1)).length=true:=b7 (by rw [cA]; omega)
 have e:br (bL (af 0) rR (blk 1 [0,1,2,3,4] [.d s.d,.d (tI day),.d (lI (s.row A)),.d (.int sc),.d (.int (sc * day.sum))])) (aN (-s.depth) (s.top+1))=.ret ((s.row (s.sm day A sc)).map PyData.int):=by
  refine Eq.trans (sN (f:=λx=>.int (s.sm day A sc x)) λz h1 h2=>?_) ?_
  ·have e1:=o7 h hd (y:=z) (by omega) (by omega) hA hs hb
   have hz:nb 20 z:=bJ (by show -1048576 < _; omega) (by show _ < 1048576; omega)
   have f6:=aq hz (by decide)
   simp_arith [rR,e1,f3,f4,f5,f6]
   rfl
  ·unfold Shp.row Shp.n
   rw [vH]
   rfl
 simp_arith [lM,gQ h,hsm,es,f1,f2] at e ⊢
 simp_arith [e]
end My
set_option Elab.async false
set_option linter.all false
set_option maxRecDepth 100000
set_option exponentiation.threshold 9000
namespace My
open L2 Tw
theorem Zaa {xs ys pre post:ze} {x:PyData} (h:bP xs ys=pre++x::post):∃ a b,xs[pre.length]?=some a/\ys[pre.length]?=some b/\x=.tuple [a,b]:=by
 have h1:(bP xs ys)[pre.length]?=some x:=by rw [h]; simp
 unfold bP at h1
 rw [vg] at h1
 obtain ⟨⟨a,b⟩,hz,rfl⟩:=xo.mp h1
 obtain ⟨z1,z2⟩:=yN.mp hz
 exact ⟨a,b,z1,z2,rfl⟩
theorem ZbQ {lo hi:Int} {k:Nat} {y:PyData} (h:(aN lo hi)[k]?=some y):y=.int (lo+k)/\(k:Int) < hi - lo:=by
 have hk:=(vf.mp h).1
 rw [cA] at hk
 unfold aN aG at h
 rw [vH,vg,vF hk] at h
 cases h
 exact ⟨rfl,by omega⟩
noncomputable def cby (s:Shp) (day:zf) (A:Int->Int) (sc:Int) (g:Int->Int) (x:Int):Int:=sc * day.sum * s.ord x (g x)+s.wg day (g x) A sc
theorem ZpE {s:Shp} (h:s.Ok) {day:zf} (hd:DayB day) {A:Int->Int} {b:Nat} (hA:Bd s b A) {sc:Int} (hs:nb b sc) (hb:b<=5000) {x y:Int} (x1:-s.depth<=x) (xy:x<=y) (y2:y<=s.top) {L:ze} (hL:L.length<=900) (LV:Sl) :
  tm [.d s.d,.d (tI day),LV,.d (lI (s.row A)),.d (.int sc),.d (.int (sc * day.sum)),.own L,.d (.int x),.d (.int y)]=.ret (.next [.d s.d,.d (tI day),LV,.d (lI (s.row A)),.d (.int sc),.d (.int (sc * day.sum)),.own (L++[.int (sc * day.sum * s.ord x y+s.wg day y A sc)]),.d (.int x),.d (.int y)]):=by
 have hx:=dF h x1 (show x<=s.top by omega)
 have hy:=dF h (show -s.depth<=y by omega) y2
 have e1:=tW h hx hy
 have e2:=o7 h hd (show -s.depth<=y by omega) y2 hA hs hb
 have hsm:small (L.length+1)=true:=b7 (by omega)
 have g1:=aq (bf hs (cq hd)) (by omega)
 have g2:=aq (jX h hx hy) (by decide)
 simp_arith [tm,e1,e2,hsm,g1,g2]
theorem ZhB {s:Shp} (h:s.Ok) {day:zf} (hd:DayB day) {A:Int->Int} {b:Nat} (hA:Bd s b A) {sc:Int} (hs:nb b sc) (hb:b<=5000) {g:Int->Int} (hg:s.RlOk g) {LV:PyData} (hLV:cJ LV=.ret ((s.row g).map PyData.int)) :
  lU [.d s.d,.d (tI day),.d LV,.d (lI (s.row A)),.d (.int sc)]=.ret (.own ((s.row (cby s day A sc g)).map PyData.int)):=by
 have:=h.t0
 have:=h.d0
 have:=h.td
 have hn:=h.n_eq
 have g1:=aq hs (by omega)
 have g2:=aq (cq hd) (by decide)
 apply mo
 simp_arith [lU,fq,g1,g2,gQ h,hLV]
 refine eK (n:=0) (n':=0) (P:=λo=>∃ J7 J8:Sl,o=.next [.d s.d,.d (tI day),.d LV,.d (lI (s.row A)),.d (.int sc),.d (.int (sc * day.sum)),.own ((s.row (cby s day A sc g)).map PyData.int),J7,J8]) ?_ (by decide) ?_
 ·refine kG (n:=0) (λpre ρ=>∃ J7 J8:Sl,ρ=[.d s.d,.d (tI day),.d LV,.d (lI (s.row A)),.d (.int sc),.d (.int (sc * day.sum)),.own (((s.row (cby s day A sc g)).map PyData.int).take pre.length),J7,J8]) ⟨_,_,rfl⟩ (by simp) ?_ ?_
  ·rintro pre x post ρ e ⟨J7,J8,rfl⟩
   obtain ⟨a,c,ha,hc,rfl⟩:=Zaa e
   obtain ⟨rfl,hpre⟩:=ZbQ ha
   have x1:-s.depth<=-s.depth+(pre.length:Int):=by omega
   have x2:-s.depth+(pre.length:Int)<=s.top:=by omega
   have ek:(-s.depth+(pre.length:Int)+s.depth).toNat=pre.length:=by omega
   have hr:=fX (f:=g) x1 x2
   have hr3:=fX (f:=cby s day A sc g) x1 x2
   rw [ek] at hr hr3
   rw [vg,hr] at hc
   cases hc
   have hr2:((s.row (cby s day A sc g)).map PyData.int)[pre.length]?=some (.int (cby s day A sc g (-s.depth+(pre.length:Int)))):=by rw [vg,hr3]; rfl
   have el:∀ z:PyData,(pre++[z]).length=pre.length+1:=λz=>by simp
   rw [el,List.take_add_one,hr2]
   obtain ⟨q1,q2⟩:=hg _ x1 x2
   exact ⟨_,rfl,ZqA (ZpE h hd hA hs hb x1 q1 q2 (by rw [xf,vd,iP]; omega) _) ⟨_,rfl,_,_,rfl⟩⟩
  ·rintro ρ ⟨J7,J8,rfl⟩
   refine ⟨J7,J8,?_⟩
   have el:(bP (aN (-s.depth) (s.top+1)) ((s.row g).map PyData.int)).length=s.n:=by
    unfold bP
    rw [vd,xz,cA,vd,iP]
    unfold Shp.n
    omega
   rw [el,List.take_of_length_le (by rw [vd,iP]; exact vo _)]
 ·rintro _ ⟨J7,J8,rfl⟩
  simp_arith [xr]
  exact cN rfl
end My
set_option Elab.async false
set_option linter.all false
set_option maxRecDepth 100000
set_option exponentiation.threshold 9000
namespace My
open L2 Tw
def qe (s:Shp) (day:zf) (C A:Int->Int) (sc:Int):Prop:=∀ x y,-s.depth<=x->x<=y->y<=s.top->C x<=sc * day.sum * s.ord x y+s.wg day y A sc
noncomputable abbrev dt (s:Shp) (day:zf) (C A:Int->Int) (sc:Int) (J7 J8 J9:Sl):zl:=[.d s.d,.d (tI day),.d (lI (s.row C)),.d (lI (s.row A)),.d (.int sc),.d (.int (sc * day.sum)),.d (lI (s.row λy=>s.wg day y A sc)),J7,J8,J9]
theorem nn1 {s:Shp} (h:s.Ok) {day:zf} (hd:DayB day) {C A:Int->Int} {b:Nat} {sc:Int} (hs:nb b sc) (hb:b<=5000) {x y c:Int} (x1:-s.depth<=x) (xy:x<=y) (y2:y<=s.top) :
  kc (dt s day C A sc (.d (.int x)) (.d (.int c)) (.d (.int y)))=if sc * day.sum * s.ord x y+s.wg day y A sc < c then .ret (.ret (.d (.bool false))) else .ret (.next (dt s day C A sc (.d (.int x)) (.d (.int c)) (.d (.int y)))):=by
 have hx:=dF h x1 (show x<=s.top by omega)
 have hy:=dF h (show -s.depth<=y by omega) y2
 have e1:=tW h hx hy
 have e2:=rA (s:=s) (f:=λy=>s.wg day y A sc) (x:=y) (by omega) y2
 have g1:=aq (bf hs (cq hd)) (by omega)
 have g2:=aq (jX h hx hy) (by decide)
 by_cases q:sc * day.sum * s.ord x y+s.wg day y A sc < c
 ·rw [if_pos q]
  simp_arith [kc,dt,lI,e1,e2,g1,g2,decide_eq_true q]
 ·rw [if_neg q]
  simp_arith [kc,dt,lI,e1,e2,g1,g2,decide_eq_false q]
theorem nn2 {s:Shp} (h:s.Ok) {day:zf} (hd:DayB day) {C A:Int->Int} {b:Nat} {sc:Int} (hs:nb b sc) (hb:b<=5000) {x c:Int} (x1:-s.depth<=x) (x2:x<=s.top) (J9:Sl) :
  ((∃ y,x<=y/\y<=s.top/\sc * day.sum * s.ord x y+s.wg day y A sc < c)/\kb (dt s day C A sc (.d (.int x)) (.d (.int c)) J9)=.ret (.ret (.d (.bool false))))\/((∀ y,x<=y->y<=s.top->¬ sc * day.sum * s.ord x y+s.wg day y A sc < c)/\∃ K9:Sl,kb (dt s day C A sc (.d (.int x)) (.d (.int c)) J9)=.ret (.next (dt s day C A sc (.d (.int x)) (.d (.int c)) K9))):=by
 have:=h.t0
 have:=h.d0
 have:=h.td
 have r1:jS [.int x,.int (s.top+1)]=.ret (aN x (s.top+1)):=Ze1 (eD (by omega) (by omega)) (eD (by omega) (by omega))
 have key:=Zed (g:=af 9) (s:=kc) (r:=.d (.bool false)) (xs:=aN x (s.top+1)) (ρ:=dt s day C A sc (.d (.int x)) (.d (.int c)) J9) (λpre _=>sc * day.sum * s.ord x (x+pre.length)+s.wg day (x+pre.length) A sc < c) (λ_ ρ=>∃ K9:Sl,ρ=dt s day C A sc (.d (.int x)) (.d (.int c)) K9) ⟨_,rfl⟩ (by
  rintro pre z post ρ e ⟨K9,rfl⟩
  obtain ⟨rfl,hpre⟩:=rE e
  refine ⟨_,rfl,?_⟩
  have st:=nn1 h hd (C:=C) (A:=A) hs hb (c:=c) x1 (show x<=x+(pre.length:Int) by omega) (by omega)
  by_cases q:sc * day.sum * s.ord x (x+pre.length)+s.wg day (x+pre.length) A sc < c
  ·rw [if_pos q] at st
   exact .inl ⟨q,st⟩
  ·rw [if_neg q] at st
   exact .inr ⟨q,_,st,_,rfl⟩)
 have eL:kb (dt s day C A sc (.d (.int x)) (.d (.int c)) J9)=bX (af 9) kc (aN x (s.top+1)) (dt s day C A sc (.d (.int x)) (.d (.int c)) J9):=by
  simp_arith [kb,dt,r1]
 rw [eL]
 rcases key with ⟨⟨p,z,q,e,hb⟩,k⟩ | ⟨hn,ρ2,k,K9,rfl⟩
 ·obtain ⟨rfl,hpre⟩:=rE e
  exact .inl ⟨⟨x+p.length,by omega,by omega,hb⟩,k⟩
 ·refine .inr ⟨λy y1 y2=>?_,K9,k⟩
  have hlen:(y - x).toNat < (aN x (s.top+1)).length:=by rw [cA]; omega
  have hsp:aN x (s.top+1)=(aN x (s.top+1)).take (y - x).toNat++(aN x (s.top+1))[(y - x).toNat]::(aN x (s.top+1)).drop ((y - x).toNat+1):=by
   rw [<- wm hlen,List.take_append_drop]
  have:=hn _ _ _ hsp
  rw [xf,x8 (by omega)] at this
  have e:x+((y - x).toNat:Int)=y:=by omega
  rwa [e] at this
theorem Zoe {s:Shp} (h:s.Ok) {day:zf} (hd:DayB day) {C A:Int->Int} {b:Nat} (hA:Bd s b A) {sc:Int} (hs:nb b sc) (hb:b<=5000) :
  (qe s day C A sc/\j4 [.d s.d,.d (tI day),.d (lI (s.row C)),.d (lI (s.row A)),.d (.int sc)]=.ret (.d (.bool true)))\/(¬ qe s day C A sc/\j4 [.d s.d,.d (tI day),.d (lI (s.row C)),.d (lI (s.row A)),.d (.int sc)]=.ret (.d (.bool false))):=by
 have:=h.t0
 have:=h.d0
 have:=h.td
 have hn:=h.n_eq
 have g1:=aq hs (by omega)
 have g2:=aq (cq hd) (by decide)
 have hsm:small (aN (-s.depth) (s.top+1)).length=true:=b7 (by rw [cA]; omega)
 have hmap:br (bL (af 0) rQ [.un,.d s.d,.d (tI day),.d (lI (s.row A)),.d (.int sc)]) (aN (-s.depth) (s.top+1))=.ret ((s.row λy=>s.wg day y A sc).map PyData.int):=by
  rw [sN (f:=λy=>.int (s.wg day y A sc)) λz z1 z2=>?_]
  ·unfold Shp.row
   rw [vH]
   rfl
  ·have e:=o7 h hd (y:=z) z1 (by omega) hA hs hb
   have e3:∀ q:yZ,bL (af 0) q [.un,.d s.d,.d (tI day),.d (lI (s.row A)),.d (.int sc)] (.int z)=q [.d (.int z),.d s.d,.d (tI day),.d (lI (s.row A)),.d (.int sc)]:=λq=>rfl
   rw [e3]
   simp_arith [rQ,e]
 have key:=Zed (g:=bd (am (af 7) (am (af 8) bc))) (s:=kb) (r:=.d (.bool false)) (xs:=bP (aN (-s.depth) (s.top+1)) ((s.row C).map PyData.int)) (ρ:=dt s day C A sc .un .un .un) (λpre _=>∃ y,-s.depth+(pre.length:Int)<=y/\y<=s.top/\sc * day.sum * s.ord (-s.depth+pre.length) y+s.wg day y A sc < C (-s.depth+pre.length)) (λ_ ρ=>∃ K7 K8 K9:Sl,ρ=dt s day C A sc K7 K8 K9) ⟨_,_,_,rfl⟩ (by
  rintro pre z post ρ e ⟨K7,K8,K9,rfl⟩
  obtain ⟨a,c,ha,hc,rfl⟩:=Zaa e
  obtain ⟨rfl,hpre⟩:=ZbQ ha
  have x1:-s.depth<=-s.depth+(pre.length:Int):=by omega
  have x2:-s.depth+(pre.length:Int)<=s.top:=by omega
  have ek:(-s.depth+(pre.length:Int)+s.depth).toNat=pre.length:=by omega
  have hr:=fX (f:=C) x1 x2
  rw [ek] at hr
  rw [vg,hr] at hc
  cases hc
  refine ⟨_,rfl,?_⟩
  rcases nn2 h hd (C:=C) (A:=A) hs hb (c:=C (-s.depth+(pre.length:Int))) x1 x2 K9 with ⟨q,st⟩ | ⟨q,K9',st⟩
  ·exact .inl ⟨q,st⟩
  ·exact .inr ⟨λ⟨y,y1,y2,y3⟩=>q y y1 y2 y3,_,st,_,_,_,rfl⟩)
 rcases key with ⟨⟨p,z,q,e,y,y1,y2,y3⟩,k⟩ | ⟨hno,ρ2,k,K7,K8,K9,rfl⟩
 ·refine .inr ⟨λnl=>?_,?_⟩
  ·have:=nl _ y (by omega) y1 y2
   omega
  ·have ei:cJ (lI (s.row C))=.ret ((s.row C).map PyData.int):=rfl
   have el:PyData.list ((s.row λy=>s.wg day y A sc).map PyData.int)=lI (s.row λy=>s.wg day y A sc):=rfl
   simp_arith [j4,fq,g1,g2,gQ h,hsm,hmap,ei,el]
   simp only [dt] at k
   simp_arith [k]
 ·refine .inl ⟨λx y x1 xy y2=>?_,?_⟩
  ·have hlen:(x+s.depth).toNat < (bP (aN (-s.depth) (s.top+1)) ((s.row C).map PyData.int)).length:=by
    unfold bP
    rw [vd,xz,cA,vd,iP]
    omega
   have hsp:bP (aN (-s.depth) (s.top+1)) ((s.row C).map PyData.int)=(bP (aN (-s.depth) (s.top+1)) ((s.row C).map PyData.int)).take (x+s.depth).toNat++(bP (aN (-s.depth) (s.top+1)) ((s.row C).map PyData.int))[(x+s.depth).toNat]::(bP (aN (-s.depth) (s.top+1)) ((s.row C).map PyData.int)).drop ((x+s.depth).toNat+1):=by
    rw [<- wm hlen,List.take_append_drop]
   have:=hno _ _ _ hsp
   rw [xf,x8 (by omega)] at this
   have e:-s.depth+((x+s.depth).toNat:Int)=x:=by omega
   rw [e] at this
   by_cases q:C x<=sc * day.sum * s.ord x y+s.wg day y A sc
   ·exact q
   ·exact absurd ⟨y,xy,y2,by omega⟩ this
  ·have ei:cJ (lI (s.row C))=.ret ((s.row C).map PyData.int):=rfl
   have el:PyData.list ((s.row λy=>s.wg day y A sc).map PyData.int)=lI (s.row λy=>s.wg day y A sc):=rfl
   simp_arith [j4,fq,g1,g2,gQ h,hsm,hmap,ei,el]
   simp only [dt] at k
   simp_arith [k]
end My
set_option Elab.async false
set_option linter.all false
set_option maxRecDepth 100000
namespace My
open L2 Tw
theorem Zqq {xs:ze} {v:PyData} (h:xs[xs.length - 1]?=some v):bw xs (-1)=some v:=by
 have hl:xs≠[]:=λe=>by subst e; cases h
 have hp:0 < xs.length:=yj.mpr hl
 obtain ⟨k,hk⟩:=Nat.exists_eq_succ_of_ne_zero (wj hp)
 unfold bw cR
 have e0:(-1:Int)+(xs.length:Int)=(k:Int):=by rw [hk]; show (-1:Int)+((k:Int)+1)=k; rw [Int.add_comm,Int.add_assoc]; exact yx _
 have e:((-1:Int)+(xs.length:Int)).toNat=xs.length - 1:=by rw [e0,hk]; exact v3 k
 rw [if_neg (by decide),if_pos (by omega)]
 show xs[((-1:Int)+(xs.length:Int)).toNat]?=some v
 rw [e]
 exact h
noncomputable def dq (g:Int->Int) (top K P x:Int):PyData:=.tuple [.int (cst g top K P x),.int (lvl g top K x)]
theorem Zk1 {lo hi:Int} {F:Int->PyData}:((List.range (hi - lo).toNat).map λ(i:Nat)=>F (hi - 1 - i)).reverse=(aG lo (hi - lo).toNat).map F:=by
 unfold aG
 rw [vH]
 apply wT
 intro i
 by_cases hi':i < (hi - lo).toNat
 ·rw [wY (by simpa using hi'),vd,v9,vg,vg,vF (by omega),vF hi']
  show some (F (hi - 1 - (((hi - lo).toNat - 1 - i:Nat):Int)))=some (F (lo+(i:Int)))
  congr 2
  omega
 ·rw [vY (by simpa using hi'),vY (by simpa using hi')]
theorem Zoq {s:Shp} (h:s.Ok) {low:Int} (hl:low<=s.top) (hl0:-1000<=low) {g:Int->Int} {b:Nat} (hg:∀ x,low<=x->x<=s.top->nb b (g x)) {sc:Int} (hs:nb b sc) (hK:0<=sc * s.start) (hb:b<=3000) :
  oC [.d s.d,.d (.int low),.d (lI ((aG low (s.top+1 - low).toNat).map g)),.d (.int sc)]=.ret (.own ((aG low (s.top+1 - low).toNat).map (dq g s.top (sc * s.start) (sc * s.piece)))):=by
 have:=h.t0
 have:=h.d0
 have:=h.td
 have hn:0 < (s.top+1 - low).toNat:=by omega
 have hlen:(((aG low (s.top+1 - low).toNat).map g).map PyData.int).length=(s.top+1 - low).toNat:=by rw [vd,vd,fY]
 have hat:∀ x,low<=x->x<=s.top->(((aG low (s.top+1 - low).toNat).map g).map PyData.int)[(x - low).toNat]?=some (.int (g x)):=λx h1 h2=>by
  unfold aG
  rw [vH,vH,vg,vF (by omega)]
  show some (PyData.int (g (low+((x - low).toNat:Int))))=_
  congr 3
  omega
 have hlast:bw (((aG low (s.top+1 - low).toNat).map g).map PyData.int) (-1)=some (.int (g s.top)):=Zqq (by
  rw [hlen]
  have:=hat s.top hl (vN _)
  have e:(s.top - low).toNat=(s.top+1 - low).toNat - 1:=by
   obtain ⟨k,hk⟩:=xV (Int.sub_nonneg_of_le hl)
   have hk2:s.top+1 - low=((k+1:Nat):Int):=by omega
   rw [hk,hk2]
   rfl
  rw [e] at this
  exact this)
 have r1:fO low=true:=eD (by omega) (by omega)
 have r2:fO (s.top+1)=true:=eD (by omega) (by omega)
 have f1:=aq hs (by omega)
 have f2:=aq h.start (by decide)
 have f3:=aq h.piece (by decide)
 have f4:=aq (bf hs h.piece) (by omega)
 apply mo
 simp_arith [oC,lI,hlast,Ze1 r1 r2]
 refine eK (n:=0) (n':=0) (P:=λo=>∃ J5 J6 J7 J8 J9:Sl,o=.next [.d s.d,.d (.int low),.d (.list (((aG low (s.top+1 - low).toNat).map g).map PyData.int)),.d (.int sc),.own ((List.range (s.top+1 - low).toNat).map λ(i:Nat)=>dq g s.top (sc * s.start) (sc * s.piece) (s.top+1 - 1 - i)),J5,J6,J7,J8,J9]) ?_ (by decide) ?_
 ·refine kG (n:=0) (λpre ρ=>∃ J6 J7 J8 J9:Sl,ρ=[.d s.d,.d (.int low),.d (.list (((aG low (s.top+1 - low).toNat).map g).map PyData.int)),.d (.int sc),.own ((List.range pre.length).map λ(i:Nat)=>dq g s.top (sc * s.start) (sc * s.piece) (s.top+1 - 1 - i)),.d (.tuple [.int (bst g s.top (pre.length - 1)).1,.int (bst g s.top (pre.length - 1)).2]),J6,J7,J8,J9]) ⟨.un,.un,.un,.un,rfl⟩ (by simp) ?_ ?_
  ·rintro pre x post ρ e ⟨J6,J7,J8,J9,rfl⟩
   obtain ⟨rfl,hpre⟩:=ZbP e
   refine ⟨_,rfl,?_⟩
   generalize hk:pre.length=k at hpre ⊢
   have hx1:low<=s.top+1 - 1 - (k:Int):=by omega
   have hx2:s.top+1 - 1 - (k:Int)<=s.top:=by omega
   have ha:bw (((aG low (s.top+1 - low).toNat).map g).map PyData.int) (s.top+1 - 1 - (k:Int) - low)=some (.int (g (s.top+1 - 1 - (k:Int)))):=fe (by omega) (hat _ hx1 hx2)
   have hxn:nb 20 (s.top+1 - 1 - (k:Int)):=bJ (by show -1048576 < _; omega) (by show _ < 1048576; omega)
   have f5:=aq hxn (by decide)
   have hsm:small (((List.range k).map λ(i:Nat)=>dq g s.top (sc * s.start) (sc * s.piece) (s.top+1 - 1 - i)).length+1)=true:=b7 (by rw [vd,v9]; omega)
   have el:(pre++[PyData.int (s.top+1 - 1 - (k:Int))]).length=k+1:=by rw [v6,hk]; rfl
   have m1:bZ il [.tuple [.int (g (s.top+1 - 1 - (k:Int))),.int (s.top+1 - 1 - (k:Int))],.tuple [.int (sc * s.start+(bst g s.top (k - 1)).1),.int (bst g s.top (k - 1)).2]]=.ret (.tuple [.int (pck g s.top (sc * s.start) (s.top+1 - 1 - (k:Int))).1,.int (pck g s.top (sc * s.start) (s.top+1 - 1 - (k:Int))).2]):=by
    rw [o4]
    cases k with
    | zero =>
     have ex:s.top+1 - 1 - ((0:Nat):Int)=s.top:=by simp
     rw [ex,iU,if_neg]
     show ¬ (sc * s.start+g s.top < g s.top\/sc * s.start+g s.top=g s.top/\s.top < s.top)
     omega
    | succ n =>
     have ex:s.top+1 - 1 - ((n+1:Nat):Int)=s.top - ((n+1:Nat):Int):=by omega
     rw [ex,iV,Nat.add_sub_cancel]
     have hb:=(pz g s.top n).1
     by_cases hc:sc * s.start+(bst g s.top n).1 < g (s.top - ((n+1:Nat):Int))
     ·rw [if_pos (.inl hc),if_pos hc]
     ·rw [if_neg (by omega),if_neg hc]
   have m2:bZ il [.tuple [.int (g (s.top+1 - 1 - (k:Int))),.int (s.top+1 - 1 - (k:Int))],.tuple [.int (bst g s.top (k - 1)).1,.int (bst g s.top (k - 1)).2]]=.ret (.tuple [.int (bst g s.top k).1,.int (bst g s.top k).2]):=by
    rw [o4]
    cases k with
    | zero =>
     have ex:s.top+1 - 1 - ((0:Nat):Int)=s.top:=by simp
     rw [ex,if_neg]
     ·rfl
     ·show ¬ (g s.top < g s.top\/g s.top=g s.top/\s.top < s.top)
      omega
    | succ n =>
     have ex:s.top+1 - 1 - ((n+1:Nat):Int)=s.top - ((n+1:Nat):Int):=by omega
     rw [ex,Nat.add_sub_cancel]
     have hb:=(pz g s.top n).1
     rw [bst]
     by_cases hc:(bst g s.top n).1 < g (s.top - ((n+1:Nat):Int))
     ·rw [if_pos (.inl hc),if_pos hc]
     ·rw [if_neg (by omega),if_neg hc]
   simp_arith [ZdE,ha,m1,m2,f1,f2,f3,f4,f5,hsm]
   rw [el,xx,wC]
   exact cN ⟨_,rfl,_,_,_,_,rfl⟩
  ·rintro ρ ⟨J6,J7,J8,J9,rfl⟩
   rw [wb,cA]
   exact ⟨_,J6,J7,J8,J9,rfl⟩
 ·rintro _ ⟨J5,J6,J7,J8,J9,rfl⟩
  simp_arith [xr]
  rw [Zk1]
  exact cN rfl
theorem ZhD {s:Shp} (h:s.Ok) {g:Int->Int} {b:Nat} (hg:Bd s b g) {sc:Int} (hs:nb b sc) (h0:0<=sc) (hb:b<=3000) :
  j9 [.d s.d,.d (lI (s.row g)),.d (.int sc)]=.ret (.own ((aG (-s.depth) s.n).map (dq g s.top (sc * s.start) (sc * s.piece)))):=by
 have:=h.t0
 have:=h.d0
 have:=h.td
 have e:=Zoq h (low:=-s.depth) (by omega) (by omega) (λx h1 h2=>hg x h1 h2) hs (wA h0 h.start0) hb
 simp_arith [j9]
 unfold Shp.row Shp.n
 rw [e]
 simp_arith [xr]
end My
set_option Elab.async false
set_option linter.all false
set_option maxRecDepth 100000
set_option exponentiation.threshold 9000
namespace My
open L2 Tw Bar
noncomputable def cf (A:Nat->Nat->Int) (n k i:Nat):PyData:=.list (((List.range (n+1)).map λj=>M A k i (col A j)).map PyData.int)
noncomputable def bT (A:Nat->Nat->Int) (n k at':Nat):ze:=(List.range n).map λi=>if i < at' then cf A n (k+1) i else cf A n k i
structure SvOk (A:Nat->Nat->Int) (n:Nat):Prop where
 n9:n<=9
 d0:∀ j,j<=n->0 < d A j
 nb:∀ k i j,k<=n->i < n->j<=n->Tw.nb 3000 (M A k i (col A j))
 nd:∀ j,j<=n->Tw.nb 3000 (d A j)
theorem gE (A:Nat->Nat->Int) (n k at':Nat):(bT A n k at').length=n:=by unfold bT; rw [vd,v9]
theorem iN (A:Nat->Nat->Int) {n k at' i:Nat} (h:i < n):(bT A n k at')[i]?=some (if i < at' then cf A n (k+1) i else cf A n k i):=by
 unfold bT
 rw [vg,vF h]
 rfl
theorem ZkX {A:Nat->Nat->Int} {n k:Nat} (h:SvOk A n) (hk:k < n):cf A n (k+1) k=cf A n k k:=by
 unfold cf
 congr 2
 refine v4 λj _=>?_
 exact Zrx A (λj hj=>wx (h.d0 j (by omega))) _
theorem ZkV {A:Nat->Nat->Int} {n k i:Nat} (hi:i < n):(bT A n k i).set i (cf A n (k+1) i)=bT A n k (i+1):=by
 refine wT λq=>?_
 rw [List.getElem?_set,gE]
 by_cases e:i=q
 ·subst e
  rw [if_pos rfl,if_pos hi,iN A hi,if_pos (by omega)]
 ·rw [if_neg e]
  by_cases hq:q < n
  ·rw [iN A hq,iN A hq]
   by_cases h2:q < i
   ·rw [if_pos h2,if_pos (by omega)]
   ·rw [if_neg h2,if_neg (by omega)]
  ·rw [vY (by rw [gE]; omega),vY (by rw [gE]; omega)]
theorem ZkU {A:Nat->Nat->Int} {n k:Nat} (h:SvOk A n) (hk:k < n):bT A n k k=bT A n k (k+1):=by
 refine wT λq=>?_
 by_cases hq:q < n
 ·rw [iN A hq,iN A hq]
  by_cases h2:q < k
  ·rw [if_pos h2,if_pos (by omega)]
  ·rw [if_neg h2]
   by_cases h3:q=k
   ·subst h3
    rw [if_pos (by omega),ZkX h hk]
   ·rw [if_neg (by omega)]
 ·rw [vY (by rw [gE]; omega),vY (by rw [gE]; omega)]
theorem ZkW (A:Nat->Nat->Int) (n k:Nat):bT A n k n=bT A n (k+1) 0:=by
 unfold bT
 refine v4 λi hi=>?_
 have:=v7.mp hi
 rw [if_pos this,if_neg (by omega)]
theorem ZnY {a m:Int} (ha:0 < a):(a * m).fdiv a=m:=by
 rw [wJ _ (by omega)]
 exact xO m (by omega)
theorem ZbL {A:Nat->Nat->Int} {n k i j:Nat} (hj:j<=n):aS ao (cf A n k i) (.int j)=.ret (.int (M A k i (col A j))):=by
 unfold cf
 rw [ma,fe (v:=.int (M A k i (col A j))) (by omega) (by rw [v3,vg,vg,vF (by omega)]; rfl)]
 rfl
theorem Zj8 {A:Nat->Nat->Int} {n k i:Nat} (h:SvOk A n) (hk:k < n) (hi:i < n) (hik:i≠k):br (bL (bd (am (af 0) (am (af 1) bc))) ll [.un,.un,.d (.int (d A k)),.d (.int (d A (k+1))),.d (.int (M A k i (col A k)))]) (bP (((List.range (n+1)).map λj=>M A k i (col A j)).map PyData.int) (((List.range (n+1)).map λj=>M A k k (col A j)).map PyData.int))=.ret (((List.range (n+1)).map λj=>M A (k+1) i (col A j)).map PyData.int):=by
 have key:∀ l:List Nat,(∀ j∈l,j<=n)->br (bL (bd (am (af 0) (am (af 1) bc))) ll [.un,.un,.d (.int (d A k)),.d (.int (d A (k+1))),.d (.int (M A k i (col A k)))]) (bP ((l.map λj=>M A k i (col A j)).map PyData.int) ((l.map λj=>M A k k (col A j)).map PyData.int))=.ret ((l.map λj=>M A (k+1) i (col A j)).map PyData.int):=by
  intro l
  induction l with
  | nil=>intro _; rfl
  | cons j l ih =>
   intro hl
   have hj:=hl j (by simp)
   have ih':=ih λq hq=>hl q (ve _ hq)
   have st:=Zrw A (k:=k) (λq hq=>wx (h.d0 q (by omega))) (col A j) hik
   rw [u5] at st
   have dk:=h.d0 k (by omega)
   have f1:=aq (h.nd k (by omega)) (by decide)
   have f2:=aq (h.nd (k+1) (by omega)) (by decide)
   have f3:=aq (h.nb k i j (by omega) hi hj) (by decide)
   have f4:=aq (h.nb k i k (by omega) hi (by omega)) (by decide)
   have f5:=aq (h.nb k k j (by omega) hk hj) (by decide)
   have ed:aS fx (.int (d A (k+1) * M A k i (col A j) - M A k i (col A k) * M A k k (col A j))) (.int (d A k))=.ret (.int (M A (k+1) i (col A j))):=by
    rw [kr (by omega) f1,<- st,ZnY dk]
   have e0:bL (bd (am (af 0) (am (af 1) bc))) ll [.un,.un,.d (.int (d A k)),.d (.int (d A (k+1))),.d (.int (M A k i (col A k)))] (.tuple [.int (M A k i (col A j)),.int (M A k k (col A j))])=.ret (.int (M A (k+1) i (col A j))):=by
    simp_arith [ll,f2,f3,f4,f5,ed]
   have ez:bP (((j::l).map λj=>M A k i (col A j)).map PyData.int) (((j::l).map λj=>M A k k (col A j)).map PyData.int)=.tuple [.int (M A k i (col A j)),.int (M A k k (col A j))]::bP ((l.map λj=>M A k i (col A j)).map PyData.int) ((l.map λj=>M A k k (col A j)).map PyData.int):=rfl
   rw [ez,br,e0,Tr.ret_bind,ih']
   rfl
 exact key _ λj hj=>by have:=v7.mp hj; omega
theorem sv1 {A:Nat->Nat->Int} {n k i:Nat} (h:SvOk A n) (hk:k < n) (hi:i < n) (J6:Sl):∃ K6:Sl,l3 [.own (bT A n k i),.d (.int (d A k)),.d (.int k),.d (cf A n k k),.d (.int (d A (k+1))),.d (.int i),J6]=.ret (.next [.own (bT A n k (i+1)),.d (.int (d A k)),.d (.int k),.d (cf A n k k),.d (.int (d A (k+1))),.d (.int i),K6]):=by
 by_cases e:i=k
 ·subst e
  have c:(!((i:Int) == (i:Int)))=false:=by simp
  refine ⟨J6,?_⟩
  rw [<- ZkU h hk]
  simp_arith [l3,c]
 ·have c:(!((i:Int) == (k:Int)))=true:=by simp; omega
  have hat:bw (bT A n k i) (i:Int)=some (cf A n k i):=fe (by omega) (by rw [v3,iN A hi,if_neg (by omega)])
  have hix:=ZbL (A:=A) (n:=n) (k:=k) (i:=i) (j:=k) (by omega)
  have er:=Zj8 h hk hi e
  have i1:cJ (cf A n k i)=.ret (((List.range (n+1)).map λj=>M A k i (col A j)).map PyData.int):=rfl
  have i2:cJ (cf A n k k)=.ret (((List.range (n+1)).map λj=>M A k k (col A j)).map PyData.int):=rfl
  have hs:small (bP (((List.range (n+1)).map λj=>M A k i (col A j)).map PyData.int) (((List.range (n+1)).map λj=>M A k k (col A j)).map PyData.int)).length=true:=b7 (by
   unfold bP
   have:=h.n9
   simp
   omega)
  have hx:cR (bT A n k i).length (i:Int)=some i:=by
   unfold cR
   rw [gE,if_pos (by omega),if_pos (by omega)]
   simp
  have e2:PyData.list (((List.range (n+1)).map λj=>M A (k+1) i (col A j)).map PyData.int)=cf A n (k+1) i:=rfl
  refine ⟨.d (.int (M A k i (col A k))),?_⟩
  simp_arith [l3,c,hat,hix,i1,i2,hs,er,tS hx,e2,ZkV hi]
theorem sv2 {A:Nat->Nat->Int} {n k:Nat} (h:SvOk A n) (hk:k < n):∀ (m i:Nat) (J5 J6:Sl),i+m=n->∃ K5 K6:Sl,bX (af 5) l3 ((aG i m).map PyData.int) [.own (bT A n k i),.d (.int (d A k)),.d (.int k),.d (cf A n k k),.d (.int (d A (k+1))),J5,J6]=.ret (.next [.own (bT A n k n),.d (.int (d A k)),.d (.int k),.d (cf A n k k),.d (.int (d A (k+1))),K5,K6])
 | 0,i,J5,J6,e=>⟨J5,J6,by
  have e0:i=n:=by omega
  rw [e0]; rfl⟩
 | m+1,i,J5,J6,e=>by
  obtain ⟨K6,e1⟩:=sv1 h hk (show i < n by omega) J6
  obtain ⟨L5,L6,e2⟩:=sv2 h hk m (i+1) (.d (.int i)) K6 (by omega)
  refine ⟨L5,L6,?_⟩
  have er:(aG (i:Int) (m+1)).map PyData.int=.int (i:Int)::(aG ((i+1:Nat):Int) m).map PyData.int:=by
   have e1:aG (i:Int) (m+1)=aG (i:Int) 1++aG ((i:Int)+(1:Nat)) m:=by rw [<- Zb3,xC]
   have e2:aG (i:Int) 1=[(i:Int)]:=by unfold aG; simp
   have e3:((i+1:Nat):Int)=(i:Int)+(1:Nat):=by omega
   rw [e1,e2,e3]
   rfl
  have eg:af 5 (.int (i:Int)) [.own (bT A n k i),.d (.int (d A k)),.d (.int k),.d (cf A n k k),.d (.int (d A (k+1))),J5,J6]=some [.own (bT A n k i),.d (.int (d A k)),.d (.int k),.d (cf A n k k),.d (.int (d A (k+1))),.d (.int i),J6]:=rfl
  rw [er,fb,eg,Tr.of_some,Tr.ret_bind,fy,e1,Tr.ret_bind,eE,e2]
theorem sv3 {A:Nat->Nat->Int} {n k:Nat} (h:SvOk A n) (hk:k < n) (J3 J4 J5 J6:Sl):∃ K3 K4 K5 K6:Sl,oG [.own (bT A n k 0),.d (.int (d A k)),.d (.int k),J3,J4,J5,J6]=.ret (.next [.own (bT A n (k+1) 0),.d (.int (d A (k+1))),.d (.int k),K3,K4,K5,K6]):=by
 have n9:=h.n9
 obtain ⟨K5,K6,e⟩:=sv2 h hk n 0 J5 J6 (by omega)
 have hat:bw (bT A n k 0) (k:Int)=some (cf A n k k):=fe (by omega) (by rw [v3,iN A hk,if_neg (by omega)])
 have hix:=ZbL (A:=A) (n:=n) (k:=k) (i:=k) (j:=k) (by omega)
 rw [u5] at hix
 have hl:(bT A n k 0).length=n:=gE A n k 0
 have r1:dQ [.int (n:Int)]=.ret ((aG ((0:Nat):Int) n).map PyData.int):=by
  rw [gP (eD (by omega) (by omega))]
  unfold aN
  have:((n:Int) - 0).toNat=n:=by omega
  rw [this]
  rfl
 refine ⟨.d (cf A n k k),.d (.int (d A (k+1))),K5,K6,?_⟩
 rw [<- ZkW]
 simp_arith only [oG,hat,hix,hl,r1,e]
theorem sv4 {A:Nat->Nat->Int} {n:Nat} (h:SvOk A n):∀ (m k:Nat) (J2 J3 J4 J5 J6:Sl),k+m=n->∃ K2 K3 K4 K5 K6:Sl,bX (af 2) oG ((aG k m).map PyData.int) [.own (bT A n k 0),.d (.int (d A k)),J2,J3,J4,J5,J6]=.ret (.next [.own (bT A n n 0),.d (.int (d A n)),K2,K3,K4,K5,K6])
 | 0,k,J2,J3,J4,J5,J6,e=>⟨J2,J3,J4,J5,J6,by
  have e0:k=n:=by omega
  rw [e0]; rfl⟩
 | m+1,k,J2,J3,J4,J5,J6,e=>by
  obtain ⟨K3,K4,K5,K6,e1⟩:=sv3 h (show k < n by omega) J3 J4 J5 J6
  obtain ⟨L2,L3,L4,L5,L6,e2⟩:=sv4 h m (k+1) (.d (.int k)) K3 K4 K5 K6 (by omega)
  refine ⟨L2,L3,L4,L5,L6,?_⟩
  have er:(aG (k:Int) (m+1)).map PyData.int=.int (k:Int)::(aG ((k+1:Nat):Int) m).map PyData.int:=by
   have e1:aG (k:Int) (m+1)=aG (k:Int) 1++aG ((k:Int)+(1:Nat)) m:=by rw [<- Zb3,xC]
   have e2:aG (k:Int) 1=[(k:Int)]:=by unfold aG; simp
   have e3:((k+1:Nat):Int)=(k:Int)+(1:Nat):=by omega
   rw [e1,e2,e3]
   rfl
  have eg:af 2 (.int (k:Int)) [.own (bT A n k 0),.d (.int (d A k)),J2,J3,J4,J5,J6]=some [.own (bT A n k 0),.d (.int (d A k)),.d (.int k),J3,J4,J5,J6]:=rfl
  rw [er,fb,eg,Tr.of_some,Tr.ret_bind,fy,e1,Tr.ret_bind,eE,e2]
theorem Zob {A:Nat->Nat->Int} {n:Nat} (h:SvOk A n):n6 [.own ((List.range n).map λi=>.list (((List.range (n+1)).map λj=>A i j).map PyData.int))]=.ret (.d (.tuple [.list (((List.range n).map λi=>M A n i (col A n)).map PyData.int),.int (d A n)])):=by
 have n9:=h.n9
 have e0:((List.range n).map λi=>PyData.list (((List.range (n+1)).map λj=>A i j).map PyData.int))=bT A n 0 0:=by
  unfold bT
  refine v4 λi _=>?_
  rw [if_neg (by omega)]
  unfold cf
  congr 2
  refine v4 λj _=>?_
  rw [Zrv]
  rfl
 obtain ⟨K2,K3,K4,K5,K6,e⟩:=sv4 h n 0 .un .un .un .un .un (by omega)
 rw [pb] at e
 have hl:(bT A n 0 0).length=n:=gE A n 0 0
 have r1:dQ [.int (n:Int)]=.ret ((aG ((0:Nat):Int) n).map PyData.int):=by
  rw [gP (eD (by omega) (by omega))]
  unfold aN
  have:((n:Int) - 0).toNat=n:=by omega
  rw [this]
  rfl
 have hs:small (bT A n n 0).length=true:=b7 (by rw [gE]; omega)
 have em:br (bL (af 0) lj [.un]) (bT A n n 0)=.ret (((List.range n).map λi=>M A n i (col A n)).map PyData.int):=by
  have key:∀ l:List Nat,(∀ i∈l,i < n)->br (bL (af 0) lj [.un]) (l.map λi=>if i < 0 then cf A n (n+1) i else cf A n n i)=.ret ((l.map λi=>M A n i (col A n)).map PyData.int):=by
   intro l
   induction l with
   | nil=>intro _; rfl
   | cons i l ih =>
    intro hi
    have ih':=ih λq hq=>hi q (ve _ hq)
    have hix:aS ao (cf A n n i) (.int (-1))=.ret (.int (M A n i (col A n))):=by
     unfold cf
     have hl:(((List.range (n+1)).map λj=>M A n i (col A j)).map PyData.int).length=n+1:=by rw [vd,vd,v9]
     have ha:bw (((List.range (n+1)).map λj=>M A n i (col A j)).map PyData.int) (-1)=some (.int (M A n i (col A n))):=by
      unfold bw cR
      rw [hl,if_neg (by omega),if_pos (by omega)]
      have:(-1+((n+1:Nat):Int)).toNat=n:=by omega
      simp only [Option.bind_some,this]
      rw [vg,vg,vF (by omega)]
      rfl
     rw [ma,ha]
     rfl
    have e1:bL (af 0) lj [.un] (cf A n n i)=.ret (.int (M A n i (col A n))):=by
     simp_arith only [lj,hix]
    rw [vC,if_neg (by omega),br,e1,Tr.ret_bind,ih']
    rfl
  exact key _ λi hi=>v7.mp hi
 rw [e0]
 simp_arith only [n6,hl,r1,e,hs,em]
end My
set_option Elab.async false
set_option linter.all false
set_option maxRecDepth 100000
set_option exponentiation.threshold 9000
namespace My
open L2 Tw Bar
noncomputable def iT (s:Shp) (one:zf) (y:Int) (j:Nat):Int:=ws (λf=>if (s.nx y f+s.depth).toNat=j then 1 else 0) 0 one
noncomputable def cB (s:Shp) (one:zf) (x y:Int):Int:=one.sum * s.ord x y+s.wg one y (λ_=>0) 1
noncomputable def bY (s:Shp) (one:zf) (lv:Nat->Int) (n i j:Nat):Int:=if j=n then cB s one ((i:Int) - s.depth) (lv i) else if j=0 then one.sum else (if i=j then one.sum else 0) - iT s one (lv i) j
noncomputable def bF (n:Nat) (r:Nat->Int):ze:=((List.range n).map r).map PyData.int
theorem jP (n:Nat) (r:Nat->Int):(bF n r).length=n:=by unfold bF; rw [vd,vd,v9]
theorem lg {n:Nat} {r:Nat->Int} {j:Nat} (h:j < n):(bF n r)[j]?=some (.int (r j)):=by
 unfold bF
 rw [vg,vg,vF h]
 rfl
theorem rB {n:Nat} {r:Nat->Int} {j:Nat} (h:j < n) (v:Int):(bF n r).set j (.int v)=bF n λq=>if q=j then v else r q:=by
 refine wT λq=>?_
 rw [List.getElem?_set,jP]
 by_cases e:j=q
 ·subst e
  rw [if_pos rfl,if_pos h,lg h,if_pos rfl]
 ·rw [if_neg e]
  by_cases hq:q < n
  ·rw [lg hq,lg hq,if_neg (by omega)]
  ·rw [vY (by rw [jP]; omega),vY (by rw [jP]; omega)]
theorem rC {n:Nat} {r r':Nat->Int} (h:∀ j,j < n->r j=r' j):bF n r=bF n r':=by
 unfold bF
 congr 1
 exact v4 λj hj=>h j (v7.mp hj)
theorem Zhs {s:Shp} (h:s.Ok) {y:Int} (y1:-s.depth<=y) (y2:y<=s.top) (O X7 X8:Sl) (x:Sl):∀ (l:zf) (k:Nat) (r:Nat->Int) (J5 J6:Sl),∃ K5 K6:Sl,bX (bd (am (af 5) (am (af 6) bc))) oK (enu k l) [.d s.d,O,x,.d (.int y),.own (bF s.n r),J5,J6,X7,X8]=.ret (.next [.d s.d,O,x,.d (.int y),.own (bF s.n λj=>r j - ws (λf=>if (s.nx y f+s.depth).toNat=j then 1 else 0) k l),K5,K6,X7,X8])
 | [],k,r,J5,J6=>⟨J5,J6,by
  have e:bF s.n (λj=>r j - ws (λf=>if (s.nx y f+s.depth).toNat=j then 1 else 0) k [])=bF s.n r:=rC λj _=>by rw [ws,Int.sub_zero]
  rw [e]
  rfl⟩
 | w::l,k,r,J5,J6=>by
  have n1:=eV s y k
  have n2:=eU h y2 (show (0:Int)<=k by omega)
  have hn:=h.n_eq
  have hj:(s.nx y k+s.depth).toNat < s.n:=by omega
  obtain ⟨K5,K6,e⟩:=Zhs h y1 y2 O X7 X8 x l (k+1) (λj=>if j=(s.nx y k+s.depth).toNat then r (s.nx y k+s.depth).toNat - w else r j) (.d (.int k)) (.d (.int w))
  refine ⟨K5,K6,?_⟩
  have e1:=tX s y k
  have ha:=Zhd (g:=λi j=>i - j) (k:=4) (i:=aa 6) (ρ:=[.d s.d,O,x,.d (.int y),.own (bF s.n r),.d (.int k),.d (.int w),X7,X8]) (xs:=bF s.n r) (y:=s.nx y k+s.depth) (a:=r (s.nx y k+s.depth).toNat) (by omega) (lg hj)
  have et:oK [.d s.d,O,x,.d (.int y),.own (bF s.n r),.d (.int k),.d (.int w),X7,X8]=.ret (.next [.d s.d,O,x,.d (.int y),.own (bF s.n λj=>if j=(s.nx y k+s.depth).toNat then r (s.nx y k+s.depth).toNat - w else r j),.d (.int k),.d (.int w),X7,X8]):=by
   unfold oK
   rw [ZgV (xs:=bF s.n r) rfl]
   have en:(ac ba (aB (aw i6 (ad (aa 0) (ad (aa 3) (ad (aa 5) au))))) (ac ao (aa 0) (aC (.int 1)))) [.d s.d,O,x,.d (.int y),.own (bF s.n r),.d (.int k),.d (.int w),X7,X8]=.ret (.int (s.nx y k+s.depth)):=by
    simp_arith [e1]
   rw [en,Tr.ret_bind,ha,Zhc]
   have ew:aa 6 [.d s.d,O,x,.d (.int y),.own (bF s.n r),.d (.int k),.d (.int w),X7,X8]=.ret (.int w):=rfl
   rw [ew,Tr.ret_bind,Zhb,rB hj]
   rfl
  have eg:(bd (am (af 5) (am (af 6) bc))) (.tuple [.int (k:Int),.int w]) [.d s.d,O,x,.d (.int y),.own (bF s.n r),J5,J6,X7,X8]=some [.d s.d,O,x,.d (.int y),.own (bF s.n r),.d (.int k),.d (.int w),X7,X8]:=rfl
  have er:(bF s.n λj=>(if j=(s.nx y k+s.depth).toNat then r (s.nx y k+s.depth).toNat - w else r j) - ws (λf=>if (s.nx y f+s.depth).toNat=j then 1 else 0) (k+1) l)=bF s.n λj=>r j - ws (λf=>if (s.nx y f+s.depth).toNat=j then 1 else 0) k (w::l):=rC λj hj=>by
   rw [ws]
   by_cases q:j=(s.nx y k+s.depth).toNat
   ·subst q
    rw [if_pos rfl,if_pos rfl]
    omega
   ·rw [if_neg q,if_neg (λe=>q e.symm)]
    omega
  rw [enu,fb,eg,Tr.of_some,Tr.ret_bind,fy,et,Tr.ret_bind,eE,e,er]
theorem Zon {s:Shp} (h:s.Ok) {one:zf} (hd:DayB one) {i:Nat} (hi:i < s.n) {lv:Nat->Int} (y0:(i:Int) - s.depth<=lv i) (y2:lv i<=s.top) :
  oA [.d s.d,.d (tI one),.d (.int ((i:Int) - s.depth)),.d (.int (lv i))]=.ret (.d (.list (((List.range (s.n+1)).map λj=>bY s one lv s.n i j).map PyData.int))):=by
 have hn:=h.n_eq
 have t0:=h.t0
 have d0:=h.d0
 have td:=h.td
 have y1:-s.depth<=lv i:=by omega
 have hrep:mf jT (.list [.int 0]) (.int (s.top+s.depth+1))=.ret (bF s.n λ_=>0):=by
  rw [Zk3 (by simp; omega)]
  have e1:(s.top+s.depth+1).toNat=s.n:=by omega
  rw [e1]
  unfold bF
  congr 1
  generalize s.n=m
  induction m with
  | zero=>rfl
  | succ m ih=>rw [List.replicate_succ',List.flatten_append,ih,xx,wC,wC]; rfl
 have ei:(i:Int) - s.depth+s.depth=(i:Int):=by omega
 have ea:jt (λi j=>i+j) 4 (ac ba (aa 2) (ac ao (aa 0) (aC (.int 1)))) (bo cH (ag (aa 1) ay)) [.d s.d,.d (tI one),.d (.int ((i:Int) - s.depth)),.d (.int (lv i)),.own (bF s.n λ_=>0),.un,.un,.un,.un]=.ret (.next [.d s.d,.d (tI one),.d (.int ((i:Int) - s.depth)),.d (.int (lv i)),.own (bF s.n λj=>if j=i then one.sum else 0),.un,.un,.un,.un]):=by
  rw [ZgV (xs:=bF s.n λ_=>0) rfl]
  have en:(ac ba (aa 2) (ac ao (aa 0) (aC (.int 1)))) [.d s.d,.d (tI one),.d (.int ((i:Int) - s.depth)),.d (.int (lv i)),.own (bF s.n λ_=>0),.un,.un,.un,.un]=.ret (.int (i:Int)):=by
   simp_arith only [ei]
  rw [en,Tr.ret_bind,Zhd (a:=0) (by omega) (by rw [v3]; exact lg hi),Zhc]
  have ew:(bo cH (ag (aa 1) ay)) [.d s.d,.d (tI one),.d (.int ((i:Int) - s.depth)),.d (.int (lv i)),.own (bF s.n λ_=>0),.un,.un,.un,.un]=.ret (.int one.sum):=by
   simp_arith only [fq]
  rw [ew,Tr.ret_bind,Zhb,v3,rB hi,ye]
  rfl
 obtain ⟨K5,K6,eL⟩:=Zhs h y1 y2 (.d (tI one)) .un .un (.d (.int ((i:Int) - s.depth))) one 0 (λj=>if j=i then one.sum else 0) .un .un
 have ee:dJ (one.map PyData.int)=enu 0 one:=tU one
 generalize hr:(λj=>(if j=i then one.sum else 0) - ws (λf=>if (s.nx (lv i) f+s.depth).toNat=j then 1 else 0) 0 one)=r at *
 have hx:cR (bF s.n r).length 0=some 0:=by
  unfold cR
  rw [jP,if_pos (by omega),if_pos (by omega)]
  rfl
 have hmul:aS aX (.list [.int 0]) (.int (s.n:Int))=.ret (lI (s.row λ_=>0)):=by
  have hsm:small ([PyData.int 0].length * (s.n:Int).toNat)=true:=b7 (by rw [v3]; show 1 * _<=_; omega)
  have hc:(decide (-(2 ^ 63)<=(s.n:Int)) && decide ((s.n:Int) < 2 ^ 63) && small ([PyData.int 0].length * (s.n:Int).toNat))=true:=by
   rw [hsm,decide_eq_true (show -(2 ^ 63)<=(s.n:Int) by omega),decide_eq_true (show (s.n:Int) < 2 ^ 63 by omega)]
   rfl
  have ef:(List.replicate s.n [PyData.int 0]).flatten=(s.row λ_=>0).map PyData.int:=by
   unfold Shp.row aG
   rw [vH,vH]
   generalize s.n=m
   induction m with
   | zero=>rfl
   | succ m ih=>rw [List.replicate_succ',List.flatten_append,ih,xx,wC]; rfl
  have em:aX (.list [.int 0]) (.int (s.n:Int))=some (lI (s.row λ_=>0)):=by
   rw [aX,if_pos hc,v3,ef]
   rfl
  unfold aS
  rw [em]
  rfl
 have hz:Bd s 1 λ_=>0:=λx _ _=>by show (0:Int).natAbs < 2 ^ 1; decide
 have ew:=o7 h hd y1 y2 (hz) (sc:=1) (b:=1) (by show (1:Int).natAbs < 2 ^ 1; decide) (by decide)
 have eo:=tW h (dF h (show -s.depth<=(i:Int) - s.depth by omega) (by omega)) (dF h y1 y2)
 have g1:=aq (cq hd) (by decide)
 have g2:=aq (jX h (dF h (show -s.depth<=(i:Int) - s.depth by omega) (by omega)) (dF h y1 y2)) (by decide)
 have hl4:∀ q:Nat->Int,(bF s.n q).length=s.n:=jP s.n
 have hset:(bF s.n r).set 0 (.int one.sum)=bF s.n λq=>if q=0 then one.sum else r q:=rB (by omega) _
 have hs:small ((bF s.n λq=>if q=0 then one.sum else r q).length+[PyData.int (cB s one ((i:Int) - s.depth) (lv i))].length)=true:=b7 (by rw [jP]; show _+1<=_; omega)
 have hfin:(bF s.n λq=>if q=0 then one.sum else r q)++[PyData.int (cB s one ((i:Int) - s.depth) (lv i))]=((List.range (s.n+1)).map λj=>bY s one lv s.n i j).map PyData.int:=by
  rw [xx,wC,wC]
  have e1:(bF s.n λq=>if q=0 then one.sum else r q)=((List.range s.n).map λj=>bY s one lv s.n i j).map PyData.int:=rC λj hj=>by
   unfold bY
   rw [if_neg (show ¬ j=s.n by omega)]
   by_cases e:j=0
   ·rw [if_pos e,if_pos e]
   ·rw [if_neg e,if_neg e,<- hr]
    unfold iT
    dsimp only
    by_cases e2:j=i
    ·rw [if_pos e2,if_pos e2.symm]
    ·rw [if_neg e2,if_neg (λq=>e2 q.symm)]
  have e2:([s.n].map λj=>bY s one lv s.n i j).map PyData.int=[PyData.int (cB s one ((i:Int) - s.depth) (lv i))]:=by
   unfold bY
   simp
  rw [e1,e2]
 have hadd:aS ba (.list (bF s.n λq=>if q=0 then one.sum else r q)) (.list [PyData.int (cB s one ((i:Int) - s.depth) (lv i))])=.ret (.list (((List.range (s.n+1)).map λj=>bY s one lv s.n i j).map PyData.int)):=by rw [md hs,hfin]
 unfold cB at hadd
 simp_arith only [oA,Zn4,Zn3,hrep,ea,oO,ee,eL,fq,tS hx,hset,hl4,hmul,eo,ew,g1,g2,hadd]
end My
set_option Elab.async false
set_option linter.all false
set_option maxRecDepth 100000
set_option exponentiation.threshold 9000
namespace My
open L2 Tw Bar
theorem mP {f:Int->Int}:∀ {l:zf} {k:Nat},(∀ w∈l,0<=w)->(∀ x:Int,0<=f x)->0<=ws f k l
 | [],k,_,_=>by rw [ws]; exact vN _
 | w::l,k,h0,hf=>by
  have a:=mP (f:=f) (l:=l) (k:=k+1) (λv hv=>h0 v (ve _ hv)) hf
  have b:=wA (h0 w (by simp)) (hf k)
  rw [ws]
  omega
theorem qq {f:Int->Int}:∀ {l:zf} {k:Nat},(∀ w∈l,0<=w)->(∀ x:Int,0<=f x)->∀ {x:Int},x∈eQ k l->0 < f x->0 < ws f k l
 | [],k,_,_,x,hx,_=>by cases hx
 | w::l,k,h0,hf,x,hx,hp=>by
  have h0':∀ v∈l,0<=v:=λv hv=>h0 v (ve _ hv)
  have a:=mP (f:=f) (l:=l) (k:=k+1) h0' hf
  have b:=wA (h0 w (by simp)) (hf k)
  rw [ws]
  rw [eQ] at hx
  by_cases hw:w > 0
  ·rw [if_pos hw] at hx
   rcases vJ.mp hx with rfl | hx
   ·have:=vQ hw hp
    omega
   ·have:=qq h0' hf hx hp
    omega
  ·rw [if_neg hw] at hx
   have:=qq h0' hf hx hp
   omega
theorem Zkd {g:Nat} {n:Nat} (h:g < n) (w:Int):Bar.ap (λj=>w * (if g=j then 1 else 0)) n=w:=by
 have key:∀ m:Nat,Bar.ap (λj=>w * (if g=j then 1 else 0)) m=if g < m then w else 0:=by
  intro m
  induction m with
  | zero=>rfl
  | succ m ih =>
   rw [Bar.ap,ih]
   by_cases e:g=m
   ·subst e
    rw [if_neg (by omega),if_pos rfl,if_pos (by omega)]
    omega
   ·rw [if_neg e]
    by_cases e2:g < m
    ·rw [if_pos e2,if_pos (by omega)]
     omega
    ·rw [if_neg e2,if_neg (by omega)]
     omega
 rw [key,if_pos h]
theorem qL (f g:Nat->Int):∀ n:Nat,Bar.ap (λj=>f j+g j) n=Bar.ap f n+Bar.ap g n
 | 0=>rfl
 | n+1=>by rw [Bar.ap,Bar.ap,Bar.ap,qL f g n]; omega
theorem ZaG {n:Nat} {ix:Int->Nat} (h:∀ x:Int,0<=x->ix x < n):∀ (l:zf) (k:Nat),Bar.ap (λj=>ws (λf=>if ix f=j then 1 else 0) k l) n=l.sum
 | [],k=>by
  rw [kR λj _=>by rw [ws]]
  rfl
 | w::l,k=>by
  have ih:=ZaG h l (k+1)
  have e:(λj=>ws (λf=>if ix f=j then 1 else 0) k (w::l))=λj=>w * (if ix (k:Int)=j then 1 else 0)+ws (λf=>if ix f=j then 1 else 0) (k+1) l:=funext λj=>by rw [ws]
  rw [e,qL,Zkd (h k (by omega)),ih,w8]
structure RuOk (s:Shp) (one:zf) (lv:Nat->Int):Prop where
 h:s.Ok
 n9:s.n<=9
 hd:DayB one
 gr:s.top+s.depth<=great one
 ps:∃ w∈one,w > 0
 lo:∀ i,i < s.n->(i:Int) - s.depth<=lv i
 hi:∀ i,i < s.n->lv i<=s.top
theorem lu {s:Shp} {one:zf} {lv:Nat->Int} (r:RuOk s one lv):Pol s.n (bY s one lv s.n) (λi j=>iT s one (lv i) j) one.sum:=by
 have h:=r.h
 have hn:=h.n_eq
 have t0:=h.t0
 have d0:=h.d0
 refine ⟨r.hd.pos,λi hi=>?_,λi j hi j1 j2=>?_,λi j _ _=>?_,λi hi=>?_,λi hi=>?_⟩
 ·unfold bY
  rw [if_neg (by omega),if_pos rfl]
 ·unfold bY
  rw [if_neg (by omega),if_neg (by omega)]
 ·exact mP r.hd.w0 λx=>by split <;> omega
 ·have y2:=r.hi i hi
  have y1:=r.lo i hi
  have hg:=(nZ (qN (k:=0) r.ps)).1
  refine qq r.hd.w0 (λx=>by split <;> omega) (x:=great one) hg ?_
  have gr:=r.gr
  have en:s.nx (lv i) (great one)=-s.depth:=by unfold Shp.nx bR; split <;> omega
  rw [en,if_pos (by omega)]
  decide
 ·exact ZaG (ix:=λf=>(s.nx (lv i) f+s.depth).toNat) (λx hx=>by
   have n1:=eV s (lv i) x
   have n2:=eU h (r.hi i hi) hx
   omega) one 0
theorem Zqh {s:Shp} {one:zf} {lv:Nat->Int} (r:RuOk s one lv) {i:Nat} (hi:i < s.n):nb 160 (cB s one ((i:Int) - s.depth) (lv i)):=by
 have h:=r.h
 have hn:=h.n_eq
 have t0:=h.t0
 have d0:=h.d0
 have y2:=r.hi i hi
 have y1:=r.lo i hi
 have a1:=bf (cq r.hd) (jX h (dF h (show -s.depth<=(i:Int) - s.depth by omega) (show (i:Int) - s.depth<=s.top by omega)) (dF h (show -s.depth<=lv i by omega) y2))
 have a2:nb (30+110+one.length) (s.wg one (lv i) (λ_=>0) 1):=by
  unfold Shp.wg
  refine qp (a:=30) (b:=110) r.hd.nb λx x1 x2=>?_
  have hl:=r.hd.len
  have:=kz h (dF h (show -s.depth<=lv i by omega) y2) (show nb 40 x from bJ (by show -1099511627776 < _; omega) (by show _ < 1099511627776; omega))
  rw [yE,yx]
  exact aD this (by decide)
 unfold cB
 exact aD (cU a1 a2) (by have:=r.hd.len; omega)
theorem ku {s:Shp} {one:zf} {lv:Nat->Int} (r:RuOk s one lv) {i j:Nat} (hi:i < s.n):nb 160 (bY s one lv s.n i j):=by
 unfold bY
 split
 ·exact Zqh r hi
 ·split
  ·exact aD (cq r.hd) (by decide)
  ·have h1:nb 46 (if i=j then one.sum else 0):=by
    split
    ·exact cq r.hd
    ·exact j0 _
   have h2:nb (30+1+one.length) (iT s one (lv i) j):=Zae (a:=30) (b:=1) (λx _=>by
    split
    ·show (1:Int).natAbs < 2 ^ 1; decide
    ·exact j0 _) r.hd.nb
   exact aD (eW h1 h2) (by have:=r.hd.len; omega)
theorem Zj9 {s:Shp} {one:zf} {lv:Nat->Int} (r:RuOk s one lv):SvOk (bY s one lv s.n) s.n:=by
 have p:=lu r
 refine ⟨r.n9,λj hj=>leads p j hj,λk i j hk hi hj=>?_,λj hj=>?_⟩
 ·exact aD (Zi3 (b:=160) r.n9 (λi j hi _=>ku r hi) hk hi λq hq=>ku r hq) (by decide)
 ·exact aD (pf (b:=160) r.n9 (λi j hi _=>ku r hi) hj) (by decide)
end My
set_option Elab.async false
set_option linter.all false
set_option maxRecDepth 100000
set_option exponentiation.threshold 9000
namespace My
open L2 Tw Bar
noncomputable def zB (s:Shp) (one:zf) (lv:Nat->Int) (i:Nat):Int:=M (bY s one lv s.n) s.n i (col (bY s one lv s.n) s.n)
noncomputable def aW (s:Shp) (one:zf) (lv:Nat->Int):Int:=d (bY s one lv s.n) s.n
noncomputable def wB (s:Shp) (one:zf) (lv:Nat->Int) (x:Int):Int:=if x=-s.depth then 0 else zB s one lv (x+s.depth).toNat
theorem Zpv (xs:ze):L2.gw xs (some 1) none=xs.drop 1:=by
 unfold L2.gw
 have e1:(1:Int)=((1:Nat):Int):=rfl
 rw [e1,HT.ZbK,HT.ZkR]
 cases xs with
 | nil=>rfl
 | cons x xs =>
  rw [x8 (by simp),List.take_of_length_le (by rw [wK]; exact vo _)]
theorem Zjh {s:Shp} (h:s.Ok) (one:zf) (lv:Nat->Int):PyData.int 0::(((List.range s.n).map (zB s one lv)).map PyData.int).drop 1=(s.row (wB s one lv)).map PyData.int:=by
 have hn:=h.n_eq
 have t0:=h.t0
 have d0:=h.d0
 unfold Shp.row aG
 rw [vH,vH,vH]
 refine wT λq=>?_
 rw [vg]
 cases q with
 | zero =>
  rw [vF (by omega)]
  show some (PyData.int 0)=some (PyData.int (wB s one lv (-s.depth+((0:Nat):Int))))
  unfold wB
  rw [if_pos (by omega)]
 | succ q =>
  rw [xT,List.getElem?_drop,vg,xC 1 q]
  by_cases hq:q+1 < s.n
  ·rw [vF hq]
   show some (PyData.int (zB s one lv (q+1)))=some (PyData.int (wB s one lv (-s.depth+((q+1:Nat):Int))))
   unfold wB
   have e:(-s.depth+((q+1:Nat):Int)+s.depth).toNat=q+1:=by omega
   rw [if_neg (by omega),e]
  ·rw [vY (by rw [v9]; omega)]
   rfl
theorem Zmx {s:Shp} {one:zf} {lv:Nat->Int} (r:RuOk s one lv):br (bL (bd (am (af 0) (am (af 1) bc))) ln [.un,.un,.d s.d,.d (tI one)]) (bP (aN (-s.depth) (s.top+1)) (((List.range s.n).map lv).map PyData.int))=.ret ((List.range s.n).map λi=>.list (((List.range (s.n+1)).map λj=>bY s one lv s.n i j).map PyData.int)):=by
 have h:=r.h
 have hn:=h.n_eq
 have e1:bP (aN (-s.depth) (s.top+1)) (((List.range s.n).map lv).map PyData.int)=(List.range s.n).map λi:Nat=>PyData.tuple [.int ((i:Int) - s.depth),.int (lv i)]:=by
  unfold aN aG bP
  have e:(s.top+1 - -s.depth).toNat=s.n:=rfl
  rw [e,vH,vH]
  have key:∀ l:List Nat,((l.map (PyData.int ∘ λk:Nat=>-s.depth+(k:Int))).zip (l.map (PyData.int ∘ lv))).map (λp=>PyData.tuple [p.1,p.2])=l.map λi:Nat=>PyData.tuple [.int ((i:Int) - s.depth),.int (lv i)]:=by
   intro l
   induction l with
   | nil=>rfl
   | cons i l ih =>
    rw [vC,vC,yp,vC,vC,ih]
    have:-s.depth+(i:Int)=(i:Int) - s.depth:=by omega
    simp only [ym,this]
  exact key _
 rw [e1]
 have key:∀ l:List Nat,(∀ i∈l,i < s.n)->br (bL (bd (am (af 0) (am (af 1) bc))) ln [.un,.un,.d s.d,.d (tI one)]) (l.map λi:Nat=>PyData.tuple [.int ((i:Int) - s.depth),.int (lv i)])=.ret (l.map λi=>.list (((List.range (s.n+1)).map λj=>bY s one lv s.n i j).map PyData.int)):=by
  intro l
  induction l with
  | nil=>intro _; rfl
  | cons i l ih =>
   intro hl
   have hi:=hl i (by simp)
   have e:=Zon h r.hd hi (r.lo i hi) (r.hi i hi)
   have e0:bL (bd (am (af 0) (am (af 1) bc))) ln [.un,.un,.d s.d,.d (tI one)] (.tuple [.int ((i:Int) - s.depth),.int (lv i)])=.ret (.list (((List.range (s.n+1)).map λj=>bY s one lv s.n i j).map PyData.int)):=by
    simp_arith [ln,e]
   rw [vC,br,e0,Tr.ret_bind,ih λq hq=>hl q (ve _ hq)]
   rfl
 exact key _ λi hi=>v7.mp hi
theorem Zof {s:Shp} {one:zf} {lv:Nat->Int} (r:RuOk s one lv):lL [.d s.d,.d (tI one),.d (lI ((List.range s.n).map lv))]=.ret (.d (.tuple [.int (zB s one lv 0),lI (s.row (wB s one lv)),.int (aW s one lv)])):=by
 have h:=r.h
 have hn:=h.n_eq
 have t0:=h.t0
 have d0:=h.d0
 have n9:=r.n9
 have e1:=gQ h
 have em:=Zmx r
 have es:=Zob (Zj9 r)
 have it:∀ xs,cJ (.tuple xs)=.ret xs:=λ_=>rfl
 have hs:small (bP (aN (-s.depth) (s.top+1)) (((List.range s.n).map lv).map PyData.int)).length=true:=b7 (by
  unfold bP
  rw [vd,xz,cA]
  omega)
 have ew:=Zjh h one lv
 have ez:((List.range s.n).map λi=>M (bY s one lv s.n) s.n i (col (bY s one lv s.n) s.n)).map PyData.int=((List.range s.n).map (zB s one lv)).map PyData.int:=rfl
 rw [ez] at es
 have a0:aS ao (.list (((List.range s.n).map (zB s one lv)).map PyData.int)) (.int 0)=.ret (.int (zB s one lv 0)):=by
  rw [ma,fe (v:=.int (zB s one lv 0)) (by decide) (by rw [vg,vg]; show Option.map _ (Option.map _ ((List.range s.n)[0]?))=_; rw [vF (by omega)]; rfl)]
  rfl
 have a1:jJ (.list (((List.range s.n).map (zB s one lv)).map PyData.int)) (some 1) none=.ret (.list ((((List.range s.n).map (zB s one lv)).map PyData.int).drop 1)):=by
  rw [tR,Zpv]
 have a2:aS ba (.list [.int 0]) (.list ((((List.range s.n).map (zB s one lv)).map PyData.int).drop 1))=.ret (lI (s.row (wB s one lv))):=by
  rw [md (b7 (by rw [wK,vd,vd,v9]; show 1+_<=_; omega))]
  show Tr.ret (PyData.list (PyData.int 0::(((List.range s.n).map (zB s one lv)).map PyData.int).drop 1))=_
  rw [ew]
  rfl
 have ed:d (bY s one lv s.n) s.n=aW s one lv:=rfl
 rw [ed] at es
 generalize ((List.range s.n).map (zB s one lv)).map PyData.int=zs at *
 simp_arith only [lL,Zn1,Zn2,e1,it,ZdL,hs,em,es,a0,a1,a2]
end My
set_option Elab.async false
set_option linter.all false
set_option maxRecDepth 100000
set_option exponentiation.threshold 9000
namespace My
open L2 Tw Bar
theorem Zkc {g n:Nat} (h:g < n) (w:Int) (v:Nat->Int):Bar.ap (λj=>w * (if g=j then 1 else 0) * v j) n=w * v g:=by
 have key:∀ m:Nat,Bar.ap (λj=>w * (if g=j then 1 else 0) * v j) m=if g < m then w * v g else 0:=by
  intro m
  induction m with
  | zero=>rfl
  | succ m ih =>
   rw [Bar.ap,ih]
   by_cases e:g=m
   ·subst e
    rw [if_neg (by omega),if_pos rfl,if_pos (by omega),xU]
    omega
   ·rw [if_neg e]
    by_cases e2:g < m
    ·rw [if_pos e2,if_pos (by omega)]
     simp
    ·rw [if_neg e2,if_neg (by omega)]
     simp
 rw [key,if_pos h]
theorem ZaB {n:Nat} {ix:Int->Nat} (h:∀ x:Int,0<=x->ix x < n) (v:Nat->Int):∀ (l:zf) (k:Nat),Bar.ap (λj=>ws (λf=>if ix f=j then 1 else 0) k l * v j) n=ws (λf=>v (ix f)) k l
 | [],k=>by
  rw [kR λj _=>by rw [ws,Int.zero_mul]]
  rfl
 | w::l,k=>by
  have ih:=ZaB h v l (k+1)
  have e:(λj=>ws (λf=>if ix f=j then 1 else 0) k (w::l) * v j)=λj=>w * (if ix (k:Int)=j then 1 else 0) * v j+ws (λf=>if ix f=j then 1 else 0) (k+1) l * v j:=funext λj=>by rw [ws,yI]
  rw [e,qL,Zkc (h k (by omega)),ih]
  rfl
noncomputable def vB (s:Shp) (one:zf) (A:Int->Int) (D x y:Int):Int:=D * one.sum * s.ord x y+s.wg one y A D
theorem Zad (f g:Int->Int) (D:Int):∀ (l:zf) (k:Nat),ws (λx=>D * f x+g x) k l=D * ws (λx=>1 * f x+0) k l+ws g k l
 | [],k=>by simp [ws]
 | w::l,k=>by
  rw [ws,ws,ws,Zad f g D l (k+1)]
  grind
theorem rz {s:Shp} {one:zf} {lv:Nat->Int} (r:RuOk s one lv) (z:Nat->Int) (A:Int->Int) (hA:∀ x,-s.depth<=x->x<=s.top->A x=if (x+s.depth).toNat=0 then 0 else z (x+s.depth).toNat) (D:Int) {i:Nat} (hi:i < s.n) :
  Bar.ap (λl=>bY s one lv s.n i l * z l) s.n=one.sum * z 0+one.sum * A ((i:Int) - s.depth) - (vB s one A D ((i:Int) - s.depth) (lv i) - D * cB s one ((i:Int) - s.depth) (lv i)):=by
 have h:=r.h
 have hn:=h.n_eq
 have t0:=h.t0
 have d0:=h.d0
 obtain ⟨m,hm⟩:∃ m,s.n=m+1:=⟨s.n - 1,by omega⟩
 have e1:=fX (lu r) z hi (m:=m) (by omega)
 rw [<- hm] at e1
 rw [e1]
 have e2:(λl=>iT s one (lv i) l * (if l=0 then 0 else z l))=λl=>ws (λf=>if (s.nx (lv i) f+s.depth).toNat=l then 1 else 0) 0 one * (λl=>if l=0 then 0 else z l) l:=rfl
 rw [e2,ZaB (ix:=λf=>(s.nx (lv i) f+s.depth).toNat) (λx hx=>by
   have n1:=eV s (lv i) x
   have n2:=eU h (r.hi i hi) hx
   omega)]
 have e3:ws (λf=>(λl=>if l=0 then 0 else z l) (s.nx (lv i) f+s.depth).toNat) 0 one=ws (λf=>A (s.nx (lv i) f)) 0 one:=mO λf hf=>by
  have n1:=eV s (lv i) f
  have n2:=eU h (r.hi i hi) hf
  rw [hA _ n1 n2]
 rw [e3]
 have e4:A ((i:Int) - s.depth)=if i=0 then 0 else z i:=by
  rw [hA _ (by omega) (by omega)]
  have:((i:Int) - s.depth+s.depth).toNat=i:=by omega
  rw [this]
 have e5:(if 1<=i/\i<=m then one.sum * z i else 0)=one.sum * A ((i:Int) - s.depth):=by
  rw [e4]
  by_cases e:i=0
  ·rw [if_neg (by omega),if_pos e,wV]
  ·rw [if_pos (by omega),if_neg e]
 rw [e5]
 have e6:s.wg one (lv i) A D=D * s.wg one (lv i) (λ_=>0) 1+ws (λf=>A (s.nx (lv i) f)) 0 one:=Zad (λf=>s.day (lv i) f) (λf=>A (s.nx (lv i) f)) D one 0
 unfold vB cB
 rw [e6]
 grind
theorem mV {s:Shp} {one:zf} {A:Int->Int} {D x y:Int} (h:x<=y):vB s one A D x y=iy (s.sm one A D) (D * one.sum * s.start) x y - D * one.sum * s.piece * x:=by
 unfold vB iy Shp.sm Shp.ord
 by_cases e:x < y
 ·rw [if_pos e,if_neg (by omega)]
  grind
 ·have:y=x:=by omega
  subst this
  rw [if_neg e,if_pos (by omega)]
  grind
end My
set_option Elab.async false
set_option linter.all false
set_option maxRecDepth 100000
set_option exponentiation.threshold 9000
namespace My
open L2 Tw Bar
noncomputable def gB (s:Shp) (one:zf) (lv:Nat->Int):Int->Int:=s.sm one (wB s one lv) (aW s one lv)
noncomputable def kB (s:Shp) (one:zf) (lv:Nat->Int):Int:=aW s one lv * one.sum * s.start
noncomputable def bu (s:Shp) (one:zf) (lv:Nat->Int) (i:Nat):Int:=if i < s.n then lvl (gB s one lv) s.top (kB s one lv) ((i:Int) - s.depth) else 0
theorem jZ {s:Shp} {one:zf} {lv:Nat->Int} {i:Nat} (hi:i < s.n):bu s one lv i=(pck (gB s one lv) s.top (kB s one lv) ((i:Int) - s.depth)).2:=if_pos hi
theorem fJ {s:Shp} {one:zf} {lv:Nat->Int} (r:RuOk s one lv):0 < aW s one lv:=leads (lu r) s.n (vo _)
theorem iX {s:Shp} {one:zf} {lv:Nat->Int} (r:RuOk s one lv):RuOk s one (bu s one lv):=by
 have hn:=r.h.n_eq
 refine ⟨r.h,r.n9,r.hd,r.gr,r.ps,λi hi=>?_,λi hi=>?_⟩
 ·rw [jZ hi]
  exact (ly (g:=gB s one lv) (top:=s.top) (K:=kB s one lv) (x:=(i:Int) - s.depth) (by omega)).1
 ·rw [jZ hi]
  exact (ly (g:=gB s one lv) (top:=s.top) (K:=kB s one lv) (x:=(i:Int) - s.depth) (by omega)).2.1
theorem nN {s:Shp} {one:zf} {lv:Nat->Int} (r:RuOk s one lv) {i:Nat} (hi:i < s.n):Bar.ap (λl=>bY s one lv s.n i l * zB s one lv l) s.n=aW s one lv * cB s one ((i:Int) - s.depth) (lv i):=by
 have:=Zry (bY s one lv s.n) hi (col (bY s one lv s.n) s.n)
 have e:col (bY s one lv s.n) s.n i=cB s one ((i:Int) - s.depth) (lv i):=by
  unfold col bY
  rw [if_pos rfl]
 rw [e] at this
 exact this
theorem kP {s:Shp} (one:zf) (lv:Nat->Int) (x:Int) (x1:-s.depth<=x) (x2:x<=s.top):wB s one lv x=if (x+s.depth).toNat=0 then 0 else zB s one lv (x+s.depth).toNat:=by
 unfold wB
 by_cases e:x=-s.depth
 ·rw [if_pos e,if_pos (by omega)]
 ·rw [if_neg e,if_neg (by omega)]
noncomputable def gC (s:Shp) (one:zf) (lv:Nat->Int) (i:Nat):Int:=iy (gB s one lv) (kB s one lv) ((i:Int) - s.depth) (lv i) - (pck (gB s one lv) s.top (kB s one lv) ((i:Int) - s.depth)).1
theorem ZaI {s:Shp} {one:zf} {lv:Nat->Int} (r:RuOk s one lv) {i:Nat} (hi:i < s.n):0<=gC s one lv i:=by
 have hn:=r.h.n_eq
 obtain ⟨p1,p2⟩:=sx (g:=gB s one lv) (top:=s.top) (K:=kB s one lv) (x:=(i:Int) - s.depth) (by omega)
 have y1:=r.lo i hi
 have y2:=r.hi i hi
 unfold gC iy
 split
 ·have:=p2 (lv i) (by omega) y2
  omega
 ·have:lv i=(i:Int) - s.depth:=by omega
  rw [this]
  omega
theorem ZhY {s:Shp} {one:zf} {lv:Nat->Int} (r:RuOk s one lv) {i:Nat} (hi:i < s.n):iy (gB s one lv) (kB s one lv) ((i:Int) - s.depth) (bu s one lv i)=(pck (gB s one lv) s.top (kB s one lv) ((i:Int) - s.depth)).1:=by
 have hn:=r.h.n_eq
 obtain ⟨q1,q2,q3⟩:=ly (g:=gB s one lv) (top:=s.top) (K:=kB s one lv) (x:=(i:Int) - s.depth) (by omega)
 rw [jZ hi]
 unfold iy
 rcases q3 with ⟨e1,e2⟩ | ⟨e1,e2,e3⟩
 ·rw [e1,if_neg (by omega),e2]
 ·rw [if_pos e1,e2]
theorem ZcR {s:Shp} {one:zf} {lv:Nat->Int} (r:RuOk s one lv) {i:Nat} (hi:i < s.n):Bar.ap (λl=>bY s one (bu s one lv) s.n i l * zB s one lv l) s.n=aW s one lv * cB s one ((i:Int) - s.depth) (bu s one lv i)+gC s one lv i:=by
 have hn:=r.h.n_eq
 have r':=iX r
 have a1:=rz r (zB s one lv) (wB s one lv) (kP one lv) (aW s one lv) hi
 have a2:=rz r' (zB s one lv) (wB s one lv) (kP one lv) (aW s one lv) hi
 rw [nN r hi] at a1
 rw [a2]
 have v1:=mV (s:=s) (one:=one) (A:=wB s one lv) (D:=aW s one lv) (r.lo i hi)
 have v2:=mV (s:=s) (one:=one) (A:=wB s one lv) (D:=aW s one lv) (r'.lo i hi)
 have c2:=ZhY r hi
 unfold gC
 unfold gB kB at *
 omega
theorem Zql {s:Shp} {one:zf} {lv:Nat->Int} (r:RuOk s one lv) (hs:∃ i,i < s.n/\0 < gC s one lv i):Bet s.n (zB s one lv) (aW s one lv) (zB s one (bu s one lv)) (aW s one (bu s one lv)):=by
 have hn:=r.h.n_eq
 have t0:=r.h.t0
 have d0:=r.h.d0
 exact better (lu (iX r)) (by omega) (fJ r) (fJ (iX r)) (b:=λi=>cB s one ((i:Int) - s.depth) (bu s one lv i)) (λi hi=>nN (iX r) hi) (λi hi=>ZaI r hi) (λi hi=>ZcR r hi) hs
theorem ZjF {s:Shp} {one:zf} {lv:Nat->Int} (r:RuOk s one lv) (hs:∀ i,i < s.n->gC s one lv i=0):∀ l,l < s.n->aW s one lv * zB s one (bu s one lv) l=aW s one (bu s one lv) * zB s one lv l:=by
 intro l hl
 have r':=iX r
 have:=sole (bY s one (bu s one lv) s.n) (k:=s.n) (λj hj=>wx (leads (lu r') j hj)) (z:=λl=>aW s one lv * zB s one (bu s one lv) l - aW s one (bu s one lv) * zB s one lv l) (λi hi=>by
  rw [gA,nN r' hi,ZcR r hi,hs i hi]
  grind) l hl
 have e:aW s one lv * zB s one (bu s one lv) l - aW s one (bu s one lv) * zB s one lv l=0:=this
 omega
theorem ZjG {s:Shp} {one:zf} {lv:Nat->Int} (r:RuOk s one lv) (hs:∀ i,i < s.n->gC s one lv i=0):∀ i,i < s.n->bu s one (bu s one lv) i=bu s one lv i:=by
 intro i hi
 have h:=r.h
 have hn:=h.n_eq
 have t:=ZjF r hs
 have p1:=fJ r
 have p2:=fJ (iX r)
 generalize hD:aW s one lv=D at *
 generalize hD':aW s one (bu s one lv)=D' at *
 have hw:∀ x,-s.depth<=x->x<=s.top->D * wB s one (bu s one lv) x=D' * wB s one lv x:=λx x1 x2=>by
  rw [kP one _ x x1 x2,kP one _ x x1 x2]
  split
  ·omega
  ·exact t _ (by omega)
 have hg:∀ y,-s.depth<=y->y<=s.top->D * gB s one (bu s one lv) y=D' * gB s one lv y:=λy y1 y2=>by
  unfold gB Shp.sm
  rw [hD,hD']
  have e1:D * s.wg one y (wB s one (bu s one lv)) D'=D' * s.wg one y (wB s one lv) D:=by
   unfold Shp.wg
   rw [<- fW,<- fW]
   refine mO λf hf=>?_
   have n1:=eV s y f
   have n2:=eU h y2 hf
   have:=hw _ n1 n2
   grind
  have e2:D * (D' * one.sum * s.piece * y+s.wg one y (wB s one (bu s one lv)) D')=D * (D' * one.sum * s.piece * y)+D * s.wg one y (wB s one (bu s one lv)) D':=by rw [wt]
  have e3:D' * (D * one.sum * s.piece * y+s.wg one y (wB s one lv) D)=D' * (D * one.sum * s.piece * y)+D' * s.wg one y (wB s one lv) D:=by rw [wt]
  rw [e2,e3,e1]
  grind
 have hk:D * kB s one (bu s one lv)=D' * kB s one lv:=by
  unfold kB
  rw [hD,hD']
  grind
 have m1:=ZcF (g:=gB s one (bu s one lv)) (top:=s.top) (K:=kB s one (bu s one lv)) (m:=D) (x:=(i:Int) - s.depth) p1 (by omega)
 have m2:=ZcF (g:=gB s one lv) (top:=s.top) (K:=kB s one lv) (m:=D') (x:=(i:Int) - s.depth) p2 (by omega)
 have m3:pck (λy=>D * gB s one (bu s one lv) y) s.top (D * kB s one (bu s one lv)) ((i:Int) - s.depth)=pck (λy=>D' * gB s one lv y) s.top (D' * kB s one lv) ((i:Int) - s.depth):=by
  rw [hk]
  exact ZlV (λy y1 y2=>hg y (by omega) y2) (by omega)
 rw [m1,m2] at m3
 have:=congrArg Prod.snd m3
 rw [jZ hi,jZ hi]
 exact this
end My
set_option Elab.async false
set_option linter.all false
set_option maxRecDepth 100000
set_option exponentiation.threshold 9000
namespace My
open L2 Tw Bar
noncomputable def offs:Nat->List (List Nat)
 | 0=>[[]]
 | m+1=>(List.range (m+1)).flatMap λc=>(offs m).map (c::·)
theorem Zmd {m:Nat} {f:Nat->Nat}:∀ {k:Nat},(∀ j,j < m->f (k+j) < m - j)->(List.range m).map (λj=>f (k+j))∈offs m:=by
 induction m with
 | zero=>intro k _; simp [offs]
 | succ m ih =>
  intro k h
  have h1:=ih (k:=k+1) λj hj=>by
   have:=h (j+1) (by omega)
   have e:k+(j+1)=k+1+j:=by omega
   rw [e] at this
   omega
  have e:(List.range (m+1)).map (λj=>f (k+j))=f k::(List.range m).map λj=>f (k+1+j):=by
   rw [List.range_succ_eq_map,vC,vH]
   refine congrArg _ (v4 λj _=>?_)
   show f (k+(j+1))=f (k+1+j)
   congr 1
   omega
  rw [e,offs]
  exact List.mem_flatMap.mpr ⟨f k,v7.mpr (by have:=h 0 (by omega); simpa using this),wv.mpr ⟨_,h1,rfl⟩⟩
theorem ij:∀ m:Nat,(offs (m+1)).length=(m+1) * (offs m).length:=λm=>by
 rw [offs,List.length_flatMap]
 have e:(List.range (m+1)).map (λa=>((offs m).map (a::·)).length)=List.replicate (m+1) (offs m).length:=by
  rw [List.eq_replicate_iff]
  refine ⟨by rw [vd,v9],λb hb=>?_⟩
  obtain ⟨c,_,rfl⟩:=wv.mp hb
  exact vd ..
 rw [e]
 simp
theorem Zme {m:Nat} (h:m<=8):(offs m).length<=40320:=by
 have e0:(offs 0).length=1:=rfl
 have e1:(offs 1).length=1 * (offs 0).length:=ij 0
 have e2:(offs 2).length=2 * (offs 1).length:=ij 1
 have e3:(offs 3).length=3 * (offs 2).length:=ij 2
 have e4:(offs 4).length=4 * (offs 3).length:=ij 3
 have e5:(offs 5).length=5 * (offs 4).length:=ij 4
 have e6:(offs 6).length=6 * (offs 5).length:=ij 5
 have e7:(offs 7).length=7 * (offs 6).length:=ij 6
 have e8:(offs 8).length=8 * (offs 7).length:=ij 7
 have:m=0\/m=1\/m=2\/m=3\/m=4\/m=5\/m=6\/m=7\/m=8:=by omega
 rcases this with rfl | rfl | rfl | rfl | rfl | rfl | rfl | rfl | rfl <;> omega
noncomputable def bI (s:Shp) (one:zf) (lv:Nat->Int):Nat->Nat->Int
 | 0=>lv
 | t+1=>bu s one (bI s one lv t)
theorem fw {s:Shp} {one:zf} {lv:Nat->Int} (r:RuOk s one lv):∀ t,RuOk s one (bI s one lv t)
 | 0=>r
 | t+1=>iX (fw r t)
def gZ (n:Nat) (lv:Nat->Int):Prop:=∀ i,n<=i->lv i=0
theorem kg {s:Shp} {one:zf} {lv:Nat->Int} (h:gZ s.n lv):∀ t,gZ s.n (bI s one lv t)
 | 0=>h
 | t+1=>λi hi=>by
  show bu s one (bI s one lv t) i=0
  unfold bu
  rw [if_neg (by omega)]
noncomputable def ik (s:Shp) (lv:Nat->Int):List Nat:=(List.range s.n).map λj=>(lv (0+j) - (((0+j:Nat):Int) - s.depth)).toNat
theorem Zmg {s:Shp} {one:zf} {lv:Nat->Int} (r:RuOk s one lv):ik s lv∈offs s.n:=by
 have hn:=r.h.n_eq
 have t0:=r.h.t0
 have d0:=r.h.d0
 refine Zmd (f:=λq=>(lv q - ((q:Int) - s.depth)).toNat) (k:=0) λj hj=>?_
 have a:=r.hi (0+j) (by omega)
 have b:=r.lo (0+j) (by omega)
 show (lv (0+j) - (((0+j:Nat):Int) - s.depth)).toNat < s.n - j
 omega
theorem Zmh {s:Shp} {one:zf} {lv lv':Nat->Int} (r:RuOk s one lv) (r':RuOk s one lv') (n1:gZ s.n lv) (n2:gZ s.n lv') (h:ik s lv=ik s lv'):lv=lv':=by
 funext i
 by_cases hi:i < s.n
 ·have e:=congrArg (λl=>l[i]?) h
  unfold ik at e
  simp only [vg,vF hi,Option.map_some,Option.some.injEq,Nat.zero_add] at e
  have a:=r.lo i hi
  have b:=r'.lo i hi
  omega
 ·rw [n1 i (by omega),n2 i (by omega)]
theorem ends {s:Shp} {one:zf} {lv:Nat->Int} (r:RuOk s one lv) (n0:gZ s.n lv) (n8:s.n<=8):∃ t,t<=40321/\bI s one lv (t+1)=bI s one lv t:=by
 apply xK
 intro hno
 have hne:∀ t,t<=40321->bI s one lv (t+1)≠bI s one lv t:=λt ht e=>hno ⟨t,ht,e⟩
 have strict:∀ t,t < 40321->Bet s.n (zB s one (bI s one lv t)) (aW s one (bI s one lv t)) (zB s one (bI s one lv (t+1))) (aW s one (bI s one lv (t+1))):=λt ht=>by
  apply Zql (fw r t)
  apply xK
  intro hn
  have all0:∀ i,i < s.n->gC s one (bI s one lv t) i=0:=λi hi=>by
   have a:=ZaI (fw r t) hi
   have:¬ 0 < gC s one (bI s one lv t) i:=λq=>hn ⟨i,hi,q⟩
   omega
  have tn:=ZjG (fw r t) all0
  apply hne (t+1) (by omega)
  funext i
  by_cases hi:i < s.n
  ·exact tn i hi
  ·rw [kg n0 (t+1+1) i (by omega),kg n0 (t+1) i (by omega)]
 have far:∀ (k t:Nat),t+k+1<=40321->Bet s.n (zB s one (bI s one lv t)) (aW s one (bI s one lv t)) (zB s one (bI s one lv (t+k+1))) (aW s one (bI s one lv (t+k+1))):=by
  intro k
  induction k with
  | zero=>intro t ht; exact strict t (by omega)
  | succ k ih =>
   intro t ht
   have a:=ih t (by omega)
   have b:=strict (t+k+1) (by omega)
   exact Bet.trans (fJ (fw r _)) (fJ (fw r _)) (fJ (fw r _)) a b
 have inj:∀ i j,i < j->j<=40321->ik s (bI s one lv i)≠ik s (bI s one lv j):=λi j hij hj e=>by
  have e2:=Zmh (fw r i) (fw r j) (kg n0 i) (kg n0 j) e
  have b:=far (j - i - 1) i (by omega)
  have ej:i+(j - i - 1)+1=j:=by omega
  rw [ej,<- e2] at b
  exact Bet.irrefl b
 have hnd:((List.range 40322).map λt=>ik s (bI s one lv t)).Nodup:=by
  rw [List.nodup_iff_pairwise_ne,List.pairwise_map]
  refine List.Pairwise.imp_of_mem (R:=λa b=>a < b) ?_ List.pairwise_lt_range
  intro a b ha hb hab
  have:=v7.mp hb
  exact inj a b hab (by omega)
 have hsub:∀ x∈(List.range 40322).map λt=>ik s (bI s one lv t),x∈offs s.n:=λx hx=>by
  obtain ⟨t,_,rfl⟩:=wv.mp hx
  exact Zmg (fw r t)
 have h1:=List.Nodup.length_le_of_subset hnd hsub
 rw [vd,v9] at h1
 have h2:=Zme n8
 omega
end My
set_option Elab.async false
set_option linter.all false
set_option maxRecDepth 100000
set_option exponentiation.threshold 9000
namespace My
open L2 Tw Bar
theorem Zhr:∀ a b:zf,PyData.eqvAll (a.map PyData.int) (b.map PyData.int)=decide (a=b)
 | [],[]=>rfl
 | [],_::_=>rfl
 | _::_,[]=>rfl
 | x::a,y::b=>by
  have ih:=Zhr a b
  rw [vC,vC,PyData.eqvAll,ih]
  by_cases e:x=y
  ·subst e
   by_cases e2:a=b
   ·subst e2; simp [PyData.eqv]
   ·simp [PyData.eqv,e2]
  ·simp [PyData.eqv,e]
theorem Zn5 (a b:zf):aS eG (lI a) (lI b)=.ret (.bool (decide (a=b))):=by
 unfold lI
 rw [Zn0 (Za2 a) (Za2 b),Zhr]
noncomputable def bK (s:Shp) (lv:Nat->Int):zf:=(List.range s.n).map lv
theorem Zac {s:Shp} {one:zf} {lv:Nat->Int} (r:RuOk s one lv) {i:Nat} (hi:i < s.n):nb 1702 (zB s one lv i):=by
 refine aD (Zi3 (b:=160) r.n9 (λi j hi _=>ku r hi) (vo _) hi λq hq=>ku r hq) (by decide)
theorem qw {s:Shp} {one:zf} {lv:Nat->Int} (r:RuOk s one lv):Bd s 1702 (wB s one lv):=λx x1 x2=>by
 have hn:=r.h.n_eq
 unfold wB
 split
 ·exact j0 _
 ·exact Zac r (by omega)
theorem k8 {s:Shp} {one:zf} {lv:Nat->Int} (r:RuOk s one lv):nb 1531 (aW s one lv):=aD (pf (b:=160) r.n9 (λi j hi _=>ku r hi) (vo _)) (by decide)
noncomputable def mX (s:Shp) (one:zf) (lv:Nat->Int):PyData:=.tuple [.int (zB s one lv 0),lI (s.row (wB s one lv)),.int (aW s one lv),lI (bK s lv)]
theorem Zdn {g:Int->Int} {top K P:Int}:∀ l:zf,br (bL (bd (am (af 0) (am (af 1) bc))) rZ [.un,.un]) (l.map (dq g top K P))=.ret ((l.map (lvl g top K)).map PyData.int)
 | []=>rfl
 | x::l=>by
  have e0:bL (bd (am (af 0) (am (af 1) bc))) rZ [.un,.un] (dq g top K P x)=.ret (.int (lvl g top K x)):=rfl
  rw [vC,br,e0,Tr.ret_bind,Zdn l]
  rfl
theorem Zqj {s:Shp} {one:zf} {lv:Nat->Int} (r:RuOk s one lv) (J3 J4 J5 J6 J7:Sl):∃ K3 K4 K5 K6 K7:Sl,l4 [.d s.d,.d (tI one),.d (lI (bK s lv)),J3,J4,J5,J6,J7]=if bK s (bu s one lv)=bK s lv then .ret (.ret (.d (mX s one lv))) else .ret (.next [.d s.d,.d (tI one),.d (lI (bK s (bu s one lv))),K3,K4,K5,K6,K7]):=by
 have h:=r.h
 have hn:=h.n_eq
 have td:=h.td
 have em:lL [.d s.d,.d (tI one),.d (lI (bK s lv))]=_:=Zof r
 have el:=Zhy h r.hd (qw r) (sc:=aW s one lv) (aD (k8 r) (by decide)) (by decide)
 have g1:=aq (k8 r) (by decide)
 have g2:=aq (cq r.hd) (by decide)
 have hsc:nb 1853 (aW s one lv * one.sum):=aD (bf (k8 r) (cq r.hd)) (by decide)
 have hg:Bd s 1853 (gB s one lv):=λx x1 x2=>aD (qO h r.hd (qw r) (aD (k8 r) (by decide)) x x1 x2) (by decide)
 have ec:j9 [.d s.d,.d (.list ((s.row (s.sm one (wB s one lv) (aW s one lv))).map PyData.int)),.d (.int (aW s one lv * one.sum))]=_:=ZhD h hg hsc (vG (vQ (fJ r) r.hd.pos)) (by decide)
 have hs:small ((aG (-s.depth) s.n).map (dq (gB s one lv) s.top (aW s one lv * one.sum * s.start) (aW s one lv * one.sum * s.piece))).length=true:=b7 (by rw [vd,fY]; omega)
 have lm:=Zdn (g:=gB s one lv) (top:=s.top) (K:=aW s one lv * one.sum * s.start) (P:=aW s one lv * one.sum * s.piece) (aG (-s.depth) s.n)
 have e7:((aG (-s.depth) s.n).map (lvl (gB s one lv) s.top (aW s one lv * one.sum * s.start)))=bK s (bu s one lv):=by
  unfold bK aG
  rw [vH]
  refine v4 λi hi=>?_
  have hi':=v7.mp hi
  rw [jZ hi']
  have:-s.depth+(i:Int)=(i:Int) - s.depth:=by omega
  simp only [ym,this]
  rfl
 rw [e7] at lm
 have eq:aS eG (.list ((bK s (bu s one lv)).map PyData.int)) (lI (bK s lv))=.ret (.bool (decide (bK s (bu s one lv)=bK s lv))):=Zn5 _ _
 by_cases e:bK s (bu s one lv)=bK s lv
 ·rw [decide_eq_true e] at eq
  refine ⟨.un,.un,.un,.un,.un,?_⟩
  rw [if_pos e]
  simp_arith [l4,em,el,fq,g1,g2,ec,hs,lm,eq]
  rfl
 ·rw [decide_eq_false e] at eq
  refine ⟨.d (.int (zB s one lv 0)),.d (lI (s.row (wB s one lv))),.d (.int (aW s one lv)),.d (.list ((aG (-s.depth) s.n).map (dq (gB s one lv) s.top (aW s one lv * one.sum * s.start) (aW s one lv * one.sum * s.piece)))),.d (.list ((bK s (bu s one lv)).map PyData.int)),?_⟩
  rw [if_neg e]
  simp_arith [l4,em,el,fq,g1,g2,ec,hs,lm,eq]
  rfl
end My
set_option Elab.async false
set_option linter.all false
set_option maxRecDepth 100000
set_option exponentiation.threshold 9000
namespace My
open L2 Tw Bar
theorem ZmQ {s:Shp} {lv lv':Nat->Int} (n1:gZ s.n lv) (n2:gZ s.n lv'):bK s lv=bK s lv' ↔ lv=lv':=by
 constructor
 ·intro h
  funext i
  by_cases hi:i < s.n
  ·have e:=congrArg (λl=>l[i]?) h
   unfold bK at e
   simpa only [vg,vF hi,Option.map_some,Option.some.injEq] using e
  ·rw [n1 i (by omega),n2 i (by omega)]
 ·intro h
  rw [h]
theorem Zip {s:Shp} {one:zf} {lv:Nat->Int} (r:RuOk s one lv) (n0:gZ s.n lv):∀ (m t fuel:Nat),bI s one lv (t+m+1)=bI s one lv (t+m)->m < fuel->∀ J3 J4 J5 J6 J7:Sl,∃ T,bI s one lv (T+1)=bI s one lv T/\c5 qv l4 fuel [.d s.d,.d (tI one),.d (lI (bK s (bI s one lv t))),J3,J4,J5,J6,J7]=.ret (.ret (.d (mX s one (bI s one lv T))))
 | m,t,0,_,hf,_,_,_,_,_=>by omega
 | m,t,fuel+1,he,hf,J3,J4,J5,J6,J7=>by
  obtain ⟨K3,K4,K5,K6,K7,e⟩:=Zqj (fw r t) J3 J4 J5 J6 J7
  have hp:qv [.d s.d,.d (tI one),.d (lI (bK s (bI s one lv t))),J3,J4,J5,J6,J7]=.ret true:=rfl
  by_cases hc:bK s (bu s one (bI s one lv t))=bK s (bI s one lv t)
  ·rw [if_pos hc] at e
   refine ⟨t,(ZmQ (kg n0 (t+1)) (kg n0 t)).mp hc,?_⟩
   rw [c5,hp,Tr.ret_bind,if_pos rfl,e,Tr.ret_bind]
  ·rw [if_neg hc] at e
   cases m with
   | zero =>
    exfalso
    apply hc
    have:bu s one (bI s one lv t)=bI s one lv t:=he
    rw [this]
   | succ m =>
    have he':bI s one lv (t+1+m+1)=bI s one lv (t+1+m):=by
     have e1:t+(m+1)=t+1+m:=by omega
     rw [e1] at he
     exact he
    obtain ⟨T,h1,h2⟩:=Zip r n0 m (t+1) fuel he' (by omega) K3 K4 K5 K6 K7
    refine ⟨T,h1,?_⟩
    rw [c5,hp,Tr.ret_bind,if_pos rfl,e,Tr.ret_bind]
    exact h2
noncomputable def gl (s:Shp) (i:Nat):Int:=if i < s.n then (i:Int) - s.depth else 0
theorem Zos {s:Shp} {one:zf} (h:s.Ok) (n8:s.n<=8) (hd:DayB one) (gr:s.top+s.depth<=great one) (ps:∃ w∈one,w > 0) :
  ∃ lv:Nat->Int,RuOk s one lv/\bu s one lv=lv/\oD [.d s.d,.d (tI one)]=.ret (.d (mX s one lv)):=by
 have hn:=h.n_eq
 have t0:=h.t0
 have d0:=h.d0
 have r:RuOk s one (gl s):=⟨h,by omega,hd,gr,ps,λi hi=>by unfold gl; rw [if_pos hi]; exact vN _,λi hi=>by unfold gl; rw [if_pos hi]; omega⟩
 have n0:gZ s.n (gl s):=λi hi=>by unfold gl; rw [if_neg (by omega)]
 obtain ⟨t,ht,he⟩:=ends r n0 n8
 obtain ⟨T,h1,h2⟩:=Zip r n0 t 0 100000 (by rw [Nat.zero_add]; exact he) (by omega) .un .un .un .un .un
 refine ⟨bI s one (gl s) T,fw r T,h1,?_⟩
 have e1:=gQ h
 have el:aN (-s.depth) (s.top+1)=(bK s (gl s)).map PyData.int:=by
  unfold aN bK aG
  have e:(s.top+1 - -s.depth).toNat=s.n:=rfl
  rw [e,vH,vH]
  refine v4 λi hi=>?_
  have hi':=v7.mp hi
  simp only [ym]
  unfold gl
  rw [if_pos hi']
  have:-s.depth+(i:Int)=(i:Int) - s.depth:=by omega
  rw [this]
 have elst:pi ka [.tuple (aN (-s.depth) (s.top+1))]=.ret (aN (-s.depth) (s.top+1)):=rfl
 have e2:bI s one (gl s) 0=gl s:=rfl
 rw [e2] at h2
 unfold lI at h2
 simp_arith [oD,e1,elst,el,h2]
end My
set_option Elab.async false
set_option linter.all false
set_option maxRecDepth 100000
set_option exponentiation.threshold 9000
namespace My
open L2 Tw
theorem tY {a b:Int} (hb:nb 8000 b):j8 [.d (.int a),.d (.int b)]=.ret (.d (.int (Nat.gcd a.natAbs b.natAbs:Nat))):=by
 have key:=euclid (p:=qu) (s:=tp) (E:=λa b=>[.d (.int a),.d (.int b)]) (λa b=>by
  simp_arith [qu]
  by_cases h:b=0
  ·subst h; rfl
  ·rw [decide_eq_true h]
   congr 1
   simp [h]) (λa b h=>by
  have h':(b:Int)≠0:=by omega
  simp_arith [tp,o0 h',Zeh]) 8000 83999 a.natAbs b.natAbs hb
 have e:2 * 8000+1+83999=100000:=rfl
 rw [e] at key
 simp_arith [j8,ZiV,key]
theorem kw {t b:Int} (h0:b≠0) (hb:nb 7000 b):gh [.d (.int t),.d (.int b)]=.ret (.d (cI t b)):=by
 have e:=tY (a:=t) (b:=b) (aD hb (by decide))
 have e0:(b == 0)=false:=beq_eq_false_iff_ne.mpr h0
 have hd:=Gc.me (t:=t) h0
 have hf:=aq (ZhQ (t:=t) hb h0) (by decide)
 unfold cI Gc.bU Gc.bQ
 by_cases hn:b < 0
 ·have ed:Gc.den t b=-((Nat.gcd t.natAbs b.natAbs:Nat):Int):=by unfold Gc.den Gc.iu; rw [if_pos hn]
  rw [ed] at hd hf ⊢
  simp_arith [gh,e0,e,decide_eq_true hn,kr hd hf]
 ·have ed:Gc.den t b=((Nat.gcd t.natAbs b.natAbs:Nat):Int):=by unfold Gc.den Gc.iu; rw [if_neg hn]
  rw [ed] at hd hf ⊢
  simp_arith [gh,e0,e,decide_eq_false hn,kr hd hf]
theorem ZhZ {g:Int->Int} {top K P:Int}:∀ l:zf,br (bL (bd (am (af 0) (am (af 1) bc))) nu [.un,.un]) (l.map (dq g top K P))=.ret ((l.map (cst g top K P)).map PyData.int)
 | []=>rfl
 | x::l=>by
  have ih:=ZhZ (g:=g) (top:=top) (K:=K) (P:=P) l
  have e0:bL (bd (am (af 0) (am (af 1) bc))) nu [.un,.un] (dq g top K P x)=.ret (.int (cst g top K P x)):=by
   simp_arith [nu,dq]
  rw [vC,br,e0,Tr.ret_bind,ih]
  rfl
theorem Zhv {g:Int->Int} {top K P B:Int} (hB:B≠0) (hn:nb 7000 B):∀ l:zf,br (bL (bd (am (af 0) (am (af 1) bc))) nw [.un,.un,.d (.int B)]) (l.map (dq g top K P))=.ret (l.map λx=>iw (cst g top K P x) B (lvl g top K x))
 | []=>rfl
 | x::l=>by
  have ih:=Zhv (g:=g) (top:=top) (K:=K) (P:=P) hB hn l
  have e0:bL (bd (am (af 0) (am (af 1) bc))) nw [.un,.un,.d (.int B)] (dq g top K P x)=.ret (iw (cst g top K P x) B (lvl g top K x)):=by
   have e2:=kw (t:=cst g top K P x) hB hn
   simp_arith [nw,dq,e2]
   rfl
  rw [vC,br,e0,Tr.ret_bind,ih]
  rfl
theorem Zok {s:Shp} (h:s.Ok) {fs:List zf} (hf:∀ l∈fs,DayB l) (hl:fs.length<=6):oh [.d s.d,.d (fD fs)]=.ret (.d (.tuple (s.tab fs))):=by
 have hsub:∀ k,∀ l∈fs.drop k,DayB l:=λk l hl=>hf l (yh hl)
 have hR:∀ k,Bd s 1900 (s.bk (fs.drop k)).1/\nb 1900 (s.bk (fs.drop k)).2:=λk=>by
  obtain ⟨h1,h2⟩:=uo h (hsub k)
  have:(fs.drop k).length<=6:=by rw [wK]; omega
  exact ⟨λx a b=>aD (h1 x a b) (by omega),aD h2 (by omega)⟩
 have hsc:∀ k,0 < (s.bk (fs.drop k)).2:=λk=>um (hsub k)
 apply mo
 simp_arith [oh,ZhA h,ZdM]
 refine eK (n:=0) (n':=0) (P:=λo=>∃ J3 J4 J5 J6 J7:Sl,o=.next [.d s.d,.d (fD fs),.own (s.tab fs).reverse,J3,J4,J5,J6,J7]) ?_ (by decide) ?_
 ·refine kG (n:=0) (λpre ρ=>∃ J5 J6 J7:Sl,ρ=[.d s.d,.d (fD fs),.own (s.tab (fs.drop (fs.length - pre.length))).reverse,.d (lI (s.row (s.bk (fs.drop (fs.length - pre.length))).1)),.d (.int (s.bk (fs.drop (fs.length - pre.length))).2),J5,J6,J7]) ⟨.un,.un,.un,?_⟩ (by simp) ?_ ?_
  ·rw [wG,Nat.sub_zero,wL]
   rfl
  ·rintro pre x post ρ e ⟨J5,J6,J7,rfl⟩
   obtain ⟨d,rfl,hpl,hdr⟩:=Zk2 e
   refine ⟨_,rfl,?_⟩
   have hdd:DayB d:=hsub (fs.length - (pre.length+1)) d (by rw [hdr]; simp)
   obtain ⟨k1,k2⟩:=hR (fs.length - pre.length)
   have k3:=hsc (fs.length - pre.length)
   have el:(pre++[tI d]).length=pre.length+1:=by simp
   rw [el,hdr]
   have htl:(s.tab (fs.drop (fs.length - pre.length))).reverse.length<=6:=by rw [wb,Zaq,wK]; omega
   generalize hR':fs.drop (fs.length - pre.length)=R at *
   have e1:=Zhy h hdd k1 k2 (by decide)
   have b1:=qO h hdd k1 k2
   have b2:=bf k2 (cq hdd)
   have f1:=aq k2 (by decide)
   have f2:=aq (cq hdd) (by decide)
   have hpos:=vQ k3 hdd.pos
   have e2:=ZhD h (b:=1900+151) b1 (aD b2 (by decide)) (vG hpos) (by decide)
   have hsm:small ((aG (-s.depth) s.n).map (dq (s.sm d (s.bk R).1 (s.bk R).2) s.top ((s.bk R).2 * d.sum * s.start) ((s.bk R).2 * d.sum * s.piece))).length=true:=b7 (by
    rw [vd,fY]
    have:=h.n_eq; have:=h.td; omega)
   have hsm2:small ((s.tab R).reverse.length+1)=true:=b7 (by omega)
   unfold lI at e1 e2
   simp_arith [ZdC,lI,e1,fq,f1,f2,e2,hsm,ZhZ,Zhv (wx hpos) (aD b2 (by decide)),hsm2]
   rw [Shp.tab,xq]
   exact cN ⟨_,rfl,_,_,_,rfl⟩
  ·rintro ρ ⟨J5,J6,J7,rfl⟩
   rw [wb,vd,Nat.sub_self,xG]
   exact Exists.intro _ (Exists.intro _ ⟨J5,J6,J7,rfl⟩)
 ·rintro _ ⟨J3,J4,J5,J6,J7,rfl⟩
  simp_arith [List.reverse_reverse]
  exact cN rfl
end My
set_option Elab.async false
set_option linter.all false
set_option maxRecDepth 100000
set_option exponentiation.threshold 9000
namespace My
open L2 Tw Bar
theorem ZmL {ls:zf} (h:∃ n∈ls,n > 0):bZ iZ [.list ((eQ 0 ls).map PyData.int)]=.ret (.int (great ls)):=ZmM _ (qN (k:=0) h)
theorem Za8:∀ (ns:zf) (k:Nat),fM (lZ (bd (am (af 0) (am (af 1) bc))) lz lp [.un,.un]) (enu k ns)=.ret ((eQ k ns).map PyData.int)
 | [],k=>rfl
 | n::ns,k=>by
  have ih:=Za8 ns (k+1)
  have e0:lZ (bd (am (af 0) (am (af 1) bc))) lz lp [.un,.un] (.tuple [.int k,.int n])=.ret (if n > 0 then some (.int k) else none):=by
   by_cases h:n > 0
   ·simp_arith [lz,lp,decide_eq_true h,if_pos h]
   ·simp_arith [lz,lp,decide_eq_false h,if_neg h]
  rw [enu,fM,e0,Tr.ret_bind,ih,Tr.ret_bind,eQ]
  unfold lK
  by_cases h:n > 0
  ·rw [if_pos h,if_pos h]; rfl
  ·rw [if_neg h,if_neg h]
theorem Zhz {ls:zf} (h:∃ n∈ls,n > 0) (hl:ls.length<=100):oz [.d (tI ls)]=.ret (.d (.int (great ls))):=by
 have hs:small (enu 0 ls).length=true:=b7 (by rw [tT]; omega)
 simp_arith [oz,oO,tU,hs,Za8,ZmL h]
noncomputable def drB (ρ:zl) (_:PyData):Tr Ou:=.ret (.next ρ)
theorem o5 {i:yZ} {ρ:zl}:pV i ρ=(i ρ).bind (drB ρ):=rfl
theorem o6 {ρ:zl} {x:PyData}:drB ρ x=.ret (.next ρ):=rfl
noncomputable def lW (s:Shp) (one:zf) (lv:Nat->Int):PyData:=.tuple [cI (zB s one lv 0) (aW s one lv),.tuple ((aG (-s.depth) s.n).map λx=>cI (wB s one lv x) (aW s one lv)),tI (bK s lv)]
theorem Zom {s:Shp} {one:zf} (h:s.Ok) (n8:s.n<=8) (hd:DayB one) (gr:s.top+s.depth<=great one) (ps:∃ w∈one,w > 0) :
  ∃ lv:Nat->Int,RuOk s one lv/\bu s one lv=lv/\lQ [.d s.d,.d (tI one)]=.ret (.d (lW s one lv)):=by
 obtain ⟨lv,r,hf,e⟩:=Zos h n8 hd gr ps
 refine ⟨lv,r,hf,?_⟩
 have eg:=Zhz ps (by have:=hd.len; omega)
 have ca:decide (great one < s.top+s.depth)=false:=decide_eq_false (by omega)
 have ea:i7 [.d s.d,.d (tI one)]=.ret (.d .none):=by
  simp_arith [i7,eg,ca]
 have sp:=fJ r
 have sn:nb 7000 (aW s one lv):=aD (k8 r) (by decide)
 have e1:=kw (t:=zB s one lv 0) (b:=aW s one lv) (by omega) sn
 have hs:small ((s.row (wB s one lv)).map PyData.int).length=true:=b7 (by rw [vd,iP]; omega)
 have em:∀ l:zf,br (bL (af 0) nA [.un,.d (.int (aW s one lv))]) (l.map PyData.int)=.ret (l.map λx=>cI x (aW s one lv)):=by
  intro l
  induction l with
  | nil=>rfl
  | cons x l ih =>
   have e0:bL (af 0) nA [.un,.d (.int (aW s one lv))] (.int x)=.ret (cI x (aW s one lv)):=by
    have e2:=kw (t:=x) (b:=aW s one lv) (by omega) sn
    simp_arith [nA,e2]
   rw [vC,br,e0,Tr.ret_bind,ih]
   rfl
 unfold mX at e
 simp_arith [lQ,o5,o6,ea,e,e1,ZdL,hs,em]
 unfold lW Shp.row tI
 rw [vH]
 rfl
end My
set_option Elab.async false
set_option linter.all false
set_option maxRecDepth 100000
set_option exponentiation.threshold 9000
namespace My
open L2 Tw Bar
theorem ZhF {s:Shp} {one:zf} {lv:Nat->Int} (r:RuOk s one lv) {i:Nat} (hi:i < s.n):one.sum * (zB s one lv 0+wB s one lv ((i:Int) - s.depth))=vB s one (wB s one lv) (aW s one lv) ((i:Int) - s.depth) (lv i):=by
 have a1:=rz r (zB s one lv) (wB s one lv) (kP one lv) (aW s one lv) hi
 rw [nN r hi] at a1
 rw [wt]
 omega
theorem Zou {s:Shp} {one:zf} {lv:Nat->Int} (r:RuOk s one lv) (hf:bu s one lv=lv) {i:Nat} (hi:i < s.n) {y:Int} (y1:(i:Int) - s.depth<=y) (y2:y<=s.top):vB s one (wB s one lv) (aW s one lv) ((i:Int) - s.depth) (lv i)<=vB s one (wB s one lv) (aW s one lv) ((i:Int) - s.depth) y:=by
 have hn:=r.h.n_eq
 rw [mV (r.lo i hi),mV y1]
 have c2:=ZhY r hi
 rw [hf] at c2
 obtain ⟨p1,p2⟩:=sx (g:=gB s one lv) (top:=s.top) (K:=kB s one lv) (x:=(i:Int) - s.depth) (by omega)
 have key:(pck (gB s one lv) s.top (kB s one lv) ((i:Int) - s.depth)).1<=iy (gB s one lv) (kB s one lv) ((i:Int) - s.depth) y:=by
  unfold iy
  split
  ·exact p2 y (by omega) y2
  ·have:y=(i:Int) - s.depth:=by omega
   rw [this]
   exact p1
 unfold gB kB at *
 omega
end My
set_option Elab.async false
set_option linter.all false
set_option maxRecDepth 100000
set_option exponentiation.threshold 9000
namespace My
open L2 Tw
theorem Zmk (s:Shp) (y f:Int):bR (y - f) (0 - s.depth)=s.nx y f:=by
 unfold Shp.nx
 have e:0 - s.depth=-s.depth:=by omega
 rw [e]
theorem Zoh {s:Shp} (h:s.Ok) {x y:Int} (x1:-s.depth<=x) (xy:x<=y) (y2:y<=s.top):lN [.d s.d,.d (.int x),.d (.int y)]=.ret (.d (.int (s.ord x y))):=by
 have:=h.t0
 have:=h.d0
 have:=h.td
 have g1:=aq h.start (by decide)
 have g2:=aq (show nb 20 (1:Int) from bJ (by decide) (by decide)) (by decide)
 have g3:=aq (show nb 20 (0:Int) from bJ (by decide) (by decide)) (by decide)
 have g4:=aq h.piece (by decide)
 have g5:=aq (show nb 20 (y - x) from bJ (by show -1048576 < _; omega) (by show _ < 1048576; omega)) (by decide)
 have g6:=aq (cU h.start (bf h.piece (show nb 20 (y - x) from bJ (by show -1048576 < _; omega) (by show _ < 1048576; omega)))) (by decide)
 unfold Shp.ord
 by_cases hp:y > x
 ·rw [if_neg (by omega)]
  simp_arith [lN,decide_eq_true hp,if_true,g1,g2,g4,g5,g6,xU]
 ·rw [if_pos (by omega)]
  have e:y - x=0:=by omega
  simp_arith [lN,decide_eq_false hp,g1,g3,g4,e,wV,xF,if_false,yx]
theorem Zog {t b:Int} (hb:0 < b) (nB:nb 7000 b):oj [.d (.int t),.d (.int b)]=.ret (.d (cI t b)):=by
 obtain ⟨z,rfl⟩:∃ z:Nat,b=(z:Int):=⟨b.toNat,by omega⟩
 have key:=euclid (p:=qt) (s:=tf) (E:=λa b'=>[.d (.int t),.d (.int z),.d (.int a),.d (.int b')]) (λa b=>by
  simp_arith [qt]
  by_cases h:b=0
  ·subst h; rfl
  ·rw [decide_eq_true h]
   congr 1
   simp
   omega) (λa b h=>by
  have h':(b:Int)≠0:=by omega
  simp_arith [tf,o0 h',Zeh]) 8000 83999 t.natAbs z (vA (show z < 2 ^ 7000 from by unfold nb at nB; rwa [Int.natAbs_natCast] at nB) (yg (by decide) (by decide)))
 have e:2 * 8000+1+83999=100000:=rfl
 rw [e] at key
 have hd:=Gc.me (t:=t) (b:=(z:Int)) (by omega)
 have hf:=aq (ZhQ (t:=t) nB (by omega)) (by decide)
 have ed:Gc.den t (z:Int)=((Nat.gcd t.natAbs z:Nat):Int):=by unfold Gc.den Gc.iu; rw [if_neg (by omega),Int.natAbs_natCast]
 unfold cI Gc.bU Gc.bQ
 rw [ed] at hd hf ⊢
 simp_arith [oj,ZiV,key,kr hd hf]
end My
set_option Elab.async false
set_option linter.all false
set_option maxRecDepth 100000
set_option exponentiation.threshold 9000
namespace My
open L2 Tw
theorem ZoE {s:Shp} (d0:0<=s.depth) (y f:Int):(if y - f > 0 then s.keep * (y - f) else s.lack * (0 - (y - f) - bR 0 (0 - s.depth - (y - f)))+s.lost * bR 0 (0 - s.depth - (y - f)))=s.day y f:=by
 unfold Shp.day Shp.nx
 generalize y - f=r
 by_cases h:r > 0
 ·have e:bR r (-s.depth)=r:=by unfold bR; split <;> omega
  rw [e,if_pos h,if_pos h,Int.sub_self,wV,yx]
 ·have e:bR r (-s.depth)=r+bR 0 (0 - s.depth - r):=by unfold bR; split <;> split <;> omega
  have h2:¬ bR r (-s.depth) > 0:=by unfold bR; split <;> omega
  rw [if_neg h,if_neg h2,e]
  generalize bR 0 (0 - s.depth - r)=z
  have e1:0 - r - z=-(r+z):=by omega
  have e2:r+z - r=z:=by omega
  rw [e1,e2]
theorem Zoi (s:Shp) (y f:Int):oo [.d s.d,.d (.int y),.d (.int f)]=.ret (.d (.int (s.nx y f))):=by
 simp_arith [oo,Zmk]
theorem Zol {s:Shp} (h:s.Ok) {y f:Int} (y1:-s.depth<=y) (y2:y<=s.top) (f0:0<=f) (f1:f<=16):lO [.d s.d,.d (.int y),.d (.int f)]=.ret (.d (.int (s.day y f))):=by
 have:=h.t0
 have d0:=h.d0
 have:=h.td
 have z1:0<=bR 0 (0 - s.depth - (y - f))/\bR 0 (0 - s.depth - (y - f))<=1000:=by unfold bR; split <;> omega
 have n1:nb 20 (y - f):=bJ (by show -1048576 < _; omega) (by show _ < 1048576; omega)
 have n2:nb 20 (bR 0 (0 - s.depth - (y - f))):=bJ (by show -1048576 < _; omega) (by show _ < 1048576; omega)
 have n3:nb 20 (0 - (y - f) - bR 0 (0 - s.depth - (y - f))):=bJ (by show -1048576 < _; omega) (by show _ < 1048576; omega)
 have g1:=aq h.keep (by decide)
 have g2:=aq h.lack (by decide)
 have g3:=aq h.lost (by decide)
 have g4:=aq n1 (by decide)
 have g5:=aq n2 (by decide)
 have g6:=aq n3 (by decide)
 rw [<- ZoE d0]
 by_cases hr:y - f > 0
 ·rw [if_pos hr]
  simp_arith [lO,decide_eq_true hr,g1,g4]
 ·rw [if_neg hr]
  simp_arith [lO,decide_eq_false hr,g2,g3,g5,g6]
noncomputable def shr (p:Int×Int):PyData:=.tuple [.int p.1,.int p.2]
structure IsSh (p:Int×Int):Prop where
 pos:0 < p.2
 one:Nat.gcd p.1.natAbs p.2.natAbs=1
noncomputable def kX (p:Int×Int):Bool:=decide (0 < p.2) && (Nat.gcd p.1.natAbs p.2.natAbs == 1)
theorem mZ (p:Int×Int):kX p=true ↔ IsSh p:=by
 unfold kX
 rw [vU,decide_eq_true_iff,beq_iff_eq]
 exact ⟨λ⟨a,b⟩=>⟨a,b⟩,λh=>⟨h.pos,h.one⟩⟩
theorem mW:((((2:Nat):Int)) == 2)=true:=rfl
theorem qF:((((3:Nat):Int)) == 3)=true:=rfl
noncomputable def dU (m:Int×Int) (ws:List (Int×Int)) (ls:zf):PyData:=.tuple [shr m,.tuple (ws.map shr),tI ls]
def fU (s:Shp) (ls:zf):Prop:=∀ i (h:i < ls.length),(i:Int) - s.depth<=ls[i]/\ls[i]<=s.top
def fmB (s:Shp) (ws:List (Int×Int)) (ls:zf) (i:Nat):Prop:=(∃ p,ws[i]?=some p/\kX p=true)/\∃ y,ls[i]?=some y/\(i:Int) - s.depth<=y/\y<=s.top
end My
set_option Elab.async false
set_option linter.all false
set_option maxRecDepth 100000
set_option exponentiation.threshold 9000
namespace My
open L2 Tw Bar
noncomputable def db:Int->List (Int×Int)->Int
 | D,[]=>D
 | D,p::ws=>db (D * p.2) ws
theorem uk:∀ {ws:List (Int×Int)} {D:Int},0 < D->(∀ p∈ws,0 < p.2)->0 < db D ws
 | [],D,h,_=>h
 | p::ws,D,h,hw=>by rw [db]; exact uk (vQ h (hw p (by simp))) λq hq=>hw q (ve _ hq)
theorem pA:∀ {ws:List (Int×Int)} {D:Int},D ∣ db D ws
 | [],D=>Int.dvd_refl _
 | p::ws,D=>by rw [db]; exact yr (Int.dvd_mul_right D p.2) pA
theorem ul:∀ {ws:List (Int×Int)} {D:Int} {p:Int×Int},p∈ws->p.2 ∣ db D ws
 | q::ws,D,p,h=>by
  rw [db]
  rcases vJ.mp h with rfl | h
  ·exact yr (Int.dvd_mul_left D p.2) pA
  ·exact ul h
theorem Zei {k:Nat} {D c:Int} (hD:0 < D) (hc:0 < c) (h:nb k D):nb k (D.fdiv c):=by
 have e:D.fdiv c=D / c:=wJ _ (vG hc)
 have e1:D / c<=D:=Int.ediv_le_self _ (vG hD)
 have e2:0<=D / c:=yH (vG hD) (vG hc)
 rw [e]
 unfold nb at *
 omega
noncomputable def ovr (D:Int) (p:Int×Int):Int:=p.1 * D.fdiv p.2
theorem lA {D:Int} {p:Int×Int} (hp:0 < p.2) (hd:p.2 ∣ D):ovr D p * p.2=p.1 * D:=by
 obtain ⟨q,rfl⟩:=hd
 unfold ovr
 rw [wJ _ (vG hp),xO _ (wx hp)]
 grind
def fF (s:Shp) (one:zf) (A:Int->Int) (D M x y:Int):Prop:=one.sum * (M+A x)=vB s one A D x y/\∀ z,x<=z->z<=s.top->one.sum * (M+A x)<=vB s one A D x z
end My
set_option Elab.async false
set_option linter.all false
set_option maxRecDepth 100000
set_option exponentiation.threshold 9000
namespace My
open L2 Tw Bar
noncomputable def bv (s:Shp) (l:zf) (x:Int):Int:=(l[(x+s.depth).toNat]?).getD 0
theorem np {s:Shp} (h:s.Ok) {l:zf} (hl:l.length=s.n):s.row (bv s l)=l:=by
 have hn:=h.n_eq
 apply wT
 intro i
 by_cases hi:i < s.n
 ·have e:=fX (s:=s) (f:=bv s l) (x:=(i:Int) - s.depth) (by omega) (by omega)
  have ei:((i:Int) - s.depth+s.depth).toNat=i:=by omega
  rw [ei] at e
  rw [e]
  unfold bv
  rw [ei,vx (by omega)]
  rfl
 ·rw [vY (by rw [iP]; omega),vY (by omega)]
theorem ZiF {s:Shp} {l:zf} {i:Nat} (hi:i < l.length):bv s l ((i:Int) - s.depth)=l[i]:=by
 unfold bv
 have ei:((i:Int) - s.depth+s.depth).toNat=i:=by omega
 rw [ei,vx hi]
 rfl
theorem Zqr {s:Shp} {l:zf} {b:Nat} (h:∀ v∈l,nb b v):Bd s b (bv s l):=λx _ _=>by
 unfold bv
 cases e:l[(x+s.depth).toNat]? with
 | none=>exact Nat.pow_pos (by decide)
 | some v=>exact h v (wu e)
noncomputable def i9 (s:Shp) (m:Int×Int) (ws:List (Int×Int)):Int->Int:=bv s (ws.map (ovr (db m.2 ws)))
structure LkP (s:Shp) (one:zf) (m:Int×Int) (ws:List (Int×Int)) (ls:zf):Prop where
 sm:IsSh m
 fm:∀ i,i < s.n->fmB s ws ls i
 lk:∀ i (h:i < ls.length),fF s one (i9 s m ws) (db m.2 ws) (ovr (db m.2 ws) m) ((i:Int) - s.depth) ls[i]
end My
set_option Elab.async false
set_option linter.all false
set_option maxRecDepth 100000
set_option exponentiation.threshold 9000
namespace My
open L2 Tw Bar
theorem Zjc {s:Shp} (h:s.Ok) {one:zf} {A B:Int->Int} {D D' c e:Int} (hD:c * D=e * D') (hA:∀ x,-s.depth<=x->x<=s.top->c * A x=e * B x) {y:Int} (y2:y<=s.top):c * s.wg one y A D=e * s.wg one y B D':=by
 unfold Shp.wg
 rw [<- fW,<- fW]
 refine mO λf hf=>?_
 have k:=hA _ (eV s y f) (eU h y2 hf)
 rw [wt,wt,k,<- yW,<- yW,hD]
theorem qA {s:Shp} (h:s.Ok) {one:zf} {A B:Int->Int} {D D' c e:Int} (hD:c * D=e * D') (hA:∀ x,-s.depth<=x->x<=s.top->c * A x=e * B x) {x y:Int} (y2:y<=s.top):c * vB s one A D x y=e * vB s one B D' x y:=by
 unfold vB
 rw [wt,wt,Zjc h hD hA y2]
 have e1:c * (D * one.sum * s.ord x y)=c * D * (one.sum * s.ord x y):=by grind
 have e2:e * (D' * one.sum * s.ord x y)=e * D' * (one.sum * s.ord x y):=by grind
 rw [e1,e2,hD]
theorem sQ {s:Shp} (h:s.Ok) {one:zf} {A B:Int->Int} {D D' c e M M':Int} (c0:0 < c) (e0:0 < e) (hD:c * D=e * D') (hM:c * M=e * M') (hA:∀ x,-s.depth<=x->x<=s.top->c * A x=e * B x) {x y:Int} (x1:-s.depth<=x) (x2:x<=s.top) (y2:y<=s.top) (k:fF s one B D' M' x y):fF s one A D M x y:=by
 obtain ⟨k1,k2⟩:=k
 have eq:c * (one.sum * (M+A x))=e * (one.sum * (M'+B x)):=by
  have:c * (one.sum * (M+A x))=one.sum * (c * M+c * A x):=by grind
  rw [this,hM,hA x x1 x2]
  grind
 refine ⟨xJ (wx c0) ?_,λz z1 z2=>xI ?_ c0⟩
 ·rw [eq,qA h hD hA y2,k1]
 ·rw [eq,qA h hD hA z2]
  exact vK (k2 z z1 z2) (vG e0)
theorem Zam {s:Shp} {one:zf} {A:Int->Int} {D x y t:Int}:vB s one (λz=>A z+t) D x y=vB s one A D x y+one.sum * t:=by
 unfold vB Shp.wg
 have e:∀ (l:zf) (k:Nat),ws (λf=>D * s.day y f+(A (s.nx y f)+t)) k l=ws (λf=>D * s.day y f+A (s.nx y f)) k l+l.sum * t:=by
  intro l
  induction l with
  | nil=>intro k; rw [ws,ws,List.sum_nil,Int.zero_mul,ye]
  | cons w l ih=>intro k; rw [ws,ws,ih,w8]; grind
 rw [e]
 omega
theorem ZmX {s:Shp} {one:zf} {A:Int->Int} {D M x y:Int} (t:Int) (k:fF s one A D M x y):fF s one (λz=>A z+t) D M x y:=by
 obtain ⟨k1,k2⟩:=k
 have e:one.sum * (M+(A x+t))=one.sum * (M+A x)+one.sum * t:=by grind
 refine ⟨?_,λz z1 z2=>?_⟩
 ·rw [e,Zam,k1]
 ·rw [e,Zam]
  have:=k2 z z1 z2
  omega
theorem ZmY {s:Shp} {one:zf} {lv:Nat->Int} (r:RuOk s one lv) (hf:bu s one lv=lv) {i:Nat} (hi:i < s.n):fF s one (wB s one lv) (aW s one lv) (zB s one lv 0) ((i:Int) - s.depth) (lv i):=by
 refine ⟨ZhF r hi,λz z1 z2=>?_⟩
 rw [ZhF r hi]
 exact Zou r hf hi z1 z2
theorem Zaf {f:Int->Int}:∀ {l:zf} {k:Nat},(∀ w∈l,0<=w)->(∀ x:Int,f x<=1)->ws f k l<=l.sum
 | [],k,_,_=>by rw [ws]; exact vN _
 | w::l,k,h0,hf=>by
  have ih:=Zaf (l:=l) (k:=k+1) (λv hv=>h0 v (ve _ hv)) hf
  have h1:=vK (hf k) (h0 w (by simp))
  rw [ws,w8]
  omega
theorem Zky {s:Shp} {one:zf} {lv:Nat->Int} (r:RuOk s one lv) (s13:nb 13 one.sum):nb 208 (aW s one lv):=by
 refine pf (b:=13) r.n9 (λi j hi hj=>?_) (vo _)
 have p0:0<=iT s one (lv i) j:=mP r.hd.w0 λx=>by split <;> decide
 have p1:iT s one (lv i) j<=one.sum:=Zaf r.hd.w0 λx=>by split <;> decide
 have sp:=r.hd.pos
 unfold bY
 rw [if_neg (by omega)]
 split
 ·exact s13
 ·unfold nb at *
  split <;> omega
noncomputable def cQ (t b:Int):Int×Int:=(Gc.bU t b,Gc.bQ t b)
theorem dH {t b:Int} (h:0 < b):IsSh (cQ t b):=by
 obtain ⟨_,_,a,b⟩:=Gc.lX (t:=t) (b:=b) (by omega)
 exact ⟨a,b⟩
theorem gq {t b:Int} (h:0 < b):(cQ t b).1 * b=t * (cQ t b).2:=by
 obtain ⟨e1,e2,_,_⟩:=Gc.lX (t:=t) (b:=b) (by omega)
 show Gc.bU t b * b=t * Gc.bQ t b
 generalize Gc.bU t b=p at *
 generalize Gc.bQ t b=q at *
 generalize Gc.den t b=g at *
 rw [e1,e2]
 grind
theorem ZcK {D t b:Int} (h:0 < b) (hd:(cQ t b).2 ∣ D):b * ovr D (cQ t b)=D * t:=by
 have e1:=lA (dH h).pos hd
 have e2:=gq (t:=t) h
 have p:=(dH (t:=t) h).pos
 refine wy (wx p) ?_
 have:b * ovr D (cQ t b) * (cQ t b).2=b * (ovr D (cQ t b) * (cQ t b).2):=by grind
 rw [this,e1]
 grind
theorem Zkr {t b u c:Int} (hb:0 < b) (hc:0 < c) (h:t * c=u * b):cI t b=cI u c:=by
 obtain ⟨a1,a2,a3,a4⟩:=Gc.lX (t:=t) (b:=b) (by omega)
 obtain ⟨b1,b2,b3,b4⟩:=Gc.lX (t:=u) (b:=c) (by omega)
 have hd:Gc.den t b≠0:=Gc.me (by omega)
 have he:Gc.den u c≠0:=Gc.me (by omega)
 obtain ⟨e1,e2⟩:=Gc.ZmT a3 b3 a4 b4 (by
  refine xJ (Int.mul_ne_zero hd he) ?_
  have q1:Gc.den t b * Gc.den u c * (Gc.bU t b * Gc.bQ u c)=(Gc.den t b * Gc.bU t b) * (Gc.den u c * Gc.bQ u c):=by grind
  have q2:Gc.den t b * Gc.den u c * (Gc.bU u c * Gc.bQ t b)=(Gc.den u c * Gc.bU u c) * (Gc.den t b * Gc.bQ t b):=by grind
  rw [q1,q2,<- a1,<- a2,<- b1,<- b2,h])
 unfold cI
 rw [e1,e2]
noncomputable def dP (s:Shp) (one:zf) (lv:Nat->Int):List (Int×Int):=(aG (-s.depth) s.n).map λx=>cQ (wB s one lv x) (aW s one lv)
theorem ZmS (s:Shp) (one:zf) (lv:Nat->Int):lW s one lv=dU (cQ (zB s one lv 0) (aW s one lv)) (dP s one lv) (bK s lv):=by
 unfold lW dU dP
 rw [vH]
 rfl
theorem Zkt (s:Shp) (one:zf) (lv:Nat->Int):(dP s one lv).length=s.n:=by unfold dP; rw [vd,fY]
theorem oE (s:Shp) (lv:Nat->Int):(bK s lv).length=s.n:=by unfold bK; rw [vd,v9]
theorem sO {s:Shp} {lv:Nat->Int} {i:Nat} (hi:i < (bK s lv).length):(bK s lv)[i]=lv i:=by
 have e:(bK s lv)[i]?=some (lv i):=by
  rw [oE] at hi
  unfold bK
  rw [vg,vF hi]
  rfl
 rw [vx hi] at e
 exact vX e
theorem Za6 {s:Shp} {one:zf} {lv:Nat->Int} {i:Nat} (hi:i < s.n):(dP s one lv)[i]?=some (cQ (wB s one lv ((i:Int) - s.depth)) (aW s one lv)):=by
 unfold dP aG
 rw [vH,vg,vF hi]
 have:-s.depth+(i:Int)=(i:Int) - s.depth:=by omega
 show some (cQ (wB s one lv (-s.depth+(i:Int))) _)=_
 rw [this]
theorem ZmZ {s:Shp} {one:zf} {lv:Nat->Int} (r:RuOk s one lv) (hf:bu s one lv=lv):LkP s one (cQ (zB s one lv 0) (aW s one lv)) (dP s one lv) (bK s lv):=by
 have sp:=fJ r
 have h:=r.h
 have hn:=h.n_eq
 refine ⟨dH sp,λi hi=>⟨⟨_,Za6 hi,(mZ _).mpr (dH sp)⟩,lv i,?_,r.lo i hi,r.hi i hi⟩,λi hi=>?_⟩
 ·have hi':i < (bK s lv).length:=by rw [oE]; exact hi
  rw [vx hi',sO hi']
 ·rw [sO hi]
  rw [oE] at hi
  have w0:∀ p∈dP s one lv,0 < p.2:=λp hp=>by
   unfold dP at hp
   obtain ⟨x,_,rfl⟩:=wv.mp hp
   exact (dH sp).pos
  refine sQ h sp (uk (dH sp).pos w0) (wD _ _) (ZcK sp pA) (λx x1 x2=>?_) (by omega) (by omega) (r.hi i hi) (ZmY r hf hi)
  have hk:(x+s.depth).toNat < s.n:=by omega
  have ex:(((x+s.depth).toNat:Nat):Int) - s.depth=x:=by omega
  have e1:=Za6 (one:=one) (lv:=lv) hk
  rw [ex] at e1
  unfold i9 bv
  rw [vg,e1]
  exact ZcK sp (ul (wu e1))
end My
set_option Elab.async false
set_option linter.all false
set_option maxRecDepth 100000
set_option exponentiation.threshold 9000
namespace My
open L2 Tw
theorem bM (n:Int):c8 [.pen,.d (.int n)]=.draw n λr=>.ret (.d (.int r)):=rfl
theorem ZkO:Al (om [.pen]) 3 λr=>∃ p:Int,r=.d (.int p)/\0<=p/\p<=1000000:=by
 simp_arith [om,bM]
 refine dC (n:=2) (by decide) (by decide) (by decide) λw w0 w1=>?_
 by_cases c:w < 4
 ·simp_arith [bM,decide_eq_true c]
  refine dC (n:=1) (by decide) (by decide) (by decide) λf f0 f1=>?_
  have g1:fit f=true:=aq (show nb 20 f from bJ (by show -1048576 < _; omega) (by show _ < 1048576; omega)) (by decide)
  have g2:fit (1:Int)=true:=aq (show nb 20 (1:Int) from bJ (by decide) (by decide)) (by decide)
  have g3:fit (0:Int)=true:=aq (show nb 20 (0:Int) from bJ (by decide) (by decide)) (by decide)
  by_cases c2:w > 0
  ·simp_arith [bM,decide_eq_true c2,if_true,g1,g2,xU]
   refine cN ?_
   exact ⟨f,rfl,by omega,by omega⟩
  ·simp_arith [bM,decide_eq_false c2,xF,if_false,g1,g3,wV]
   refine cN ?_
   exact ⟨0,rfl,by decide,by decide⟩
 ·simp_arith [bM,decide_eq_false c]
  refine dC (n:=1) (by decide) (by decide) (by decide) λa a0 a1=>?_
  try simp_arith [bM]
  refine dC (n:=0) (by decide) (by decide) (by decide) λb b0 b1=>?_
  obtain ⟨y,hy,y0,y1⟩:=sk (xs:=[PyData.int a,.int (1000000 - b)]) (lo:=0) (hi:=1000000) (r:=w - 4) (by simp [kj]; omega) (by omega) (by simp; omega)
  have e6:(10:Int) ^ Int.toNat 6=1000000:=rfl
  simp_arith [bM,e6,hy]
  exact cN ⟨y,rfl,y0,y1⟩
theorem ZkN {ns:zf} (hl:ns.length<=100) (A B C:Sl):Al (sZ [.pen,A,B,.own (ns.map PyData.int),C]) 3 λo=>∃ y:Int,o=.next [.pen,A,B,.own ((ns++[y]).map PyData.int),C]/\0<=y/\y<=1000:=by
 have hs:small ((ns.map PyData.int).length+1)=true:=b7 (by rw [vd]; omega)
 simp_arith [sZ,bM]
 refine dC (n:=2) (by decide) (by decide) (by decide) λa a0 a1=>?_
 try simp_arith [bM]
 refine dC (n:=1) (by decide) (by decide) (by decide) λb b0 b1=>?_
 try simp_arith [bM]
 refine dC (n:=0) (by decide) (by decide) (by decide) λw w0 w1=>?_
 obtain ⟨y,hy,y0,y1⟩:=sk (xs:=[PyData.int 0,.int 1,.int a,.int b]) (lo:=0) (hi:=1000) (by simp [kj]; omega) w0 w1
 simp_arith [bM,hy,hs]
 have em:ns.map PyData.int++[PyData.int y]=(ns++[y]).map PyData.int:=by rw [wC]; rfl
 rw [em]
 exact cN ⟨y,rfl,y0,y1⟩
structure WtAt (many k:Nat) (ls:zf):Prop where
 len:ls.length=many
 le:∀ n∈ls,0<=n/\n<=1000
 at':∃ v,ls[k]?=some v/\1<=v
theorem ZkM {many k:Nat} (m1:many<=20) (hk:k < many):Al (oi [.pen,.d (.int many),.d (.int k)]) (3 * many) λr=>∃ ls:zf,r=.d (tI ls)/\WtAt many k ls:=by
 have r1:dQ [.int (many:Int)]=.ret (aN 0 many):=gP (eD (by omega) (by omega))
 simp_arith only [oi,bM,r1]
 refine eK (n:=3 * many) (n':=0) (P:=λo=>∃ (ns:zf) (C:Sl),o=.next [.pen,.d (.int many),.d (.int k),.own (ns.map PyData.int),C]/\ns.length=many/\∀ n∈ns,0<=n/\n<=1000) ?_ (by omega) ?_
 ·refine kG (n:=3) (λpre ρ=>∃ (ns:zf) (C:Sl),ρ=[.pen,.d (.int many),.d (.int k),.own (ns.map PyData.int),C]/\ns.length=pre.length/\∀ n∈ns,0<=n/\n<=1000) ⟨[],_,rfl,rfl,λ_ q=>by cases q⟩ (by rw [cA]; omega) ?_ ?_
  ·rintro pre x post ρ e ⟨ns,C,rfl,hl,hn⟩
   obtain ⟨rfl,hpre⟩:=rE e
   refine ⟨_,rfl,ZiS (ZkN (by omega) _ _ _) (vo _) ?_⟩
   rintro _ ⟨y,rfl,y0,y1⟩
   refine ⟨_,rfl,ns++[y],_,rfl,by simp [hl],λn hn'=>?_⟩
   rcases wS.mp hn' with hq | hq
   ·exact hn n hq
   ·simp at hq
    subst hq
    exact ⟨y0,y1⟩
  ·rintro ρ ⟨ns,C,rfl,hl,hn⟩
   rw [cA] at hl
   exact ⟨ns,C,rfl,by omega,hn⟩
 ·rintro _ ⟨ns,C,rfl,hl,hn⟩
  have hkl:k < ns.length:=by omega
  have hi:cR (ns.map PyData.int).length (k:Int)=some k:=by
   rw [vd]
   unfold cR
   rw [if_pos (by omega),if_pos (by omega)]
   congr 1
  have hat:bw (ns.map PyData.int) (k:Int)=some (.int ns[k]):=fe (by omega) (by rw [vg,show ((k:Int)).toNat=k by omega,vx hkl]; rfl)
  have hv:=hn ns[k] (ww hkl)
  have es:(ns.map PyData.int).set k (.int (bR 1 ns[k]))=(ns.set k (bR 1 ns[k])).map PyData.int:=List.map_set.symm
  have hm:1<=bR 1 ns[k]/\bR 1 ns[k]<=1000:=by unfold bR; split <;> omega
  simp_arith only [bM,hat,tS hi,es]
  refine cN ⟨ns.set k (bR 1 ns[k]),rfl,by rw [wc,hl],λn hn'=>?_,bR 1 ns[k],by rw [vO hkl],hm.1⟩
  rcases List.mem_or_eq_of_mem_set hn' with q | q
  ·exact hn n q
  ·subst q; omega
structure Cs (s:Shp) (one:zf):Prop where
 dr:s.Dr
 td:s.top+s.depth<=7
 len:one.length<=8
 le:∀ n∈one,0<=n/\n<=1000
 big:∃ (k:Nat) (v:Int),s.top+s.depth<=k/\one[k]?=some v/\1<=v
theorem ZaL:∀ {ns:zf} {k i:Nat} {v:Int},ns[i]?=some v->0 < v->((k+i:Nat):Int)∈eQ k ns
 | [],k,i,v,h,_=>by simp at h
 | n::ns,k,0,v,h,hv=>by
  simp at h
  subst h
  rw [eQ,if_pos hv]
  exact wq ..
 | n::ns,k,i+1,v,h,hv=>by
  have ih:=ZaL (ns:=ns) (k:=k+1) (i:=i) (by simpa using h) hv
  have e:k+1+i=k+(i+1):=by omega
  rw [e] at ih
  rw [eQ]
  split
  ·exact ve _ ih
  ·exact ih
theorem ZnD {one:zf} {k:Nat} {v:Int} (h:one[k]?=some v) (hv:1<=v):(k:Int)<=great one:=by
 have hm:=ZaL (k:=0) h (by omega)
 rw [Nat.zero_add] at hm
 exact (nZ (List.ne_nil_of_mem hm)).2 _ hm
theorem ZaF {c:Int}:∀ {l:zf},(∀ n∈l,0<=n/\n<=c)->0<=l.sum/\l.sum<=c * l.length
 | [],_=>by simp
 | n::l,h=>by
  have ih:=ZaF (l:=l) λv hv=>h v (ve _ hv)
  have h1:=h n (by simp)
  rw [w8,vp,yF,wt]
  simp only [Int.natCast_one,xU]
  omega
theorem Cs.gr {s:Shp} {one:zf} (h:Cs s one):s.top+s.depth<=great one:=by
 obtain ⟨k,v,h1,h2,h3⟩:=h.big
 exact yf h1 (ZnD h2 h3)
theorem Cs.ps {s:Shp} {one:zf} (h:Cs s one):∃ w∈one,w > 0:=by
 obtain ⟨k,v,h1,h2,h3⟩:=h.big
 exact ⟨v,wu h2,by omega⟩
theorem Cs.ok {s:Shp} {one:zf} (h:Cs s one):DayOk 8 one:=⟨h.len,h.ps,λn hn=>by have:=h.le n hn; omega⟩
theorem Cs.B {s:Shp} {one:zf} (h:Cs s one):DayB one:=h.ok.B (by decide)
theorem Cs.n8 {s:Shp} {one:zf} (h:Cs s one):s.n<=8:=by have:=h.td; have:=h.dr.ok.n_eq; omega
theorem Cs.s13 {s:Shp} {one:zf} (h:Cs s one):nb 13 one.sum:=by
 obtain ⟨a,b⟩:=ZaF h.le
 have:=h.len
 exact bJ (by show -8192 < _; omega) (by show _ < 8192; omega)
theorem WtAt.cs {s:Shp} {many k:Nat} {ls:zf} (h:WtAt many k ls) (hs:s.Dr) (t7:s.top+s.depth<=7) (hk:s.top+s.depth<=k) (m8:many<=8):Cs s ls:=by
 obtain ⟨v,h1,h2⟩:=h.at'
 exact ⟨hs,t7,by rw [h.len]; exact m8,h.le,k,v,hk,h1,h2⟩
theorem ZkQ {few:Int} (f0:0<=few) (f1:few<=7):Al (oq [.pen,.d (.int few)]) 60 λr=>∃ (s:Shp) (one:zf),r=.d (.tuple [s.d,tI one])/\Cs s one:=by
 have r1:dQ [.int 7]=.ret (aN 0 7):=gP rfl
 have hs:small (aN 0 7).length=true:=b7 (by rw [cA]; decide)
 simp_arith [oq,bM]
 refine dC (n:=59) (by decide) (by decide) (by decide) λt t0 t1=>?_
 obtain ⟨y,hy,y0,y1⟩:=sk (xs:=[PyData.int 8,.int (few+1)]) (lo:=1) (hi:=8) (r:=if decide (t > 0)=true then 1 else 0) (by simp [kj]; omega) (by split <;> omega) (by simp; split <;> omega)
 simp_arith [bM,hy]
 refine dC (n:=58) (by omega) (by omega) (by decide) λpc p0 p1=>?_
 try simp_arith [bM]
 refine dC (n:=57) (by omega) (by omega) (by decide) λd d0 d1=>?_
 simp_arith [bM,r1,hs]
 refine eK (n:=21) (n':=36) (ZqB (n:=3) (P:=kj 0 1000000) (Q:=λys=>∃ ps:zf,ys=ps.map PyData.int/\ps.length=7/\∀ p∈ps,0<=p/\p<=1000000) (by rw [cA]; decide) (λx hx=>?_) λys hl hys=>?_) (by decide) ?_
 ·simp_arith [Zcq,bM]
  refine eK (n:=3) (n':=0) ZkO (by decide) ?_
  rintro _ ⟨p,rfl,p0,p1⟩
  simp_arith [bM]
  exact cN ⟨p,rfl,p0,p1⟩
 ·obtain ⟨ps,rfl,hp⟩:=ZdR hys
  rw [vd,cA] at hl
  exact ⟨ps,rfl,hl,hp⟩
 ·rintro _ ⟨ps,rfl,hpl,hp⟩
  obtain ⟨a1,a2,a3,a4,a5,a6,a7,rfl⟩:=Zm1 hpl
  simp_arith [bM]
  refine dC (n:=35) (by omega) (by omega) (by decide) λq q0 q1=>?_
  try simp_arith [bM]
  refine dC (n:=34) (by omega) (by omega) (by decide) λu u0 u1=>?_
  obtain ⟨many,em⟩:∃ many:Nat,pc+1+q=(many:Int):=⟨(pc+1+q).toNat,by omega⟩
  obtain ⟨k,ek⟩:∃ k:Nat,pc+u=(k:Int):=⟨(pc+u).toNat,by omega⟩
  rw [em] at u1
  simp_arith [bM,em,ek]
  refine eK (n:=3 * many) (n':=0) (ZkM (by omega) (by omega)) (by omega) ?_
  rintro _ ⟨ls,rfl,hls⟩
  simp_arith [bM]
  have hd:(Shp.mk (pc - d) d a1 a2 a3 a4 a5 a6 a7).Dr:=⟨by show 0<=pc - d; omega,d0,by show pc - d+d<=39; omega,hp⟩
  exact cN ⟨⟨pc - d,d,a1,a2,a3,a4,a5,a6,a7⟩,ls,by rw [<- ZaS],hls.cs hd (by show pc - d+d<=7; omega) (by show pc - d+d<=_; omega) (by omega)⟩
end My
set_option Elab.async false
set_option linter.all false
set_option maxRecDepth 100000
set_option exponentiation.threshold 9000
namespace My
open L2 Tw Bar
structure Lst (s:Shp) (one:zf) (lv:Nat->Int):Prop where
 r:RuOk s one lv
 st:bu s one lv=lv
 e:lQ [.d s.d,.d (tI one)]=.ret (.d (lW s one lv))
theorem Cs.lst {s:Shp} {one:zf} (h:Cs s one):∃ lv,Lst s one lv:=by
 obtain ⟨lv,r,hf,e⟩:=Zom h.dr.ok h.n8 h.B h.gr h.ps
 exact ⟨lv,r,hf,e⟩
end My
set_option Elab.async false
set_option linter.all false
set_option maxRecDepth 100000
set_option exponentiation.threshold 9000
namespace My
open L2 Tw
noncomputable def e9:PyData->Bool
 | .int _=>true
 | _=>false
noncomputable def fG (x:PyData) (a b:Int):Bool:=match x with
 | .int n=>decide (a<=n) && decide (n<=b)
 | _=>false
noncomputable def i8 (top:Int):Int->List PyData->Bool
 | _,[]=>true
 | lo,y::ys=>fG y lo top && i8 top (lo+1) ys
noncomputable def lB (s:Shp):PyData->Bool
 | .tuple ys=>((ys.length:Int) == s.top+s.depth+1) && i8 s.top (-s.depth) ys
 | _=>false
theorem ZdF (s:Shp) (ys:ze):lB s (.tuple ys)=(((ys.length:Int) == s.top+s.depth+1) && i8 s.top (-s.depth) ys):=rfl
theorem oQ {x:PyData} (h:∀ xs,x≠.tuple xs):ki "tuple" (hW x)=false:=by
 cases x with
 | tuple xs=>exact absurd rfl (h xs)
 | none=>rfl
 | bool _=>rfl
 | int _=>rfl
 | str _=>rfl
 | list _=>rfl
 | dict _=>rfl
theorem eZ (xs:ze):ki "tuple" (hW (.tuple xs))=true:=rfl
theorem gO (x:PyData):j6 [.d x]=.ret (.d (.bool (e9 x))):=by
 cases x <;> (simp_arith [j6]; rfl)
theorem ZnH (x:PyData) (a b:Int):gj [.d x,.d (.int a),.d (.int b)]=.ret (.d (.bool (fG x a b))):=by
 cases x with
 | int n =>
  have e:=gO (.int n)
  simp_arith [gj,e,e9,fG]
  cases h1:decide (a<=n) <;> cases h2:decide (n<=b) <;> simp_arith [h1,h2,xl,wW,Bool.and_true,yQ]
 | none=>have e:=gO .none; simp_arith [gj,e,e9,fG]
 | bool c=>have e:=gO (.bool c); simp_arith [gj,e,e9,fG]
 | str c=>have e:=gO (.str c); simp_arith [gj,e,e9,fG]
 | list c=>have e:=gO (.list c); simp_arith [gj,e,e9,fG]
 | tuple c=>have e:=gO (.tuple c); simp_arith [gj,e,e9,fG]
 | dict c=>have e:=gO (.dict c); simp_arith [gj,e,e9,fG]
theorem Zdc {h:PyData->Tr PyData} {f:PyData->Bool}:∀ {xs:ze},(∀ x∈xs,h x=.ret (.bool (f x)))->br h xs=.ret ((xs.map f).map PyData.bool)
 | [],_=>rfl
 | x::xs,hx=>by
  rw [br,hx x wq,Tr.ret_bind,Zdc λy hy=>hx y (ve _ hy)]
  rfl
theorem ZiR {f:PyData->Bool}:∀ xs:ze,(xs.map f).all id=xs.all f
 | []=>rfl
 | x::xs=>by rw [vC,yq,yq,ZiR xs]; rfl
theorem ZnK (s:Shp) (x:Int) (y:PyData):oy [.d s.d,.d (.int x),.d y]=.ret (.d (.bool (fG y x s.top))):=by
 have e:=ZnH y x s.top
 simp_arith [oy,e]
theorem Zlb (lo:Int) (n:Nat):aG lo (n+1)=lo::aG (lo+1) n:=by
 unfold aG
 rw [List.range_succ_eq_map,vC,vH]
 refine congr (congrArg List.cons (by show lo+((0:Nat):Int)=lo; omega)) (v4 λk _=>?_)
 show lo+((k+1:Nat):Int)=lo+1+(k:Int)
 omega
noncomputable def lvs (top:Int):Int->List PyData->List Bool
 | _,[]=>[]
 | lo,y::ys=>fG y lo top::lvs top (lo+1) ys
theorem Zdd (top:Int):∀ (ys:ze) (lo:Int),(lvs top lo ys).all id=i8 top lo ys
 | [],_=>rfl
 | y::ys,lo=>by rw [lvs,yq,Zdd top ys,i8]; rfl
theorem Zde (s:Shp):∀ (ys:ze) (lo:Int),br (bL (bd (am (af 0) (am (af 1) bc))) rX [.un,.un,.d s.d]) (bP ((aG lo ys.length).map PyData.int) ys)=.ret ((lvs s.top lo ys).map PyData.bool)
 | [],lo=>rfl
 | y::ys,lo=>by
  have e:=ZnK s lo y
  have ih:=Zde s ys (lo+1)
  have ez:bP ((aG lo (y::ys).length).map PyData.int) (y::ys)=.tuple [.int lo,y]::bP ((aG (lo+1) ys.length).map PyData.int) ys:=by
   rw [vp,Zlb]; rfl
  rw [ez,br,ih]
  simp_arith [rX,e]
  rfl
theorem ZcZ {s:Shp} (h:s.Ok):(((aN (-s.depth) (s.top+1)).length:Nat):Int)=s.top+s.depth+1:=by
 have:=h.t0
 have:=h.d0
 rw [cA]
 omega
theorem ZnJ {s:Shp} (h:s.Ok) {x:PyData} (hl:∀ ys,x=.tuple ys->ys.length<=200):j7 [.d s.d,.d x]=.ret (.d (.bool (lB s x))):=by
 have es:=gQ h
 have en:bZ c9 [.tuple (aN (-s.depth) (s.top+1))]=.ret (.int (s.top+s.depth+1)):=by
  show Tr.ret (PyData.int ((aN (-s.depth) (s.top+1)).length:Nat))=_
  rw [ZcZ h]
 by_cases ht:∃ ys,x=.tuple ys
 ·obtain ⟨ys,rfl⟩:=ht
  have h200:=hl ys rfl
  rw [ZdF]
  cases h1:((ys.length:Int) == s.top+s.depth+1)
  ·simp_arith [j7,es,en,eZ,h1,vZ,wo,wW]
  ·have hlen:ys.length=(s.top+1 - -s.depth).toNat:=by have:=eq_of_beq h1; omega
   have em:=Zde s ys (-s.depth)
   have ez:aN (-s.depth) (s.top+1)=(aG (-s.depth) ys.length).map PyData.int:=by unfold aN; rw [hlen]
   rw [<- ez] at em
   have hs:small (bP (aN (-s.depth) (s.top+1)) ys).length=true:=b7 (by unfold bP; rw [vd,xz]; omega)
   simp_arith [j7,es,en,eZ,h1,em,hs,Zdd,vZ,xl]
 ·have hn:=oQ (x:=x) λxs e=>ht ⟨xs,e⟩
  have hd:lB s x=false:=by
   cases x with
   | tuple xs=>exact absurd ⟨xs,rfl⟩ ht
   | _=>rfl
  rw [hd]
  simp_arith [j7,es,hn,wo]
end My
set_option Elab.async false
set_option linter.all false
set_option maxRecDepth 100000
set_option exponentiation.threshold 9000
namespace My
open L2 Tw Bar
noncomputable def eR:PyData->Bool
 | .tuple [.int a,.int b]=>kX (a,b)
 | _=>false
theorem Za5 (p:Int×Int):eR (shr p)=kX p:=rfl
theorem Zks {xs:ze} (h:xs.length≠2):eR (.tuple xs)=false:=by
 rcases xs with _ | ⟨a,_ | ⟨b,_ | ⟨c,r⟩⟩⟩
 ·rfl
 ·cases a <;> rfl
 ·exact absurd rfl h
 ·cases a <;> cases b <;> rfl
theorem Za4 {u v:PyData} (h:(e9 u && e9 v)=false):eR (.tuple [u,v])=false:=by
 cases u <;> cases v <;> first | rfl | (simp [e9] at h)
theorem Zd1 {x:PyData} (hx:∀ a b,x=.tuple [.int a,.int b]->nb 7000 b):gk [.d x]=.ret (.d (.bool (eR x))):=by
 by_cases ht:∃ ys,x=.tuple ys
 ·obtain ⟨xs,rfl⟩:=ht
  by_cases hl:xs.length=2
  ·obtain ⟨u,v,rfl⟩:∃ u v,xs=[u,v]:=by
    rcases xs with _ | ⟨a,_ | ⟨b,_ | ⟨c,r⟩⟩⟩
    ·simp at hl
    ·simp at hl
    ·exact ⟨a,b,rfl⟩
    ·simp at hl
   have e1:=gO u
   have e2:=gO v
   cases hu:e9 u
   ·rw [Za4 (by rw [hu]; rfl)]
    rw [hu] at e1
    simp_arith [gk,eZ,mW,vZ,e1,wo]
   ·cases hv:e9 v
    ·rw [Za4 (by rw [hv,yQ])]
     rw [hu] at e1
     rw [hv] at e2
     simp_arith [gk,eZ,mW,vZ,e1,e2,wo]
    ·obtain ⟨a,rfl⟩:∃ a:Int,u=.int a:=by cases u <;> first | exact ⟨_,rfl⟩ | cases hu
     obtain ⟨b,rfl⟩:∃ b:Int,v=.int b:=by cases v <;> first | exact ⟨_,rfl⟩ | cases hv
     have hb:=hx a b rfl
     have e3:=tY (a:=a) (b:=b) (aD hb (by decide))
     rw [hu] at e1
     rw [hv] at e2
     show _=Tr.ret (Re.d (.bool (decide (0 < b) && (Nat.gcd a.natAbs b.natAbs == 1))))
     by_cases hp:b < 1
     ·rw [decide_eq_false (show ¬ 0 < b by omega)]
      simp_arith [gk,eZ,mW,vZ,e1,e2,decide_eq_true hp,wW]
     ·have eg:(((Nat.gcd a.natAbs b.natAbs:Nat):Int) == 1)=(Nat.gcd a.natAbs b.natAbs == 1):=by
       by_cases h1:Nat.gcd a.natAbs b.natAbs=1
       ·rw [h1]; rfl
       ·rw [beq_eq_false_iff_ne.mpr h1]
        exact beq_eq_false_iff_ne.mpr (by omega)
      rw [decide_eq_true (show 0 < b by omega)]
      simp_arith [gk,eZ,mW,vZ,e1,e2,decide_eq_false hp,e3,eg,xl]
  ·rw [Zks hl]
   have e:(!((xs.length:Nat):Int) == 2)=true:=by rw [beq_eq_false_iff_ne.mpr (by omega)]; rfl
   simp_arith [gk,eZ,vZ,e]
 ·have hn:=oQ (x:=x) λxs e=>ht ⟨xs,e⟩
  have hd:eR x=false:=by
   cases x with
   | tuple xs=>exact absurd ⟨xs,rfl⟩ ht
   | _=>rfl
  rw [hd]
  simp_arith [gk,hn,wo]
def Bt (x:PyData):Prop:=∀ a b,x=.tuple [.int a,.int b]->nb 7000 b
noncomputable def iI (s:Shp):PyData->Bool
 | .tuple ys=>((ys.length:Int) == s.top+s.depth+1) && ys.all eR
 | _=>false
theorem Zah (s:Shp) (ys:ze):iI s (.tuple ys)=(((ys.length:Int) == s.top+s.depth+1) && ys.all eR):=rfl
theorem ZnG {s:Shp} (h:s.Ok) {x:PyData} (hl:∀ ys,x=.tuple ys->ys.length<=200/\∀ y∈ys,Bt y):j5 [.d s.d,.d x]=.ret (.d (.bool (iI s x))):=by
 have es:=gQ h
 have en:bZ c9 [.tuple (aN (-s.depth) (s.top+1))]=.ret (.int (s.top+s.depth+1)):=by
  show Tr.ret (PyData.int ((aN (-s.depth) (s.top+1)).length:Nat))=_
  rw [ZcZ h]
 by_cases ht:∃ ys,x=.tuple ys
 ·obtain ⟨ys,rfl⟩:=ht
  obtain ⟨h200,hy⟩:=hl ys rfl
  rw [Zah]
  cases h1:((ys.length:Int) == s.top+s.depth+1)
  ·simp_arith [j5,es,en,eZ,h1,vZ,wo,wW]
  ·have em:=Zdc (h:=bL (af 0) rW [.un]) (f:=eR) (xs:=ys) λy hm=>by
    have e:=Zd1 (hy y hm)
    simp_arith [rW,e]
   have hs:small ys.length=true:=b7 (by omega)
   simp_arith [j5,es,en,eZ,h1,em,hs,ZiR,vZ,xl]
 ·have hn:=oQ (x:=x) λxs e=>ht ⟨xs,e⟩
  have hd:iI s x=false:=by
   cases x with
   | tuple xs=>exact absurd ⟨xs,rfl⟩ ht
   | _=>rfl
  rw [hd]
  simp_arith [j5,es,hn,wo]
noncomputable def oW (s:Shp):PyData->Bool
 | .tuple [m,w,l]=>eR m && (iI s w && lB s l)
 | _=>false
theorem ZnW {s:Shp} {xs:ze} (h:xs.length≠3):oW s (.tuple xs)=false:=by
 rcases xs with _ | ⟨a,_ | ⟨b,_ | ⟨c,_ | ⟨d,r⟩⟩⟩⟩
 ·rfl
 ·rfl
 ·rfl
 ·exact absurd rfl h
 ·rfl
structure Tm (x:PyData):Prop where
 m:∀ m w l,x=.tuple [m,w,l]->Bt m
 w:∀ m w l,x=.tuple [m,w,l]->∀ ys,w=.tuple ys->ys.length<=200/\∀ y∈ys,Bt y
 l:∀ m w l,x=.tuple [m,w,l]->∀ ys,l=.tuple ys->ys.length<=200
theorem ZnI {s:Shp} (h:s.Ok) {x:PyData} (hx:Tm x):gL [.d s.d,.d x]=.ret (.d (.bool (oW s x))):=by
 by_cases ht:∃ ys,x=.tuple ys
 ·obtain ⟨xs,rfl⟩:=ht
  by_cases hl:xs.length=3
  ·obtain ⟨m,w,l,rfl⟩:=Zm2 hl
   have e1:=Zd1 (hx.m m w l rfl)
   have e2:=ZnG h (hx.w m w l rfl)
   have e3:=ZnJ h (hx.l m w l rfl)
   show _=Tr.ret (Re.d (.bool (eR m && (iI s w && lB s l))))
   cases c1:eR m
   ·rw [c1] at e1
    simp_arith [gL,eZ,qF,vZ,e1,wW]
   ·rw [c1] at e1
    cases c2:iI s w
    ·rw [c2] at e2
     simp_arith [gL,eZ,qF,vZ,e1,e2,wW,xl]
    ·rw [c2] at e2
     simp_arith [gL,eZ,qF,vZ,e1,e2,e3,xl]
  ·rw [ZnW hl]
   have e:(!((xs.length:Nat):Int) == 3)=true:=by rw [beq_eq_false_iff_ne.mpr (by omega)]; rfl
   simp_arith [gL,eZ,vZ,e]
 ·have hn:=oQ (x:=x) λxs e=>ht ⟨xs,e⟩
  have hd:oW s x=false:=by
   cases x with
   | tuple xs=>exact absurd ⟨xs,rfl⟩ ht
   | _=>rfl
  rw [hd]
  simp_arith [gL,hn,wo]
noncomputable def bC:Int->List (Int×Int)->Int
 | D,[]=>D
 | D,p::ws=>bC (D * p.2.fdiv ((Nat.gcd D.natAbs p.2.natAbs:Nat):Int)) ws
theorem tJ {D b:Int} (hD:0 < D) (hb:0 < b):∃ g q r:Int,((Nat.gcd D.natAbs b.natAbs:Nat):Int)=g/\0 < g/\g<=b/\D=g * q/\b=g * r/\0 < r/\b.fdiv g=r:=by
 have g0:0 < Nat.gcd D.natAbs b.natAbs:=yR _ (by omega)
 have d1:((Nat.gcd D.natAbs b.natAbs:Nat):Int) ∣ D:=Int.ofNat_dvd_left.mpr (Nat.gcd_dvd_left _ _)
 have d2:((Nat.gcd D.natAbs b.natAbs:Nat):Int) ∣ b:=Int.ofNat_dvd_left.mpr (Nat.gcd_dvd_right _ _)
 generalize Nat.gcd D.natAbs b.natAbs=g at *
 obtain ⟨q,hq⟩:=d1
 obtain ⟨r,hr⟩:=d2
 have g0':(0:Int) < g:=by omega
 have r0:0 < r:=by
  rw [hr] at hb
  exact Int.pos_of_mul_pos_right hb g0'
 refine ⟨g,q,r,rfl,g0',?_,hq,hr,r0,?_⟩
 ·rw [hr]
  have:=vK (show (1:Int)<=r by omega) (vG g0')
  omega
 ·rw [hr,wJ _ (vG g0'),xO _ (wx g0')]
theorem qR {c:Nat}:∀ {ws:List (Int×Int)} {b:Nat} {D:Int},0 < D->nb b D->(∀ p∈ws,0 < p.2/\nb c p.2)->0 < bC D ws/\nb (b+c * ws.length) (bC D ws)
 | [],b,D,h0,h,_=>⟨h0,aD h (by omega)⟩
 | p::ws,b,D,h0,h,hw=>by
  obtain ⟨p0,pn⟩:=hw p (by simp)
  obtain ⟨g,q,r,e1,e2,e3,e4,e5,e6,e7⟩:=tJ h0 p0
  have hr:nb c r:=by
   have:r<=p.2:=by
    rw [e5]
    have:=vL (show (1:Int)<=g by omega) (vG e6)
    omega
   unfold nb at *
   omega
  have ih:=qR (ws:=ws) (vQ h0 e6) (bf h hr) λq hq=>hw q (ve _ hq)
  rw [bC,e1,e7,vp,Nat.mul_succ]
  exact ⟨ih.1,aD ih.2 (by omega)⟩
theorem Za9:∀ {ws:List (Int×Int)} {D:Int},D ∣ bC D ws
 | [],D=>Int.dvd_refl _
 | p::ws,D=>by rw [bC]; exact yr (Int.dvd_mul_right D _) Za9
theorem qS:∀ {ws:List (Int×Int)} {D:Int} {p:Int×Int},0 < D->(∀ p∈ws,0 < p.2)->p∈ws->p.2 ∣ bC D ws
 | q::ws,D,p,h0,hw,h=>by
  obtain ⟨g,u,r,e1,e2,e3,e4,e5,e6,e7⟩:=tJ h0 (hw q (by simp))
  rw [bC,e1,e7]
  rcases vJ.mp h with rfl | h
  ·refine yr ?_ Za9
   rw [e5,e4]
   exact ⟨u,by grind⟩
  ·exact qS (vQ h0 e6) (λz hz=>hw z (ve _ hz)) h
theorem os1 {c:Nat} (W:Sl):∀ (ws:List (Int×Int)) (b:Nat) (D:Int) (J2 J3:Sl),0 < D->nb b D->(∀ p∈ws,0 < p.2/\nb c p.2)->b+c * ws.length<=8000->c<=8000->∃ K2 K3:Sl,bX (bd (am (af 2) (am (af 3) bc))) oH (ws.map shr) [W,.d (.int D),J2,J3]=.ret (.next [W,.d (.int (bC D ws)),K2,K3])
 | [],b,D,J2,J3,_,_,_,_,_=>⟨J2,J3,rfl⟩
 | p::ws,b,D,J2,J3,h0,h,hw,hl,hc=>by
  obtain ⟨p0,pn⟩:=hw p (by simp)
  obtain ⟨g,q,r,e1,e2,e3,e4,e5,e6,e7⟩:=tJ h0 p0
  rw [vp,Nat.mul_succ] at hl
  have hr:nb c r:=by
   have:r<=p.2:=by
    rw [e5]
    have:=vL (show (1:Int)<=g by omega) (vG e6)
    omega
   unfold nb at *
   omega
  have hg:nb c g:=by unfold nb at *; omega
  obtain ⟨K2,K3,e⟩:=os1 W ws (b+c) (D * r) (.d (.int p.1)) (.d (.int p.2)) (vQ h0 e6) (bf h hr) (λq hq=>hw q (ve _ hq)) (by omega) hc
  refine ⟨K2,K3,?_⟩
  have ec:=tY (a:=D) (b:=p.2) (aD pn hc)
  rw [e1] at ec
  have ed:=kr (m:=p.2) (n:=g) (by omega) (aq hg hc)
  rw [e7] at ed
  have f1:=aq h (by omega)
  have f2:=aq hr hc
  have et:oH [W,.d (.int D),.d (.int p.1),.d (.int p.2)]=.ret (.next [W,.d (.int (D * r)),.d (.int p.1),.d (.int p.2)]):=by
   simp_arith [oH,ec,ed,f1,f2]
  have eg:(bd (am (af 2) (am (af 3) bc))) (shr p) [W,.d (.int D),J2,J3]=some [W,.d (.int D),.d (.int p.1),.d (.int p.2)]:=rfl
  rw [vC,fb,eg,Tr.of_some,Tr.ret_bind,fy,et,Tr.ret_bind,eE,e,bC,e1,e7]
theorem os2 {D:Int} (hD:0 < D) {b:Nat} (nD:nb b D) (hb:b<=4000) (X Y:Sl):∀ ws:List (Int×Int),(∀ p∈ws,0 < p.2/\nb 400 p.2/\nb 2000 p.1)->br (bL (bd (am (af 0) (am (af 1) bc))) nr [X,Y,.d (.int D)]) (ws.map shr)=.ret ((ws.map (ovr D)).map PyData.int)
 | [],_=>rfl
 | p::ws,hw=>by
  obtain ⟨p0,p1,p2⟩:=hw p (by simp)
  have f1:=aq p2 (by decide)
  have f2:=aq (Zei hD p0 nD) (by omega)
  have ed:=kr (m:=D) (n:=p.2) (by omega) (aq p1 (by decide))
  have e0:bL (bd (am (af 0) (am (af 1) bc))) nr [X,Y,.d (.int D)] (shr p)=.ret (.int (ovr D p)):=by
   simp_arith [nr,shr,ed,f1,f2,ovr]
  rw [vC,br,e0,Tr.ret_bind,os2 hD nD hb X Y ws λq hq=>hw q (ve _ hq)]
  rfl
theorem Zod {ws:List (Int×Int)} (hl:ws.length<=9) (hw:∀ p∈ws,0 < p.2/\nb 230 p.2/\nb 1800 p.1):og [.d (.tuple (ws.map shr))]=.ret (.d (.tuple [lI (ws.map (ovr (bC 1 ws))),.int (bC 1 ws)])):=by
 obtain ⟨D0,nD⟩:=qR (c:=230) (ws:=ws) (b:=1) (D:=1) (by decide) (by show (1:Int).natAbs < 2 ^ 1; decide) λp hp=>⟨(hw p hp).1,(hw p hp).2.1⟩
 obtain ⟨K2,K3,e1⟩:=os1 (c:=230) (.d (.tuple (ws.map shr))) ws 1 1 .un .un (by decide) (by show (1:Int).natAbs < 2 ^ 1; decide) (λp hp=>⟨(hw p hp).1,(hw p hp).2.1⟩) (by omega) (by decide)
 have e2:=os2 D0 (aD nD (show _<=2200 by omega)) (by decide) .un .un ws λp hp=>⟨(hw p hp).1,aD (hw p hp).2.1 (by decide),aD (hw p hp).2.2 (by decide)⟩
 have hsm:small (ws.map shr).length=true:=b7 (by rw [vd]; omega)
 simp_arith [og,e1,hsm,e2]
 rfl
end My
set_option Elab.async false
set_option linter.all false
set_option maxRecDepth 100000
set_option exponentiation.threshold 9000
namespace My
open L2 Tw Bar
noncomputable def pw (s:Shp) (ws:List (Int×Int)) (x:Int):Int×Int:=(ws[(x+s.depth).toNat]?).getD (0,1)
theorem Zlj {s:Shp} (h:s.Ok) {ws:List (Int×Int)} (hl:ws.length=s.n):(aG (-s.depth) s.n).map (pw s ws)=ws:=by
 apply wT
 intro i
 by_cases hi:i < s.n
 ·unfold aG
  rw [vH,vg,vF hi]
  show some (pw s ws (-s.depth+(i:Int)))=_
  unfold pw
  have ei:(-s.depth+(i:Int)+s.depth).toNat=i:=by omega
  rw [ei,vx (by omega)]
  rfl
 ·rw [vY (by rw [vd,fY]; omega),vY (by omega)]
theorem gF {s:Shp} (h:s.Ok) {ws:List (Int×Int)} (hl:ws.length=s.n) {x:Int} (x1:-s.depth<=x) (x2:x<=s.top):pw s ws x∈ws:=by
 have hn:=h.n_eq
 unfold pw
 rw [vx (show (x+s.depth).toNat < ws.length by omega)]
 exact ww _
theorem Zcu {s:Shp} {ws:List (Int×Int)} {i:Nat} (hi:i < ws.length):pw s ws ((i:Int) - s.depth)=ws[i]:=by
 unfold pw
 have ei:((i:Int) - s.depth+s.depth).toNat=i:=by omega
 rw [ei,vx hi]
 rfl
theorem uz {s:Shp} (h:s.Ok) {ws:List (Int×Int)} (hl:ws.length=s.n) (D:Int) {x:Int} (x1:-s.depth<=x) (x2:x<=s.top):bv s (ws.map (ovr D)) x=ovr D (pw s ws x):=by
 have hn:=h.n_eq
 unfold bv pw
 rw [vg,vx (show (x+s.depth).toNat < ws.length by omega)]
 rfl
theorem ZmV {t b u c:Int} (hb:0 < b) (hc:0 < c):(Gc.bU t b == Gc.bU u c && Gc.bQ t b == Gc.bQ u c)=true ↔ t * c=u * b:=by
 constructor
 ·intro e
  rw [vU,beq_iff_eq,beq_iff_eq] at e
  have e1:=gq (t:=t) hb
  have e2:=gq (t:=u) hc
  have e1:Gc.bU t b * b=t * Gc.bQ t b:=e1
  have e2:Gc.bU u c * c=u * Gc.bQ u c:=e2
  have p:0 < Gc.bQ t b:=(dH hb).pos
  rw [<- e.1,<- e.2] at e2
  generalize Gc.bU t b=p1 at *
  generalize Gc.bQ t b=q1 at *
  refine wy (wx p) ?_
  have a1:t * c * q1=t * q1 * c:=by grind
  have a2:u * b * q1=u * q1 * b:=by grind
  rw [a1,a2,<- e1,<- e2]
  grind
 ·intro e
  have q:=Zkr hb hc e
  unfold cI at q
  simp only [wR,xA,PyData.int.injEq,and_true] at q
  rw [q.1,q.2]
  simp
structure Num (s:Shp) (m:Int×Int) (ws:List (Int×Int)) (D M:Int) (A:Int->Int):Prop where
 D0:0 < D
 m:m.1 * D=M * m.2
 w:∀ x,-s.depth<=x->x<=s.top->(pw s ws x).1 * D=A x * (pw s ws x).2
theorem ZcS {s:Shp} (h:s.Ok) {one:zf} {m:Int×Int} {ws:List (Int×Int)} (hl:ws.length=s.n) (m0:0 < m.2) (w0:∀ p∈ws,0 < p.2) {D M D' M':Int} {A A':Int->Int} (u:Num s m ws D M A) (u':Num s m ws D' M' A') {x y:Int} (x1:-s.depth<=x) (x2:x<=s.top) (y2:y<=s.top) (k:fF s one A D M x y):fF s one A' D' M' x y:=by
 refine sQ h u.D0 u'.D0 (wD D D') ?_ (λz z1 z2=>?_) x1 x2 y2 k
 ·refine wy (wx m0) ?_
  have a1:D * M' * m.2=D * (M' * m.2):=by grind
  have a2:D' * M * m.2=D' * (M * m.2):=by grind
  rw [a1,a2,<- u'.m,<- u.m]
  grind
 ·have p0:=w0 _ (gF h hl z1 z2)
  refine wy (wx p0) ?_
  have a1:D * A' z * (pw s ws z).2=D * (A' z * (pw s ws z).2):=by grind
  have a2:D' * A z * (pw s ws z).2=D' * (A z * (pw s ws z).2):=by grind
  rw [a1,a2,<- u'.w z z1 z2,<- u.w z z1 z2]
  grind
theorem nU {s:Shp} (h:s.Ok) {m:Int×Int} {ws:List (Int×Int)} (hl:ws.length=s.n) (m0:0 < m.2) (w0:∀ p∈ws,0 < p.2):Num s m ws (db m.2 ws) (ovr (db m.2 ws) m) (i9 s m ws):=by
 refine ⟨uk m0 w0,(lA m0 pA).symm,λx x1 x2=>?_⟩
 unfold i9
 rw [uz h hl _ x1 x2]
 have hm:=gF h hl x1 x2
 exact (lA (w0 _ hm) (ul hm)).symm
theorem Zml {s:Shp} (h:s.Ok) {m:Int×Int} {ws:List (Int×Int)} (hl:ws.length=s.n) (m0:0 < m.2) (w0:∀ p∈ws,0 < p.2) (D0:0 < bC 1 ws):Num s m ws (m.2 * bC 1 ws) (m.1 * bC 1 ws) (λx=>m.2 * bv s (ws.map (ovr (bC 1 ws))) x):=by
 refine ⟨vQ m0 D0,by grind,λx x1 x2=>?_⟩
 rw [uz h hl _ x1 x2]
 have hm:=gF h hl x1 x2
 have e:=lA (w0 _ hm) (qS (D:=1) (by decide) w0 hm)
 have a:m.2 * ovr (bC 1 ws) (pw s ws x) * (pw s ws x).2=m.2 * (ovr (bC 1 ws) (pw s ws x) * (pw s ws x).2):=by grind
 rw [a,e]
 grind
theorem Zdk {s:Shp} (h:s.Ok) {one:zf} {m:Int×Int} {ws:List (Int×Int)} {ls:zf} (l1:ws.length=s.n) (l2:ls.length=s.n) (sm:IsSh m) (sw:∀ p∈ws,IsSh p) (hv:fU s ls) {D M:Int} {A:Int->Int} (u:Num s m ws D M A) (k:∀ i (hi:i < ls.length),fF s one A D M ((i:Int) - s.depth) ls[i]):LkP s one m ws ls:=by
 have hn:=h.n_eq
 have w0:∀ p∈ws,0 < p.2:=λp hp=>(sw p hp).pos
 refine ⟨sm,λi hi=>⟨⟨ws[i],vx (by omega),(mZ _).mpr (sw _ (ww _))⟩,ls[i],vx (by omega),hv i (by omega)⟩,λi hi=>?_⟩
 exact ZcS h l1 sm.pos w0 u (nU h l1 sm.pos w0) (by omega) (by omega) (hv i hi).2 (k i hi)
theorem LkP.num {s:Shp} (h:s.Ok) {one:zf} {m:Int×Int} {ws:List (Int×Int)} {ls:zf} (l1:ws.length=s.n) (l2:ls.length=s.n) (sw:∀ p∈ws,IsSh p) (hv:fU s ls) (k:LkP s one m ws ls) {D M:Int} {A:Int->Int} (u:Num s m ws D M A) {i:Nat} (hi:i < ls.length):fF s one A D M ((i:Int) - s.depth) ls[i]:=by
 have hn:=h.n_eq
 have w0:∀ p∈ws,0 < p.2:=λp hp=>(sw p hp).pos
 exact ZcS h l1 k.sm.pos w0 (nU h l1 k.sm.pos w0) u (by omega) (by omega) (hv i hi).2 (k.lk i hi)
theorem Za3 {α:Type} (a b:α->Int) (l:List α):SeqAt.shaped (.list (l.map λx=>.tuple [.int (a x),.int (b x)]))=true:=by
 have h1:PyData.canLayAll0 (l.map λx=>.tuple [.int (a x),.int (b x)])=true:=by
  induction l with
  | nil=>rfl
  | cons x l ih=>rw [vC,PyData.canLayAll0,ih]; rfl
 have h2:PyData.depthAll (l.map λx=>.tuple [.int (a x),.int (b x)])<=1:=by
  clear h1
  induction l with
  | nil=>exact xg 1
  | cons x l ih =>
   rw [vC,PyData.depthAll]
   have:PyData.depth (.tuple [.int (a x),.int (b x)])=1:=rfl
   rw [this]
   omega
 unfold SeqAt.shaped
 rw [PyData.canLay0,PyData.depth,h1]
 simp
 omega
theorem Zhq {α:Type} (a b c d:α->Int):∀ l:List α,PyData.eqvAll (l.map λx=>.tuple [.int (a x),.int (b x)]) (l.map λx=>.tuple [.int (c x),.int (d x)])=l.all λx=>a x == c x && b x == d x
 | []=>rfl
 | x::l=>by
  have ih:=Zhq a b c d l
  rw [vC,vC,PyData.eqvAll,ih,yq]
  congr 1
  show (a x == c x && (b x == d x && true))=_
  rw [Bool.and_true]
theorem n5 {α:Type} {h:PyData->Tr PyData} {D F:α->PyData}:∀ {l:List α},(∀ x∈l,h (D x)=.ret (F x))->br h (l.map D)=.ret (l.map F)
 | [],_=>rfl
 | x::l,hx=>by
  rw [vC,br,hx x (by simp),Tr.ret_bind,n5 λy hy=>hx y (ve _ hy)]
  rfl
theorem Zoc {p q:Int×Int} (p0:0 < p.2) (q0:0 < q.2) (hp:nb 230 p.2/\nb 1800 p.1) (hq:nb 230 q.2/\nb 1800 q.1):oa [.d (shr p),.d (shr q)]=.ret (.d (cI (p.1 * q.2+q.1 * p.2) (p.2 * q.2))):=by
 have f1:=aq hp.1 (by decide)
 have f2:=aq hp.2 (by decide)
 have f3:=aq hq.1 (by decide)
 have f4:=aq hq.2 (by decide)
 have b0:=vQ p0 q0
 have es:=kw (t:=p.1 * q.2+q.1 * p.2) (b:=p.2 * q.2) (by omega) (aD (bf hp.1 hq.1) (by decide))
 simp_arith [oa,shr,f1,f2,f3,f4,es]
theorem Zot {s:Shp} {one:zf} (hd:DayB one) (gr:s.top+s.depth<=great one) (ps:∃ w∈one,w > 0):i7 [.d s.d,.d (tI one)]=.ret (.d .none):=by
 have eg:=Zhz ps (by have:=hd.len; omega)
 have ca:decide (great one < s.top+s.depth)=false:=decide_eq_false (by omega)
 simp_arith [i7,eg,ca]
theorem Zoj {s:Shp} (h:s.Ok) (n8:s.n<=9) {one:zf} (hd:DayB one) (gr:s.top+s.depth<=great one) (ps:∃ w∈one,w > 0) {m:Int×Int} {ws:List (Int×Int)} {ls:zf} (hm:nb 230 m.2/\nb 1800 m.1) (hw:∀ p∈ws,nb 230 p.2/\nb 1800 p.1) (l1:ws.length=s.n) (l2:ls.length=s.n) (sm:IsSh m) (sw:∀ p∈ws,IsSh p) (hv:fU s ls)
  (ef:gL [.d s.d,.d (dU m ws ls)]=.ret (.d (.bool true))) :
  (LkP s one m ws ls/\io [.d s.d,.d (tI one),.d (dU m ws ls)]=.ret (.d (.bool true)))\/(¬ LkP s one m ws ls/\io [.d s.d,.d (tI one),.d (dU m ws ls)]=.ret (.d (.bool false))):=by
 have hn:=h.n_eq
 have t0:=h.t0
 have d0:=h.d0
 have td:=h.td
 have w0:∀ p∈ws,0 < p.2:=λp hp=>(sw p hp).pos
 have e0:=Zot hd gr ps
 have e1:=Zod (ws:=ws) (by omega) λp hp=>⟨w0 p hp,hw p hp⟩
 obtain ⟨D0,nD⟩:=qR (c:=230) (ws:=ws) (b:=1) (D:=1) (by decide) (by show (1:Int).natAbs < 2 ^ 1; decide) λp hp=>⟨w0 p hp,(hw p hp).1⟩
 have nD:nb 2200 (bC 1 ws):=aD nD (by omega)
 have us:=Zml h l1 sm.pos w0 D0
 have er:ws.map (ovr (bC 1 ws))=s.row (bv s (ws.map (ovr (bC 1 ws)))):=(np h (by rw [vd,l1])).symm
 have hA:Bd s 4100 (bv s (ws.map (ovr (bC 1 ws)))):=Zqr λv hv=>by
  obtain ⟨p,hp,rfl⟩:=wv.mp hv
  exact aD (bf (hw p hp).2 (Zei D0 (w0 p hp) nD)) (by decide)
 have eA:∀ x,-s.depth<=x->x<=s.top->bv s (ws.map (ovr (bC 1 ws))) x * (pw s ws x).2=(pw s ws x).1 * bC 1 ws:=λx x1 x2=>by
  rw [uz h l1 _ x1 x2]
  have hm:=gF h l1 x1 x2
  exact lA (w0 _ hm) (qS (by decide) w0 hm)
 rw [er] at e1
 have hg:s.RlOk (bv s ls):=λx x1 x2=>by
  have hk:(x+s.depth).toNat < ls.length:=by omega
  have:=hv _ hk
  unfold bv
  rw [vx hk]
  show x<=ls[(x+s.depth).toNat]/\ls[(x+s.depth).toNat]<=s.top
  omega
 have e2:=ZhB h hd hA (aD nD (by decide)) (by decide) hg (LV:=tI ls) (by rw [np h l2]; rfl)
 have e3:=Zoe h hd (C:=cby s one (bv s (ws.map (ovr (bC 1 ws)))) (bC 1 ws) (bv s ls)) hA (aD nD (by decide)) (by decide)
 have hC:∀ x,cby s one (bv s (ws.map (ovr (bC 1 ws)))) (bC 1 ws) (bv s ls) x=vB s one (bv s (ws.map (ovr (bC 1 ws)))) (bC 1 ws) x (bv s ls x):=λx=>rfl
 have hNL:qe s one (cby s one (bv s (ws.map (ovr (bC 1 ws)))) (bC 1 ws) (bv s ls)) (bv s (ws.map (ovr (bC 1 ws)))) (bC 1 ws) ↔ ∀ x y,-s.depth<=x->x<=y->y<=s.top->vB s one (bv s (ws.map (ovr (bC 1 ws)))) (bC 1 ws) x (bv s ls x)<=vB s one (bv s (ws.map (ovr (bC 1 ws)))) (bC 1 ws) x y:=Iff.rfl
 generalize cby s one (bv s (ws.map (ovr (bC 1 ws)))) (bC 1 ws) (bv s ls)=C at *
 generalize bv s (ws.map (ovr (bC 1 ws)))=A at *
 generalize bC 1 ws=sc at *
 have S0:=hd.pos
 have sn:=cq hd
 have B0:0 < sc * one.sum:=vQ D0 S0
 have nB:nb 7000 (sc * one.sum):=aD (bf nD sn) (by decide)
 have g1:=aq nD (by decide)
 have g2:=aq sn (by decide)
 have m1:=n5 (h:=bL (af 0) rT [.un,.d (.int sc),.d (tI one)]) (D:=λx=>PyData.int (C x)) (F:=λx=>PyData.tuple [.int (Gc.bU (C x) (sc * one.sum)),.int (Gc.bQ (C x) (sc * one.sum))]) (l:=aG (-s.depth) s.n) λx hx=>by
  have es:=kw (t:=C x) (b:=sc * one.sum) (by omega) nB
  have e3:∀ (q:yZ) (a:PyData),bL (af 0) q [.un,.d (.int sc),.d (tI one)] a=q [.d a,.d (.int sc),.d (tI one)]:=λq a=>rfl
  rw [e3]
  simp_arith [rT,fq,g1,g2,es]
  rfl
 have em1:(aG (-s.depth) s.n).map (λx=>PyData.int (C x))=(s.row C).map PyData.int:=by unfold Shp.row; rw [vH]; rfl
 rw [em1] at m1
 have m2:=n5 (h:=bL (af 0) rS [.un,.d (shr m)]) (D:=λx=>shr (pw s ws x)) (F:=λx=>PyData.tuple [.int (Gc.bU (m.1 * (pw s ws x).2+(pw s ws x).1 * m.2) (m.2 * (pw s ws x).2)),.int (Gc.bQ (m.1 * (pw s ws x).2+(pw s ws x).1 * m.2) (m.2 * (pw s ws x).2))]) (l:=aG (-s.depth) s.n) λx hx=>by
  have hx':=nq hx
  have hmem:=gF h l1 (x:=x) (by omega) (by omega)
  have ep:=Zoc sm.pos (w0 _ hmem) hm (hw _ hmem)
  have e3:∀ (q:yZ) (a:PyData),bL (af 0) q [.un,.d (shr m)] a=q [.d a,.d (shr m)]:=λq a=>rfl
  rw [e3]
  simp_arith [rS,ep]
  rfl
 have em2:(aG (-s.depth) s.n).map (λx=>shr (pw s ws x))=ws.map shr:=by
  have:(aG (-s.depth) s.n).map (λx=>shr (pw s ws x))=((aG (-s.depth) s.n).map (pw s ws)).map shr:=by rw [vH]; rfl
  rw [this,Zlj h l1]
 rw [em2] at m2
 have hne:aS dX (.list ((aG (-s.depth) s.n).map λx=>PyData.tuple [.int (Gc.bU (C x) (sc * one.sum)),.int (Gc.bQ (C x) (sc * one.sum))])) (.list ((aG (-s.depth) s.n).map λx=>PyData.tuple [.int (Gc.bU (m.1 * (pw s ws x).2+(pw s ws x).1 * m.2) (m.2 * (pw s ws x).2)),.int (Gc.bQ (m.1 * (pw s ws x).2+(pw s ws x).1 * m.2) (m.2 * (pw s ws x).2))]))=.ret (.bool (!((aG (-s.depth) s.n).all λx=>Gc.bU (C x) (sc * one.sum) == Gc.bU (m.1 * (pw s ws x).2+(pw s ws x).1 * m.2) (m.2 * (pw s ws x).2) && Gc.bQ (C x) (sc * one.sum) == Gc.bQ (m.1 * (pw s ws x).2+(pw s ws x).1 * m.2) (m.2 * (pw s ws x).2)))):=by
  rw [ZnZ (Za3 _ _ _) (Za3 _ _ _),Zhq]
 have keyx:∀ x,-s.depth<=x->x<=s.top->((Gc.bU (C x) (sc * one.sum) == Gc.bU (m.1 * (pw s ws x).2+(pw s ws x).1 * m.2) (m.2 * (pw s ws x).2) && Gc.bQ (C x) (sc * one.sum) == Gc.bQ (m.1 * (pw s ws x).2+(pw s ws x).1 * m.2) (m.2 * (pw s ws x).2))=true ↔ one.sum * (m.1 * sc+m.2 * A x)=m.2 * C x):=λx x1 x2=>by
  have p0:=w0 _ (gF h l1 x1 x2)
  rw [ZmV B0 (vQ sm.pos p0)]
  have ea:=eA x x1 x2
  generalize (pw s ws x).1=p1 at *
  generalize (pw s ws x).2=p2 at *
  have k1:(m.1 * p2+p1 * m.2) * (sc * one.sum)=p2 * (one.sum * (m.1 * sc+m.2 * A x)):=by
   have:(m.1 * p2+p1 * m.2) * (sc * one.sum)=m.1 * p2 * sc * one.sum+m.2 * (p1 * sc) * one.sum:=by grind
   rw [this,<- ea]
   grind
  have k2:C x * (m.2 * p2)=p2 * (m.2 * C x):=by grind
  rw [k1,k2]
  exact ⟨λz=>(xJ (wx p0) z).symm,λz=>by rw [z]⟩
 have vm:∀ x y,y<=s.top->vB s one (λz=>m.2 * A z) (m.2 * sc) x y=m.2 * vB s one A sc x y:=λx y y2=>by
  have:=qA h (one:=one) (A:=λz=>m.2 * A z) (B:=A) (D:=m.2 * sc) (D':=sc) (c:=1) (e:=m.2) (by omega) (λz _ _=>by omega) (x:=x) y2
  rw [<- this,yE]
 have lsx:∀ i (hi:i < ls.length),bv s ls ((i:Int) - s.depth)=ls[i]:=λi hi=>ZiF hi
 have key:LkP s one m ws ls ↔ ((aG (-s.depth) s.n).all λx=>Gc.bU (C x) (sc * one.sum) == Gc.bU (m.1 * (pw s ws x).2+(pw s ws x).1 * m.2) (m.2 * (pw s ws x).2) && Gc.bQ (C x) (sc * one.sum) == Gc.bQ (m.1 * (pw s ws x).2+(pw s ws x).1 * m.2) (m.2 * (pw s ws x).2))=true/\qe s one C A sc:=by
  constructor
  ·intro k
   have kk:∀ x,-s.depth<=x->x<=s.top->fF s one (λz=>m.2 * A z) (m.2 * sc) (m.1 * sc) x (bv s ls x):=λx x1 x2=>by
    have hk:(x+s.depth).toNat < ls.length:=by omega
    have ex:(((x+s.depth).toNat:Nat):Int) - s.depth=x:=by omega
    have:=k.num h l1 l2 sw hv us hk
    rw [<- lsx _ hk,ex] at this
    exact this
   refine ⟨xv.mpr λx hx=>?_,hNL.mpr λx y x1 xy y2=>?_⟩
   ·have hx':=nq hx
    have q:=(kk x (by omega) (by omega)).1
    rw [vm _ _ (hg x (by omega) (by omega)).2,<- hC] at q
    exact (keyx x (by omega) (by omega)).mpr q
   ·have q:=kk x x1 (by omega)
    have q1:=q.1
    have q2:=q.2 y xy y2
    rw [q1,vm _ _ (hg x (by omega) (by omega)).2,vm _ _ y2] at q2
    exact xI q2 sm.pos
  ·rintro ⟨k1,k2⟩
   refine Zdk h l1 l2 sm sw hv us λi hi=>?_
   have hx:-s.depth<=(i:Int) - s.depth:=by omega
   have hx2:(i:Int) - s.depth<=s.top:=by omega
   have q:=(keyx _ hx hx2).mp (xv.mp k1 _ (by unfold aG; exact wv.mpr ⟨i,v7.mpr (by omega),by omega⟩))
   have hy:=(hv i hi)
   rw [hC,lsx i hi] at q
   refine ⟨by rw [vm _ _ hy.2]; exact q,λz z1 z2=>?_⟩
   show one.sum * (m.1 * sc+m.2 * A ((i:Int) - s.depth))<=_
   rw [q,vm _ _ z2]
   have:=hNL.mp k2 ((i:Int) - s.depth) z hx z1 z2
   rw [lsx i hi] at this
   exact vK this (vG sm.pos)
 have itw:cJ (.tuple (ws.map shr))=.ret (ws.map shr):=rfl
 have itc:cJ (.list ((s.row C).map PyData.int))=.ret ((s.row C).map PyData.int):=rfl
 have hs1:small ((s.row C).map PyData.int).length=true:=b7 (by rw [vd,iP]; omega)
 have hs2:small (ws.map shr).length=true:=b7 (by rw [vd]; omega)
 have eLC:PyData.list ((s.row C).map PyData.int)=lI (s.row C):=rfl
 by_cases hc:((aG (-s.depth) s.n).all λx=>Gc.bU (C x) (sc * one.sum) == Gc.bU (m.1 * (pw s ws x).2+(pw s ws x).1 * m.2) (m.2 * (pw s ws x).2) && Gc.bQ (C x) (sc * one.sum) == Gc.bQ (m.1 * (pw s ws x).2+(pw s ws x).1 * m.2) (m.2 * (pw s ws x).2))=true
 ·rw [hc] at hne
  rcases e3 with ⟨q,e3⟩ | ⟨q,e3⟩
  ·refine .inl ⟨key.mpr ⟨hc,q⟩,?_⟩
   rw [dU] at ef ⊢
   simp_arith [io,o5,o6,e0,ef,vZ,e1,e2,itw,itc,hs1,hs2,m1,m2,hne]
   simp_arith [eLC,e3]
  ·refine .inr ⟨λz=>q (key.mp z).2,?_⟩
   rw [dU] at ef ⊢
   simp_arith [io,o5,o6,e0,ef,vZ,e1,e2,itw,itc,hs1,hs2,m1,m2,hne]
   simp_arith [eLC,e3]
 ·have hc':=hc
  rw [Bool.not_eq_true] at hc'
  rw [hc'] at hne
  refine .inr ⟨λz=>hc (key.mp z).1,?_⟩
  rw [dU] at ef ⊢
  simp_arith [io,o5,o6,e0,ef,vZ,e1,e2,itw,itc,hs1,hs2,m1,m2,hne,wo]
end My
set_option Elab.async false
set_option linter.all false
set_option maxRecDepth 100000
set_option exponentiation.threshold 9000
namespace My
open L2 Tw Bar
theorem Zdf {top:Int}:∀ (ls:zf) (lo:Int),(∀ i (h:i < ls.length),lo+i<=ls[i]/\ls[i]<=top)->i8 top lo (ls.map PyData.int)=true
 | [],_,_=>rfl
 | y::ls,lo,h=>by
  have h0:=h 0 (by simp)
  rw [vC,i8,Zdf ls (lo+1) λi hi=>?_]
  ·show ((decide (lo<=y) && decide (y<=top)) && true)=true
   have a:lo+((0:Nat):Int)<=y:=h0.1
   rw [decide_eq_true (show lo<=y by omega),decide_eq_true (show y<=top from h0.2)]
   rfl
  ·have:=h (i+1) (by simp; omega)
   have e:(y::ls)[i+1]'(by simp; omega)=ls[i]:=rfl
   rw [e] at this
   omega
theorem ZnV {s:Shp} (h:s.Ok) {m:Int×Int} {ws:List (Int×Int)} {ls:zf} (l1:ws.length=s.n) (l2:ls.length=s.n) (sm:IsSh m) (sw:∀ p∈ws,IsSh p) (hv:fU s ls):oW s (dU m ws ls)=true:=by
 have hn:=h.n_eq
 show (eR (shr m) && (iI s (.tuple (ws.map shr)) && lB s (.tuple (ls.map PyData.int))))=true
 rw [Za5,(mZ m).mpr sm,Zah,ZdF,vd,vd,l1,l2,Zdf ls (-s.depth) λi hi=>by have:=hv i hi; omega]
 have e:((s.n:Int) == s.top+s.depth+1)=true:=by rw [hn]; simp
 have e2:(ws.map shr).all eR=true:=xv.mpr λx hx=>by
  obtain ⟨p,hp,rfl⟩:=wv.mp hx
  rw [Za5]
  exact (mZ p).mpr (sw p hp)
 rw [e,e2]
 rfl
theorem Zim {p:Int×Int} (h:nb 7000 p.2):Bt (shr p):=λa b e=>by
 unfold shr at e
 simp only [wR,xA,PyData.int.injEq,and_true] at e
 rw [<- e.2]
 exact h
theorem ZjE {m:Int×Int} {ws:List (Int×Int)} {ls:zf} (hm:nb 7000 m.2) (hw:∀ p∈ws,nb 7000 p.2) (l1:ws.length<=200) (l2:ls.length<=200):Tm (dU m ws ls):=by
 unfold dU
 refine ⟨λa b c e=>?_,λa b c e ys hy=>?_,λa b c e ys hy=>?_⟩
 ·simp only [wR,xA,and_true] at e
  rw [<- e.1]
  exact Zim hm
 ·simp only [wR,xA,and_true] at e
  rw [<- e.2.1] at hy
  simp only [wR] at hy
  subst hy
  refine ⟨by rw [vd]; exact l1,λy hy=>?_⟩
  obtain ⟨p,hp,rfl⟩:=wv.mp hy
  exact Zim (hw p hp)
 ·simp only [wR,xA,and_true] at e
  rw [<- e.2.2] at hy
  unfold tI at hy
  simp only [wR] at hy
  subst hy
  rw [vd]
  exact l2
theorem Zm5 {s:Shp} {one:zf} (c:Cs s one) {m:Int×Int} {ws:List (Int×Int)} {ls:zf} (hm:nb 230 m.2/\nb 1800 m.1) (hw:∀ p∈ws,nb 230 p.2/\nb 1800 p.1) (l1:ws.length=s.n) (l2:ls.length=s.n) (sw:∀ p∈ws,IsSh p) (hv:fU s ls) (k:LkP s one m ws ls):io [.d s.d,.d (tI one),.d (dU m ws ls)]=.ret (.d (.bool true)):=by
 have h:=c.dr.ok
 have n8:=c.n8
 have ef:=ZnI h (ZjE (m:=m) (ws:=ws) (ls:=ls) (aD hm.1 (by decide)) (λp hp=>aD (hw p hp).1 (by decide)) (by omega) (by omega))
 rw [ZnV h l1 l2 k.sm sw hv] at ef
 rcases Zoj h (by omega) c.B c.gr c.ps hm hw l1 l2 k.sm sw hv ef with ⟨_,e⟩ | ⟨q,_⟩
 ·exact e
 ·exact absurd k q
noncomputable def de (p t:Int×Int):Int×Int:=cQ (p.1 * t.2+t.1 * p.2) (p.2 * t.2)
theorem Zc3 {p t:Int×Int} (p0:0 < p.2) (t0:0 < t.2):IsSh (de p t):=dH (vQ p0 t0)
theorem Zmy {p t:Int×Int} (p0:0 < p.2) (t0:0 < t.2) (hp:nb 208 p.2/\nb 1702 p.1) (ht:nb 5 t.2/\nb 5 t.1):nb 230 (de p t).2/\nb 1800 (de p t).1:=by
 obtain ⟨a,b⟩:=sP (cU (bf hp.2 ht.1) (bf ht.2 hp.1)) (bf hp.1 ht.1) (by have:=vQ p0 t0; omega)
 exact ⟨aD b (by decide),aD a (by decide)⟩
theorem Zmm {s:Shp} (h:s.Ok) {m t:Int×Int} {ws:List (Int×Int)} (hl:ws.length=s.n) (w0:∀ p∈ws,0 < p.2) (t0:0 < t.2) {D M:Int} {A:Int->Int} (u:Num s m ws D M A):Num s m (ws.map (de · t)) (t.2 * D) (t.2 * M) (λx=>t.2 * A x+t.1 * D):=by
 refine ⟨vQ t0 u.D0,?_,λx x1 x2=>?_⟩
 ·have:=u.m
  grind
 ·have hn:=h.n_eq
  have e1:pw s (ws.map (de · t)) x=de (pw s ws x) t:=by
   unfold pw
   rw [vg,vx (show (x+s.depth).toNat < ws.length by omega)]
   rfl
  have p0:=w0 _ (gF h hl x1 x2)
  have e2:=u.w x x1 x2
  rw [e1]
  have e3:=gq (t:=(pw s ws x).1 * t.2+t.1 * (pw s ws x).2) (b:=(pw s ws x).2 * t.2) (vQ p0 t0)
  show (de (pw s ws x) t).1 * _=_ * (de (pw s ws x) t).2
  unfold de
  generalize cQ ((pw s ws x).1 * t.2+t.1 * (pw s ws x).2) ((pw s ws x).2 * t.2)=q at *
  generalize (pw s ws x).1=p1 at *
  generalize (pw s ws x).2=p2 at *
  refine wy (wx p0) ?_
  have a1:q.1 * (t.2 * D) * p2=q.1 * (p2 * t.2) * D:=by grind
  rw [a1,e3]
  have a2:(p1 * t.2+t.1 * p2) * q.2 * D=(p1 * D) * t.2 * q.2+t.1 * p2 * q.2 * D:=by grind
  rw [a2,e2]
  grind
theorem Zm0 {s:Shp} (h:s.Ok) {one:zf} {m t:Int×Int} {ws:List (Int×Int)} {ls:zf} (l1:ws.length=s.n) (l2:ls.length=s.n) (sw:∀ p∈ws,IsSh p) (hv:fU s ls) (t0:0 < t.2) (k:LkP s one m ws ls):LkP s one m (ws.map (de · t)) ls:=by
 have w0:∀ p∈ws,0 < p.2:=λp hp=>(sw p hp).pos
 have hn:=h.n_eq
 have u:=nU h l1 k.sm.pos w0
 refine Zdk h (by rw [vd,l1]) l2 k.sm (λp hp=>?_) hv (Zmm h l1 w0 t0 u) λi hi=>?_
 ·obtain ⟨q,hq,rfl⟩:=wv.mp hp
  exact Zc3 (w0 q hq) t0
 ·have k1:=k.lk i hi
  have k2:=sQ h (one:=one) (A:=λz=>t.2 * i9 s m ws z) (B:=i9 s m ws) (D:=t.2 * db m.2 ws) (D':=db m.2 ws) (c:=1) (e:=t.2) (M:=t.2 * ovr (db m.2 ws) m) (M':=ovr (db m.2 ws) m) (by decide) t0 (by omega) (by omega) (λz _ _=>by omega) (x:=(i:Int) - s.depth) (y:=ls[i]) (by omega) (by omega) (hv i hi).2 k1
  exact ZmX _ k2
end My
set_option Elab.async false
set_option linter.all false
set_option maxRecDepth 100000
set_option exponentiation.threshold 9000
namespace My
open L2 Tw Bar
theorem Zje {s:Shp} (h:s.Ok) {one:zf} (hw:∀ w∈one,0<=w) {A B:Int->Int} {D P c y:Int} (hB:∀ z,-s.depth<=z->z<=s.top->P * (A z+c)<=D * B z) (y2:y<=s.top):P * s.wg one y A D+P * c * one.sum<=D * s.wg one y B P:=by
 have e:P * s.wg one y A D+P * c * one.sum=ws (λf=>P * (D * s.day y f+A (s.nx y f))+P * c) 0 one:=by
  rw [jD,fW,jC]
  rfl
 rw [e]
 unfold Shp.wg
 rw [<- fW]
 refine mN hw λf hf=>?_
 have k:=hB _ (eV s y f) (eU h y2 hf)
 rw [wt] at k
 have e1:P * (D * s.day y f+A (s.nx y f))=P * D * s.day y f+P * A (s.nx y f):=by grind
 have e2:D * (P * s.day y f+B (s.nx y f))=P * D * s.day y f+D * B (s.nx y f):=by grind
 rw [e1,e2]
 omega
theorem Zjd {s:Shp} (h:s.Ok) {one:zf} (hw:∀ w∈one,0<=w) {A B:Int->Int} {D P c y:Int} (hB:∀ z,-s.depth<=z->z<=s.top->D * B z<=P * (A z+c)) (y2:y<=s.top):D * s.wg one y B P<=P * s.wg one y A D+P * c * one.sum:=by
 have e:P * s.wg one y A D+P * c * one.sum=ws (λf=>P * (D * s.day y f+A (s.nx y f))+P * c) 0 one:=by
  rw [jD,fW,jC]
  rfl
 rw [e]
 unfold Shp.wg
 rw [<- fW]
 refine mN hw λf hf=>?_
 have k:=hB _ (eV s y f) (eU h y2 hf)
 rw [wt] at k
 have e1:P * (D * s.day y f+A (s.nx y f))=P * D * s.day y f+P * A (s.nx y f):=by grind
 have e2:D * (P * s.day y f+B (s.nx y f))=P * D * s.day y f+D * B (s.nx y f):=by grind
 rw [e1,e2]
 omega
noncomputable def rep {α:Type} (T:Nat) (one:α):List α:=List.replicate T one
theorem iQ {α:Type} (T:Nat) (one:α):(rep T one).length=T:=wX
theorem rH {α:Type} {T:Nat} {one x:α} (h:x∈rep T one):x=one:=List.eq_of_mem_replicate h
theorem nI {one:zf} (h:0 < one.sum):∀ T:Nat,0 < prd (rep T one)
 | 0=>by show (0:Int) < 1; decide
 | T+1=>vQ (nI h T) h
theorem ZoF {s:Shp} (h:s.Ok) {one:zf} (hw:∀ w∈one,0<=w) {A B:Int->Int} {D P M c x y:Int} (P0:0 < P) (hB:∀ z,-s.depth<=z->z<=s.top->P * (A z+c)<=D * B z) (y2:y<=s.top) (k:one.sum * (M+A x)<=vB s one A D x y):P * one.sum * (A x+(M+c))<=D * (s.ord x y * (P * one.sum)+s.wg one y B P):=by
 have a:=Zje h hw hB y2
 have b:=vK k (vG P0)
 have b':P * (one.sum * (M+A x))<=P * (D * one.sum * s.ord x y)+P * s.wg one y A D:=by rw [<- wt]; exact b
 have e1:D * (s.ord x y * (P * one.sum)+s.wg one y B P)=P * (D * one.sum * s.ord x y)+D * s.wg one y B P:=by grind
 have e2:P * one.sum * (A x+(M+c))=P * (one.sum * (M+A x))+P * c * one.sum:=by grind
 rw [e1,e2]
 omega
theorem ZoD {s:Shp} (h:s.Ok) {one:zf} (hw:∀ w∈one,0<=w) {A B:Int->Int} {D P M c x y:Int} (hB:∀ z,-s.depth<=z->z<=s.top->D * B z<=P * (A z+c)) (y2:y<=s.top) (k:one.sum * (M+A x)=vB s one A D x y):D * (s.ord x y * (P * one.sum)+s.wg one y B P)<=P * one.sum * (A x+(M+c)):=by
 have a:=Zjd h hw hB y2
 have b:P * (one.sum * (M+A x))=P * (D * one.sum * s.ord x y)+P * s.wg one y A D:=by rw [k,<- wt]; rfl
 have e1:D * (s.ord x y * (P * one.sum)+s.wg one y B P)=P * (D * one.sum * s.ord x y)+D * s.wg one y B P:=by grind
 have e2:P * one.sum * (A x+(M+c))=P * (one.sum * (M+A x))+P * c * one.sum:=by grind
 rw [e1,e2]
 omega
theorem Zir {s:Shp} (h:s.Ok) {one:zf} (hd:DayB one) {A:Int->Int} {D M mx:Int} (D0:0 < D) (f0:∀ x,s.fin x=0) (hmx:∀ z,-s.depth<=z->z<=s.top->A z<=mx) (hle:∀ x y,-s.depth<=x->x<=y->y<=s.top->one.sum * (M+A x)<=vB s one A D x y) :
  ∀ (T:Nat) (x:Int),-s.depth<=x->x<=s.top->prd (rep T one) * (A x+(T * M - mx))<=D * (s.bk (rep T one)).1 x
 | 0,x,x1,x2=>by
  have e:(s.bk (rep 0 one)).1 x=0:=f0 x
  rw [e,wV]
  show 1 * (A x+(((0:Nat):Int) * M - mx))<=0
  have:=hmx x x1 x2
  simp
  omega
 | T+1,x,x1,x2=>by
  obtain ⟨y1,y2,e⟩:=ZmO (s:=s) one (rep T one) x2
  have er:rep (T+1) one=one::rep T one:=rfl
  have ep:prd (one::rep T one)=prd (rep T one) * one.sum:=rfl
  rw [er,e,<- lr,ep]
  have k:=ZoF h hd.w0 (P:=prd (rep T one)) (M:=M) (nI hd.pos T) (λz z1 z2=>Zir h hd D0 f0 hmx hle T z z1 z2) y2 (hle x _ x1 y1 y2)
  have ec:M+((T:Int) * M - mx)=((T+1:Nat):Int) * M - mx:=by
   rw [yF,yI]
   simp
   omega
  rw [ec] at k
  exact k
theorem ZcJ {s:Shp} (h:s.Ok) {one:zf} (hd:DayB one) {A:Int->Int} {D M mn:Int} {g:Int->Int} (hg:s.RlOk g) (f0:∀ x,s.fin x=0) (hmn:∀ z,-s.depth<=z->z<=s.top->mn<=A z) (hown:∀ x,-s.depth<=x->x<=s.top->one.sum * (M+A x)=vB s one A D x (g x)) :
  ∀ (T:Nat) (x:Int),-s.depth<=x->x<=s.top->D * (av (rep T one) λr=>s.rc (rep T g) r x)<=prd (rep T one) * (A x+(T * M - mn))
 | 0,x,x1,x2=>by
  have e:(av (rep 0 one) λr=>s.rc (rep 0 g) r x)=0:=f0 x
  rw [e,wV]
  show 0<=1 * (A x+(((0:Nat):Int) * M - mn))
  have:=hmn x x1 x2
  simp
  omega
 | T+1,x,x1,x2=>by
  have er:rep (T+1) one=one::rep T one:=rfl
  have eg:rep (T+1) g=g::rep T g:=rfl
  have ep:prd (one::rep T one)=prd (rep T one) * one.sum:=rfl
  rw [er,eg,ur,ep]
  have k:=ZoD h hd.w0 (B:=λz=>av (rep T one) λr=>s.rc (rep T g) r z) (P:=prd (rep T one)) (M:=M) (c:=(T:Int) * M - mn) (λz z1 z2=>ZcJ h hd hg f0 hmn hown T z z1 z2) (hg x x1 x2).2 (hown x x1 x2)
  have ec:M+((T:Int) * M - mn)=((T+1:Nat):Int) * M - mn:=by
   rw [yF,yI]
   simp
   omega
  rw [ec] at k
  exact k
theorem jU {one:zf} (hd:DayB one):∀ T:Nat,nb (1+46 * T) (prd (rep T one))
 | 0=>by show (1:Int).natAbs < 2 ^ 1; decide
 | T+1=>aD (bf (jU hd T) (cq hd)) (by omega)
theorem lb1 {slf:y9} (a b c d p f u v r t:Sl) {one:zf} (hd:DayB one) (T:Nat):∀ (l:ze) (k:Nat) (J8:Sl),k+l.length<=100->∃ K8:Sl,bX (af 8) (oI slf) l [a,b,c,d,p,f,.d (.int one.sum),.d (.int (prd (rep k one))),J8,u,v,r,t]=.ret (.next [a,b,c,d,p,f,.d (.int one.sum),.d (.int (prd (rep (k+l.length) one))),K8,u,v,r,t])
 | [],k,J8,_=>⟨J8,rfl⟩
 | q::l,k,J8,hb=>by
  rw [vp] at hb
  obtain ⟨K8,e⟩:=lb1 (slf:=slf) a b c d p f u v r t hd T l (k+1) (.d q) (by omega)
  refine ⟨K8,?_⟩
  have f1:=aq (jU hd k) (by omega)
  have f2:=aq (cq hd) (by decide)
  have ep:prd (rep k one) * one.sum=prd (rep (k+1) one):=rfl
  have et:oI slf [a,b,c,d,p,f,.d (.int one.sum),.d (.int (prd (rep k one))),.d q,u,v,r,t]=.ret (.next [a,b,c,d,p,f,.d (.int one.sum),.d (.int (prd (rep (k+1) one))),.d q,u,v,r,t]):=by
   simp_arith [oI,f1,f2,ep]
  have eg:af 8 q [a,b,c,d,p,f,.d (.int one.sum),.d (.int (prd (rep k one))),J8,u,v,r,t]=some [a,b,c,d,p,f,.d (.int one.sum),.d (.int (prd (rep k one))),.d q,u,v,r,t]:=rfl
  rw [fb,eg,Tr.of_some,Tr.ret_bind,fy,et,Tr.ret_bind,eE,e,vp]
  have:k+1+l.length=k+(l.length+1):=by omega
  rw [this]
structure LbOk (s:Shp) (one:zf) (A:Int->Int) (D M mx:Int) (T:Nat) (x:Int) (o:Tr Re):Prop where
 ex:∃ V:Int,o=.ret (.d (.int V))/\prd (rep T one) * (A x+(T * M - mx))<=D * V/\nb (500+100 * T) V
theorem sU {slf:y9} {s:Shp} (h:s.Ok) {one:zf} (hd:DayB one) {A:Int->Int} {D M mx:Int} (D0:0 < D) {T:Nat} (hT:T<=20) {past:zf} (hp:past.length<=50) {y:Int} (y1:-s.depth<=y) (y2:y<=s.top) (x:Sl)
  (ih:∀ (f:Int),0<=f->f < 16->LbOk s one A D M mx T (s.nx y f) (slf [.d s.d,.d (tI one),.d (.int T),.d (.int (s.nx y f)),.d (lI (past++[f]))])) (J8:Sl) :
  ∀ (l:zf) (k:Nat) (tot:Int) (b:Nat) (J10 J11 J12:Sl),k+l.length<=16->(∀ w∈l,nb 30 w/\0<=w)->nb b tot->540+100 * T<=b->∃ (V:Int) (K10 K11 K12:Sl),bX (bd (am (af 10) (am (af 11) bc))) (kd slf) (enu k l) [.d s.d,.d (tI one),.d (.int ((T:Int)+1)),x,.d (lI past),.d (.int y),.d (.int one.sum),.d (.int (prd (rep T one))),J8,.d (.int tot),J10,J11,J12]=.ret (.next [.d s.d,.d (tI one),.d (.int ((T:Int)+1)),x,.d (lI past),.d (.int y),.d (.int one.sum),.d (.int (prd (rep T one))),J8,.d (.int V),K10,K11,K12])/\D * tot+ws (λf=>prd (rep T one) * (D * s.day y f+A (s.nx y f))+prd (rep T one) * (T * M - mx)) k l<=D * V/\nb (b+l.length) V
 | [],k,tot,b,J10,J11,J12,_,_,hb,_=>⟨tot,J10,J11,J12,by rw [enu,tL],by rw [ws]; omega,by rw [wG]; exact hb⟩
 | w::l,k,tot,b,J10,J11,J12,hl,hw,hb,hbT=>by
  have t0:=h.t0
  have d0:=h.d0
  have td:=h.td
  rw [vp] at hl
  obtain ⟨w1,w2⟩:=hw w (by simp)
  have hw':∀ v∈l,nb 30 v/\0<=v:=λv hv=>hw v (ve _ hv)
  have eg:(bd (am (af 10) (am (af 11) bc))) (.tuple [.int (k:Int),.int w]) [.d s.d,.d (tI one),.d (.int ((T:Int)+1)),x,.d (lI past),.d (.int y),.d (.int one.sum),.d (.int (prd (rep T one))),J8,.d (.int tot),J10,J11,J12]=some [.d s.d,.d (tI one),.d (.int ((T:Int)+1)),x,.d (lI past),.d (.int y),.d (.int one.sum),.d (.int (prd (rep T one))),J8,.d (.int tot),.d (.int k),.d (.int w),J12]:=rfl
  by_cases c:w > 0
  ·obtain ⟨v,ev,hv,nv⟩:=(ih k (by omega) (by omega)).ex
   have e1:=Zoi s y k
   have e2:=Zol h y1 y2 (show (0:Int)<=k by omega) (by omega)
   have hy:nb 20 y:=bJ (by show -1048576 < _; omega) (by show _ < 1048576; omega)
   have hf:nb 40 (k:Int):=bJ (by show -1099511627776 < _; omega) (by show _ < 1099511627776; omega)
   have nP:=jU hd T
   have nd:=kz h hy hf
   have ni:=cU (bf nP nd) nv
   have f1:=aq nP (by omega)
   have f2:=aq nd (by decide)
   have f3:=aq w1 (by decide)
   have f4:=aq ni (by omega)
   have ea:aS ba (lI past) (.list [.int (k:Int)])=.ret (lI (past++[(k:Int)])):=by
    unfold lI
    rw [md (b7 (by rw [vd]; show past.length+1<=_; omega)),wC]
    rfl
   have eT:(T:Int)+1 - 1=T:=by omega
   have nt:nb (b+1) (tot+w * (prd (rep T one) * s.day y k+v)):=aD (cU hb (aD (bf w1 ni) (show _<=b by omega))) (by omega)
   obtain ⟨V,K10,K11,K12,q1,q2,q3⟩:=sU h hd D0 hT hp y1 y2 x ih J8 l (k+1) (tot+w * (prd (rep T one) * s.day y k+v)) (b+1) (.d (.int k)) (.d (.int w)) (.d (.int v)) (by omega) hw' nt (by omega)
   refine ⟨V,K10,K11,K12,?_,?_,aD q3 (by rw [vp]; omega)⟩
   ·have et:kd slf [.d s.d,.d (tI one),.d (.int ((T:Int)+1)),x,.d (lI past),.d (.int y),.d (.int one.sum),.d (.int (prd (rep T one))),J8,.d (.int tot),.d (.int k),.d (.int w),J12]=.ret (.next [.d s.d,.d (tI one),.d (.int ((T:Int)+1)),x,.d (lI past),.d (.int y),.d (.int one.sum),.d (.int (prd (rep T one))),J8,.d (.int (tot+w * (prd (rep T one) * s.day y k+v))),.d (.int k),.d (.int w),.d (.int v)]):=by
     simp_arith [kd,decide_eq_true c,e1,e2,ea,eT,ev,f1,f2,f3,f4]
    rw [enu,fb,eg,Tr.of_some,Tr.ret_bind,fy,et,Tr.ret_bind,eE,q1]
   ·refine yf ?_ q2
    rw [ws]
    have hwv:=vK hv w2
    have e3:D * (tot+w * (prd (rep T one) * s.day y k+v))=D * tot+w * (prd (rep T one) * (D * s.day y k))+w * (D * v):=by grind
    have e4:w * (prd (rep T one) * (D * s.day y k+A (s.nx y k))+prd (rep T one) * (T * M - mx))=w * (prd (rep T one) * (D * s.day y k))+w * (prd (rep T one) * (A (s.nx y k)+(T * M - mx))):=by grind
    rw [e3,e4]
    omega
  ·have w3:w=0:=by omega
   obtain ⟨V,K10,K11,K12,q1,q2,q3⟩:=sU h hd D0 hT hp y1 y2 x ih J8 l (k+1) tot b (.d (.int k)) (.d (.int w)) J12 (by omega) hw' hb hbT
   refine ⟨V,K10,K11,K12,?_,?_,aD q3 (by rw [vp]; omega)⟩
   ·have et:kd slf [.d s.d,.d (tI one),.d (.int ((T:Int)+1)),x,.d (lI past),.d (.int y),.d (.int one.sum),.d (.int (prd (rep T one))),J8,.d (.int tot),.d (.int k),.d (.int w),J12]=.ret (.next [.d s.d,.d (tI one),.d (.int ((T:Int)+1)),x,.d (lI past),.d (.int y),.d (.int one.sum),.d (.int (prd (rep T one))),J8,.d (.int tot),.d (.int k),.d (.int w),J12]):=by
     simp_arith [kd,decide_eq_false c]
    rw [enu,fb,eg,Tr.of_some,Tr.ret_bind,fy,et,Tr.ret_bind,eE,q1]
   ·refine yf ?_ q2
    rw [ws,w3,Int.zero_mul,ye]
    exact vN _
theorem lb3 {slf:y9} (X Y:Sl):∀ (l:zf) (k:Nat),(∀ f∈l,0<=f/\f < 16)->k+l.length<=100->∃ vs:zf,br (bL (bd (am (af 0) (am (af 1) bc))) (ny slf) [X,Y]) (enu k l)=.ret (vs.map PyData.int)
 | [],k,_,_=>⟨[],rfl⟩
 | f::l,k,hf,hk=>by
  rw [vp] at hk
  obtain ⟨vs,e⟩:=lb3 (slf:=slf) X Y l (k+1) (λg hg=>hf g (ve _ hg)) (by omega)
  have f1:=hf f (by simp)
  have g1:=aq (show nb 20 f from bJ (by show -1048576 < _; omega) (by show _ < 1048576; omega)) (by decide)
  have g2:=aq (show nb 20 ((k:Int)+2) from bJ (by show -1048576 < _; omega) (by show _ < 1048576; omega)) (by decide)
  have e0:bL (bd (am (af 0) (am (af 1) bc))) (ny slf) [X,Y] (.tuple [.int k,.int f])=.ret (.int (((k:Int)+2) * f)):=by
   simp_arith [ny,g1,g2]
  refine ⟨((k:Int)+2) * f::vs,?_⟩
  rw [enu,br,e0,Tr.ret_bind,e]
  rfl
theorem Zhx {s:Shp} (h:s.Ok) {one:zf} (hd:DayB one) {A:Int->Int} {D M mx:Int} (D0:0 < D) (hmx:∀ z,-s.depth<=z->z<=s.top->A z<=mx) (hle:∀ x y,-s.depth<=x->x<=y->y<=s.top->one.sum * (M+A x)<=vB s one A D x y) :
  ∀ (T n:Nat) (x:Int) (past:zf),T < n->T<=3->-s.depth<=x->x<=s.top->past.length+T<=50->(∀ f∈past,0<=f/\f < 16)->LbOk s one A D M mx T x (gi n [.d s.d,.d (tI one),.d (.int T),.d (.int x),.d (lI past)])
 | 0,n+1,x,past,_,_,x1,x2,_,_=>⟨0,by
   have e0:((((0:Nat):Int)) == 0)=true:=rfl
   show lG (gi n) _=_
   simp_arith [lG,e0],by
   show 1 * (A x+(((0:Nat):Int) * M - mx))<=D * 0
   have:=hmx x x1 x2
   simp
   omega,by exact Nat.pow_pos (by decide)⟩
 | T+1,n+1,x,past,hT,hT3,x1,x2,hp,hf=>by
  have t0:=h.t0
  have d0:=h.d0
  have td:=h.td
  obtain ⟨vs,e1⟩:=lb3 (slf:=gi n) .un .un past 0 hf (by omega)
  have es:bZ cH [.list (vs.map PyData.int)]=.ret (.int vs.sum):=tQ vs
  have hsm:small (enu 0 past).length=true:=b7 (by rw [tT]; omega)
  have m1:aS gg (.int vs.sum) (.int 13)=.ret (.int (vs.sum.fmod 13)):=o0 (by decide)
  have m2:aS gg (.int (vs.sum.fmod 13)) (.int (s.top - x+1))=.ret (.int ((vs.sum.fmod 13).fmod (s.top - x+1))):=o0 (by omega)
  have r1:0<=(vs.sum.fmod 13).fmod (s.top - x+1)/\(vs.sum.fmod 13).fmod (s.top - x+1) < s.top - x+1:=⟨Int.fmod_nonneg_of_pos _ (by omega),Int.fmod_lt_of_pos _ (by omega)⟩
  generalize (vs.sum.fmod 13).fmod (s.top - x+1)=r at *
  have y1:-s.depth<=x+r:=by omega
  have y2:x+r<=s.top:=by omega
  have eo:=Zoh h x1 (show x<=x+r by omega) y2
  have rr:dQ [.int (T:Int)]=.ret (aN 0 T):=gP (eD (by omega) (by omega))
  obtain ⟨K8,e2⟩:=lb1 (slf:=gi n) (.d s.d) (.d (tI one)) (.d (.int ((T:Int)+1))) (.d (.int x)) (.d (lI past)) (.d (.int (x+r))) .un .un .un .un hd T (aN 0 T) 0 .un (by rw [cA]; omega)
  have el:0+(aN 0 (T:Int)).length=T:=by rw [cA]; omega
  rw [el] at e2
  have ep0:prd (rep 0 one)=1:=rfl
  rw [ep0] at e2
  have nP:=jU hd T
  have hx:=dF h x1 x2
  have hy:=dF h y1 y2
  have on:=jX h hx hy
  have f1:=aq (cq hd) (by decide)
  have f2:=aq nP (by omega)
  have f3:=aq (bf (cq hd) nP) (by omega)
  have f4:=aq on (by decide)
  have ihh:∀ (f:Int),0<=f->f < 16->LbOk s one A D M mx T (s.nx (x+r) f) (gi n [.d s.d,.d (tI one),.d (.int T),.d (.int (s.nx (x+r) f)),.d (lI (past++[f]))]):=λf f0 f1 =>
   Zhx h hd D0 hmx hle T n (s.nx (x+r) f) (past++[f]) (by omega) (by omega) (eV s _ f) (eU h y2 f0) (by rw [v6,List.length_singleton]; omega) (λg hg=>by
    rcases wS.mp hg with q | q
    ·exact hf g q
    ·simp at q; subst q; exact ⟨f0,f1⟩)
  have n0:nb (540+100 * T) (one.sum * prd (rep T one) * s.ord x (x+r)):=aD (bf (bf (cq hd) nP) on) (by omega)
  have hlen:=hd.len
  obtain ⟨V,K10,K11,K12,e3,q2,q3⟩:=sU (slf:=gi n) h hd D0 (by omega) (past:=past) (by omega) y1 y2 (.d (.int x)) ihh K8 one 0 (one.sum * prd (rep T one) * s.ord x (x+r)) (540+100 * T) .un .un .un (by omega) (λw hw=>⟨hd.nb w hw,hd.w0 w hw⟩) n0 (vo _)
  have c0:((((T+1:Nat):Int)) == 0)=false:=beq_eq_false_iff_ne.mpr (by omega)
  have eT:((T+1:Nat):Int) - 1=T:=by omega
  have eT2:((T+1:Nat):Int)=(T:Int)+1:=rfl
  refine ⟨V,?_,?_,?_⟩
  ·show lG (gi n) _=_
   rw [eT2] at c0 eT ⊢
   have itp:cJ (lI past)=.ret (past.map PyData.int):=rfl
   simp_arith [lG,c0,itp,tU,hsm,e1,es,m1,m2,fq,eT,rr,e2,f1,f2,f3,f4,eo,oO,e3]
  ·refine yf ?_ q2
   have k:=hle x (x+r) x1 (by omega) y2
   have k2:=vK k (vG (nI hd.pos T))
   have e5:ws (λf=>prd (rep T one) * (D * s.day (x+r) f+A (s.nx (x+r) f))+prd (rep T one) * (T * M - mx)) 0 one=prd (rep T one) * s.wg one (x+r) A D+prd (rep T one) * (T * M - mx) * one.sum:=by
    rw [jD,fW,jC]
    rfl
   rw [e5]
   have k3:prd (rep T one) * (one.sum * (M+A x))<=prd (rep T one) * (D * one.sum * s.ord x (x+r))+prd (rep T one) * s.wg one (x+r) A D:=by rw [<- wt]; exact k2
   have ep:prd (rep (T+1) one)=prd (rep T one) * one.sum:=rfl
   have e6:prd (rep (T+1) one) * (A x+(((T+1:Nat):Int) * M - mx))=prd (rep T one) * (one.sum * (M+A x))+prd (rep T one) * (T * M - mx) * one.sum:=by
    rw [ep,eT2]
    grind
   have e7:D * (one.sum * prd (rep T one) * s.ord x (x+r))=prd (rep T one) * (D * one.sum * s.ord x (x+r)):=by grind
   rw [e6,e7]
   omega
  ·exact aD q3 (by omega)
end My
set_option Elab.async false
set_option linter.all false
set_option maxRecDepth 100000
set_option exponentiation.threshold 9000
namespace My
open L2 Tw Bar
theorem jj {p q:Int×Int} (hp:nb 4000 p.1/\nb 4000 p.2) (hq:nb 4000 q.1/\nb 4000 q.2):dG [.d (shr p),.d (shr q)]=.ret (.d (.bool (decide (p.1 * q.2 ≥ q.1 * p.2)))):=by
 have f1:=aq hp.1 (by decide)
 have f2:=aq hp.2 (by decide)
 have f3:=aq hq.1 (by decide)
 have f4:=aq hq.2 (by decide)
 simp_arith [dG,shr,f1,f2,f3,f4]
noncomputable def bnd (m:Int×Int) (T:Int) (p q:Int×Int):Int×Int:=(T * m.1 * (p.2 * q.2)+(p.1 * q.2 - q.1 * p.2) * m.2,m.2 * (p.2 * q.2))
theorem ZhE {m p q:Int×Int} {T:Int} (hT:nb 10 T) (hm:nb 230 m.2/\nb 1800 m.1) (hp:nb 230 p.2/\nb 1800 p.1) (hq:nb 230 q.2/\nb 1800 q.1):lP [.d (shr m),.d (.int T),.d (shr p),.d (shr q)]=.ret (.d (shr (bnd m T p q)))/\nb 4000 (bnd m T p q).1/\nb 4000 (bnd m T p q).2:=by
 have f0:=aq hT (by decide)
 have f1:=aq hm.1 (by decide)
 have f2:=aq hm.2 (by decide)
 have f3:=aq hp.1 (by decide)
 have f4:=aq hp.2 (by decide)
 have f5:=aq hq.1 (by decide)
 have f6:=aq hq.2 (by decide)
 have n1:=bf hp.1 hq.1
 have n2:=eW (bf hp.2 hq.1) (bf hq.2 hp.1)
 have n3:=bf hT hm.2
 have f7:=aq n1 (by decide)
 have f8:=aq n2 (by decide)
 have f9:=aq n3 (by decide)
 refine ⟨?_,aD (cU (bf n3 n1) (bf n2 hm.1)) (by decide),aD (bf hm.1 n1) (by decide)⟩
 simp_arith [lP,shr,bnd,f0,f1,f2,f3,f4,f5,f6,f7,f8,f9]
theorem l7 {a b P Q D N bt bb:Int} (h1:a * Q=P * b) (h2:bt * D=N * bb) (Q0:0 < Q) (b0:0 < b) (D0:0 < D) (bb0:0 < bb):a * bb ≥ bt * b ↔ N * Q<=P * D:=by
 have e1:a * bb * (Q * D)=(P * D) * (b * bb):=by
  have:a * bb * (Q * D)=a * Q * (bb * D):=by grind
  rw [this,h1]
  grind
 have e2:bt * b * (Q * D)=(N * Q) * (b * bb):=by
  have:bt * b * (Q * D)=bt * D * (b * Q):=by grind
  rw [this,h2]
  grind
 have p1:=vQ Q0 D0
 have p2:=vQ b0 bb0
 constructor
 ·intro z
  have:=vL z (vG p1)
  rw [e1,e2] at this
  exact wI this p2
 ·intro z
  have:=vL z (vG p2)
  rw [<- e1,<- e2] at this
  exact wI this p1
theorem Ziq {m p q:Int×Int} {T D M u v:Int} (hm:m.1 * D=M * m.2) (hp:p.1 * D=u * p.2) (hq:q.1 * D=v * q.2):(bnd m T p q).1 * D=(u+(T * M - v)) * (bnd m T p q).2:=by
 show (T * m.1 * (p.2 * q.2)+(p.1 * q.2 - q.1 * p.2) * m.2) * D=(u+(T * M - v)) * (m.2 * (p.2 * q.2))
 have:(T * m.1 * (p.2 * q.2)+(p.1 * q.2 - q.1 * p.2) * m.2) * D=T * (m.1 * D) * (p.2 * q.2)+((p.1 * D) * q.2 - (q.1 * D) * p.2) * m.2:=by grind
 rw [this,hm,hp,hq]
 grind
structure LoHi (ws:List (Int×Int)) (lo hi:Int×Int):Prop where
 l:lo∈ws
 h:hi∈ws
 le:∀ p∈ws,lo.1 * p.2<=p.1 * lo.2
 ge:∀ p∈ws,p.1 * hi.2<=hi.1 * p.2
theorem oF {a b c:Int×Int} (a0:0 < a.2) (b0:0 < b.2) (c0:0 < c.2) (h1:a.1 * b.2<=b.1 * a.2) (h2:b.1 * c.2<=c.1 * b.2):a.1 * c.2<=c.1 * a.2:=by
 have k1:=vL h1 (vG c0)
 have k2:=vL h2 (vG a0)
 have e1:a.1 * b.2 * c.2=a.1 * c.2 * b.2:=by grind
 have e2:b.1 * a.2 * c.2=b.1 * c.2 * a.2:=by grind
 have e3:c.1 * b.2 * a.2=c.1 * a.2 * b.2:=by grind
 rw [e1,e2] at k1
 rw [e3] at k2
 exact wI (yf k1 k2) b0
theorem bw1 {W:Sl} {all:List (Int×Int)} (ha:∀ p∈all,0 < p.2/\nb 230 p.2/\nb 1800 p.1):∀ (ws pre:List (Int×Int)) (lo hi:Int×Int) (J3:Sl),(∀ p∈ws,p∈all)->(∀ p∈pre,p∈all)->LoHi pre lo hi->∃ (lo' hi':Int×Int) (K3:Sl),bX (af 3) jc (ws.map shr) [W,.d (shr lo),.d (shr hi),J3]=.ret (.next [W,.d (shr lo'),.d (shr hi'),K3])/\LoHi (pre++ws) lo' hi'
 | [],pre,lo,hi,J3,_,_,h=>⟨lo,hi,J3,rfl,by rw [wn]; exact h⟩
 | p::ws,pre,lo,hi,J3,hw,hp,h=>by
  have n4:∀ q:Int×Int,q∈all->nb 4000 q.1/\nb 4000 q.2:=λq hq=>⟨aD (ha q hq).2.2 (by decide),aD (ha q hq).2.1 (by decide)⟩
  have pa:=hw p (by simp)
  have la:=hp lo h.l
  have ga:=hp hi h.h
  have e1:=jj (n4 p pa) (n4 lo la)
  have e2:=jj (n4 hi ga) (n4 p pa)
  have eg:af 3 (shr p) [W,.d (shr lo),.d (shr hi),J3]=some [W,.d (shr lo),.d (shr hi),.d (shr p)]:=rfl
  have em:∀ q,q∈pre++[p]->q∈all:=λq hq=>by
   rcases wS.mp hq with z | z
   ·exact hp q z
   ·simp at z; subst z; exact pa
  have key:∃ ip hi1,jc [W,.d (shr lo),.d (shr hi),.d (shr p)]=.ret (.next [W,.d (shr ip),.d (shr hi1),.d (shr p)])/\LoHi (pre++[p]) ip hi1:=by
   have g1:∀ q∈pre++[p],q∈pre\/q=p:=λq hq=>by
    rcases wS.mp hq with z | z
    ·exact .inl z
    ·simp at z; exact .inr z
   by_cases c1:p.1 * lo.2 ≥ lo.1 * p.2
   ·by_cases c2:hi.1 * p.2 ≥ p.1 * hi.2
    ·refine ⟨lo,hi,?_,?_⟩
     ·simp_arith [jc,e1,e2,decide_eq_true c1,decide_eq_true c2,vZ]
     ·exact ⟨wk _ h.l,wk _ h.h,λq hq=>by
       rcases g1 q hq with z | rfl
       ·exact h.le q z
       ·exact c1,λq hq=>by
       rcases g1 q hq with z | rfl
       ·exact h.ge q z
       ·exact c2⟩
    ·refine ⟨lo,p,?_,?_⟩
     ·simp_arith [jc,e1,e2,decide_eq_true c1,decide_eq_false c2,vZ,wo]
     ·exact ⟨wk _ h.l,vz _ (by simp),λq hq=>by
       rcases g1 q hq with z | rfl
       ·exact h.le q z
       ·exact c1,λq hq=>by
       rcases g1 q hq with z | rfl
       ·exact oF (ha q (hp q z)).1 (ha hi ga).1 (ha p pa).1 (h.ge q z) (by omega)
       ·exact vN _⟩
   ·by_cases c2:hi.1 * p.2 ≥ p.1 * hi.2
    ·refine ⟨p,hi,?_,?_⟩
     ·simp_arith [jc,e1,e2,decide_eq_false c1,decide_eq_true c2,vZ,wo]
     ·exact ⟨vz _ (by simp),wk _ h.h,λq hq=>by
       rcases g1 q hq with z | rfl
       ·exact oF (ha p pa).1 (ha lo la).1 (ha q (hp q z)).1 (by omega) (h.le q z)
       ·exact vN _,λq hq=>by
       rcases g1 q hq with z | rfl
       ·exact h.ge q z
       ·exact c2⟩
    ·refine ⟨p,p,?_,?_⟩
     ·simp_arith [jc,e1,e2,decide_eq_false c1,decide_eq_false c2,wo]
     ·exact ⟨vz _ (by simp),vz _ (by simp),λq hq=>by
       rcases g1 q hq with z | rfl
       ·exact oF (ha p pa).1 (ha lo la).1 (ha q (hp q z)).1 (by omega) (h.le q z)
       ·exact vN _,λq hq=>by
       rcases g1 q hq with z | rfl
       ·exact oF (ha q (hp q z)).1 (ha hi ga).1 (ha p pa).1 (h.ge q z) (by omega)
       ·exact vN _⟩
  obtain ⟨ip,hi1,et,h1⟩:=key
  obtain ⟨lo',hi',K3,e,h2⟩:=bw1 (W:=W) ha ws (pre++[p]) ip hi1 (.d (shr p)) (λq hq=>hw q (ve _ hq)) em h1
  refine ⟨lo',hi',K3,?_,by rw [xa] at h2; exact h2⟩
  rw [vC,fb,eg,Tr.of_some,Tr.ret_bind,fy,et,Tr.ret_bind,eE,e]
theorem Zor {ws:List (Int×Int)} (h0:0 < ws.length) (ha:∀ p∈ws,0 < p.2/\nb 230 p.2/\nb 1800 p.1):∃ lo hi,ot [.d (.tuple (ws.map shr))]=.ret (.d (.tuple [shr lo,shr hi]))/\LoHi ws lo hi:=by
 obtain ⟨p,ws',rfl⟩:∃ p ws',ws=p::ws':=by
  cases ws with
  | nil=>simp at h0
  | cons p ws'=>exact ⟨p,ws',rfl⟩
 obtain ⟨lo,hi,K3,e,h⟩:=bw1 (W:=.d (.tuple ((p::ws').map shr))) ha (p::ws') [p] p p .un (λq hq=>hq) (λq hq=>by simp at hq; subst hq; simp) ⟨by simp,by simp,λq hq=>by simp at hq; subst hq; exact vN _,λq hq=>by simp at hq; subst hq; exact vN _⟩
 have hm:∀ q,q∈[p]++p::ws' ↔ q∈p::ws':=λq=>by simp
 refine ⟨lo,hi,?_,(hm lo).mp h.l,(hm hi).mp h.h,λq hq=>h.le q ((hm q).mpr hq),λq hq=>h.ge q ((hm q).mpr hq)⟩
 rw [vC] at e ⊢
 simp_arith [ot,e]
end My
set_option Elab.async false
set_option linter.all false
set_option maxRecDepth 100000
set_option exponentiation.threshold 9000
namespace My
open L2 Tw
theorem r8:∀ {fs:List zf},(∀ l∈fs,DayB l)->nb (46 * fs.length+1) (prd fs)
 | [],_=>(show (1:Int).natAbs < 2 ^ (46 * 0+1) by decide)
 | d::fs,h=>by
  have ih:=r8 (fs:=fs) λl hl=>h l (ve _ hl)
  rw [prd,vp]
  exact aD (bf ih (cq (h d (by simp)))) (by omega)
theorem ut {s:Shp} (h:s.Ok) {fs:List zf} (hf:∀ l∈fs,DayB l) (hl:fs.length<=6) {rl:List (Int->Int)} (hr:∀ g∈rl,s.RlOk g):Bd s 500 λx=>av fs λr=>s.rc rl r x:=λx x1 x2 =>
 aD (ZiB (b:=108) hf λr r1 r2=>aD (Zb0 h hr r1 x x1 x2) (by omega)) (by omega)
theorem ZpD {s:Shp} {d:zf} {fs:List zf} {g:Int->Int} {rl:List (Int->Int)} (x:Int):cby s d (λy=>av fs λr=>s.rc rl r y) (prd fs) g x=av (d::fs) λr=>s.rc (g::rl) r x:=by
 rw [ur]
 unfold cby Shp.wg
 rw [wD (prd fs * d.sum)]
theorem ZhC {s:Shp} (h:s.Ok) {fs:List zf} (hf:∀ l∈fs,DayB l) (hl:fs.length<=6) {rl:List (Int->Int)} (hr:∀ g∈rl,s.RlOk g) (hrl:rl.length=fs.length) {x:Int} (x1:-s.depth<=x) (x2:x<=s.top) :
  lV [.d s.d,.d (fD fs),.d (rD s rl),.d (.int x)]=.ret (.d (cI (av fs λr=>s.rc rl r x) (prd fs))):=by
 have hsub:∀ k,∀ l∈fs.drop k,DayB l:=λk l hl=>hf l (yh hl)
 have hrs:∀ k,∀ g∈rl.drop k,s.RlOk g:=λk g hg=>hr g (yh hg)
 have hA:∀ k,Bd s 500 λx=>av (fs.drop k) λr=>s.rc (rl.drop k) r x:=λk=>ut h (hsub k) (by rw [wK]; omega) (hrs k)
 have hP:∀ k,nb 500 (prd (fs.drop k)):=λk=>aD (r8 (hsub k)) (by rw [wK]; omega)
 have r1:dQ [.int (fs.length:Int)]=.ret (aN 0 fs.length):=gP (eD (by omega) (by omega))
 have ef:s.row s.fin=s.row λx=>av (fs.drop fs.length) λr=>s.rc (rl.drop fs.length) r x:=by
  rw [wL,<- hrl,wL]
  rfl
 have ep:(1:Int)=prd (fs.drop fs.length):=by rw [wL]; rfl
 apply mo
 simp_arith only [lV,ZhA h,Zm8,r1]
 rw [ef]
 refine eK (n:=0) (n':=0) (P:=λo=>∃ J6:Sl,o=.next [.d s.d,.d (fD fs),.d (rD s rl),.d (.int x),.d (lI (s.row λx=>av fs λr=>s.rc rl r x)),.d (.int (prd fs)),J6]) ?_ (by decide) ?_
 ·refine kG (n:=0) (λpre ρ=>∃ J6:Sl,ρ=[.d s.d,.d (fD fs),.d (rD s rl),.d (.int x),.d (lI (s.row λx=>av (fs.drop (fs.length - pre.length)) λr=>s.rc (rl.drop (fs.length - pre.length)) r x)),.d (.int (prd (fs.drop (fs.length - pre.length)))),J6]) ⟨.un,?_⟩ (by simp) ?_ ?_
  ·rw [wG,Nat.sub_zero,<- ep]
   rfl
  ·rintro pre z post ρ e ⟨J6,rfl⟩
   obtain ⟨rfl,hpre⟩:=ZbP e
   have hk:pre.length < fs.length:=by omega
   obtain ⟨d,hd⟩:∃ d,fs[fs.length - (pre.length+1)]?=some d:=⟨_,vx (by omega)⟩
   obtain ⟨g,hg⟩:∃ g,rl[fs.length - (pre.length+1)]?=some g:=⟨_,vx (by omega)⟩
   have hdd:=hf d (wu hd)
   have hgg:=hr g (wu hg)
   have ez:(fs.length:Int) - 1 - (pre.length:Int)=((fs.length - (pre.length+1):Nat):Int):=by omega
   have es:fs.length - (pre.length+1)+1=fs.length - pre.length:=by omega
   have ed:fs.drop (fs.length - (pre.length+1))=d::fs.drop (fs.length - pre.length):=by
    rw [<- es]; exact yl .. |>.trans (by rw [hd]; rfl)
   have eg:rl.drop (fs.length - (pre.length+1))=g::rl.drop (fs.length - pre.length):=by
    rw [<- es]; exact yl .. |>.trans (by rw [hg]; rfl)
   have a1:aS ao (fD fs) (.int ((fs.length - (pre.length+1):Nat):Int))=.ret (tI d):=by
    unfold fD
    rw [dI,fe (v:=tI d) (by omega) (by rw [v3,vg,hd]; rfl)]
    rfl
   have a2:aS ao (rD s rl) (.int ((fs.length - (pre.length+1):Nat):Int))=.ret (tI (s.row g)):=by
    unfold rD
    rw [dI,fe (v:=tI (s.row g)) (by omega) (by rw [v3,vg,hg]; rfl)]
    rfl
   have e1:=ZhB h hdd (hA (fs.length - pre.length)) (hP (fs.length - pre.length)) (by decide) hgg (oO (s.row g))
   have g1:=aq (hP (fs.length - pre.length)) (by decide)
   have g2:=aq (cq hdd) (by decide)
   have el:∀ z:PyData,(pre++[z]).length=pre.length+1:=λz=>by simp
   have er:s.row (cby s d (λy=>av (fs.drop (fs.length - pre.length)) λr=>s.rc (rl.drop (fs.length - pre.length)) r y) (prd (fs.drop (fs.length - pre.length))) g)=s.row λx=>av (d::fs.drop (fs.length - pre.length)) λr=>s.rc (g::rl.drop (fs.length - pre.length)) r x:=ZkZ λx _ _=>ZpD x
   rw [er] at e1
   rw [el,ed,eg,ez]
   refine ⟨_,rfl,?_⟩
   simp_arith only [ZdD,a1,a2,e1,fq,g1,g2]
   exact cN ⟨_,rfl,_,rfl⟩
  ·rintro ρ ⟨J6,rfl⟩
   refine ⟨J6,?_⟩
   rw [wb,cA,show fs.length - ((fs.length:Int) - 0).toNat=0 by omega,xG,xG]
 ·rintro _ ⟨J6,rfl⟩
  have a3:=rA (s:=s) (f:=λx=>av fs λr=>s.rc rl r x) x1 x2
  have hpos:0 < prd fs:=by rw [lr s]; exact um hf
  have e3:=kw (t:=av fs λr=>s.rc rl r x) (b:=prd fs) (wx hpos) (aD (r8 hf) (by omega))
  simp_arith only [lI,a3,e3]
  exact cN rfl
end My
set_option Elab.async false
set_option linter.all false
set_option maxRecDepth 100000
set_option exponentiation.threshold 9000
namespace My
open L2 Tw Bar
theorem br1 (a b c d:Sl) {one:zf} (hd:DayB one):∀ (l:ze) (k:Nat) (J6:Sl),k+l.length<=100->∃ K6:Sl,bX (af 6) oJ l [a,.d (tI one),b,c,d,.d (.int (prd (rep k one))),J6]=.ret (.next [a,.d (tI one),b,c,d,.d (.int (prd (rep (k+l.length) one))),K6])
 | [],k,J6,_=>⟨J6,rfl⟩
 | q::l,k,J6,hb=>by
  rw [vp] at hb
  obtain ⟨K6,e⟩:=br1 a b c d hd l (k+1) (.d q) (by omega)
  refine ⟨K6,?_⟩
  have f1:=aq (jU hd k) (by omega)
  have f2:=aq (cq hd) (by decide)
  have ep:prd (rep k one) * one.sum=prd (rep (k+1) one):=rfl
  have et:oJ [a,.d (tI one),b,c,d,.d (.int (prd (rep k one))),.d q]=.ret (.next [a,.d (tI one),b,c,d,.d (.int (prd (rep (k+1) one))),.d q]):=by
   simp_arith [oJ,fq,f1,f2,ep]
  have eg:af 6 q [a,.d (tI one),b,c,d,.d (.int (prd (rep k one))),J6]=some [a,.d (tI one),b,c,d,.d (.int (prd (rep k one))),.d q]:=rfl
  rw [fb,eg,Tr.of_some,Tr.ret_bind,fy,et,Tr.ret_bind,eE,e,vp]
  have:k+1+l.length=k+(l.length+1):=by omega
  rw [this]
structure St (s:Shp) (one:zf) (m:Int×Int) (ws:List (Int×Int)) (ls:zf) (D M:Int) (A:Int->Int):Prop where
 u:Num s m ws D M A
 k:∀ x,-s.depth<=x->x<=s.top->fF s one A D M x (bv s ls x)
theorem Zkh {s:Shp} (h:s.Ok) {one:zf} {m:Int×Int} {ws:List (Int×Int)} {ls:zf} (l1:ws.length=s.n) (l2:ls.length=s.n) (sw:∀ p∈ws,IsSh p) (hv:fU s ls) (k:LkP s one m ws ls):St s one m ws ls (db m.2 ws) (ovr (db m.2 ws) m) (i9 s m ws):=by
 have hn:=h.n_eq
 refine ⟨nU h l1 k.sm.pos λp hp=>(sw p hp).pos,λx x1 x2=>?_⟩
 have hk:(x+s.depth).toNat < ls.length:=by omega
 have ex:(((x+s.depth).toNat:Nat):Int) - s.depth=x:=by omega
 have e:=ZiF (s:=s) hk
 have q:=k.lk _ hk
 rw [<- e,ex] at q
 exact q
theorem ZnC {s:Shp} (h:s.Ok) {m:Int×Int} {ws:List (Int×Int)} (l1:ws.length=s.n) (w0:∀ p∈ws,0 < p.2) {D M:Int} {A:Int->Int} (u:Num s m ws D M A) {lo hi:Int×Int} (b:LoHi ws lo hi):∃ vl vh:Int,lo.1 * D=vl * lo.2/\hi.1 * D=vh * hi.2/\(∀ z,-s.depth<=z->z<=s.top->vl<=A z)/\∀ z,-s.depth<=z->z<=s.top->A z<=vh:=by
 have hn:=h.n_eq
 have at_of:∀ p∈ws,∃ v:Int,p.1 * D=v * p.2:=λp hp=>by
  obtain ⟨j,hj,rfl⟩:=List.mem_iff_getElem.mp hp
  have:=u.w ((j:Int) - s.depth) (by omega) (by omega)
  rw [Zcu hj] at this
  exact ⟨_,this⟩
 obtain ⟨vl,el⟩:=at_of lo b.l
 obtain ⟨vh,eh⟩:=at_of hi b.h
 have l0:=w0 lo b.l
 have h0:=w0 hi b.h
 refine ⟨vl,vh,el,eh,λz z1 z2=>?_,λz z1 z2=>?_⟩
 ·have hm:=gF h l1 z1 z2
  have p0:=w0 _ hm
  have e:=u.w z z1 z2
  have k:=vL (b.le _ hm) (vG u.D0)
  generalize pw s ws z=p at *
  have e1:lo.1 * p.2 * D=vl * (lo.2 * p.2):=by
   have:lo.1 * p.2 * D=lo.1 * D * p.2:=by grind
   rw [this,el]; grind
  have e2:p.1 * lo.2 * D=A z * (lo.2 * p.2):=by
   have:p.1 * lo.2 * D=p.1 * D * lo.2:=by grind
   rw [this,e]; grind
  rw [e1,e2] at k
  exact wI k (vQ l0 p0)
 ·have hm:=gF h l1 z1 z2
  have p0:=w0 _ hm
  have e:=u.w z z1 z2
  have k:=vL (b.ge _ hm) (vG u.D0)
  generalize pw s ws z=p at *
  have e1:hi.1 * p.2 * D=vh * (hi.2 * p.2):=by
   have:hi.1 * p.2 * D=hi.1 * D * p.2:=by grind
   rw [this,eh]; grind
  have e2:p.1 * hi.2 * D=A z * (hi.2 * p.2):=by
   have:p.1 * hi.2 * D=p.1 * D * hi.2:=by grind
   rw [this,e]; grind
  rw [e1,e2] at k
  exact wI k (vQ h0 p0)
noncomputable abbrev gm (s:Shp) (one:zf) (m:Int×Int) (A5:Sl) (ls:zf) (A7 A8:Sl) (t:Nat) (rl:List (Int->Int)) (ws:List (Int×Int)) (lo hi:Int×Int) (k J18 J19 J20:Sl):zl:=[.un,.pen,.d s.d,.d (tI one),.d (shr m),A5,.d (tI ls),A7,A8,.d (.int ((t:Int)+1)),.d (fD (rep (t+1) one)),.d (.int s.n),.d (rD s rl),.d (s.tday one (rep t one)),.d (.tuple (ws.map shr)),.d (shr lo),.d (shr hi),k,J18,J19,J20]
theorem lq1 {s:Shp} (h:s.Ok) (n8:s.n<=9) {one:zf} (hd:DayB one) {m:Int×Int} {ws:List (Int×Int)} {ls:zf} (hm:nb 230 m.2/\nb 1800 m.1) (hw:∀ p∈ws,nb 230 p.2/\nb 1800 p.1) (l1:ws.length=s.n) (l2:ls.length=s.n) (sm:IsSh m) (sw:∀ p∈ws,IsSh p) (hv:fU s ls) (f0:∀ x,s.fin x=0) {D M:Int} {A:Int->Int} (st:St s one m ws ls D M A) {t:Nat} (ht:t<=5) {rl:List (Int->Int)} (r1:∀ g∈rl,s.RlOk g) (r2:rl.length=t+1) {lo hi:Int×Int} (b:LoHi ws lo hi) {i:Nat} (hi':i < s.n) (A5 A7 A8 J18 J19 J20:Sl) :
  ∃ K18 K19 K20:Sl,ke (gm s one m A5 ls A7 A8 t rl ws lo hi (.d (.int i)) J18 J19 J20)=.ret (.next (gm s one m A5 ls A7 A8 t rl ws lo hi (.d (.int i)) K18 K19 K20)):=by
 have hn:=h.n_eq
 have t0:=h.t0
 have d0:=h.d0
 have td:=h.td
 have w0:∀ p∈ws,0 < p.2:=λp hp=>(sw p hp).pos
 have hil:i < ws.length:=by omega
 have x1:-s.depth<=(i:Int) - s.depth:=by omega
 have x2:(i:Int) - s.depth<=s.top:=by omega
 obtain ⟨vl,vh,el,eh,hlo,hhi⟩:=ZnC h l1 w0 st.u b
 have hle:∀ x y,-s.depth<=x->x<=y->y<=s.top->one.sum * (M+A x)<=vB s one A D x y:=λx y a1 a2 a3=>(st.k x a1 (by omega)).2 y a2 a3
 have hg:s.RlOk (bv s ls):=λx x1 x2=>by
  have hk:(x+s.depth).toNat < ls.length:=by omega
  have:=hv _ hk
  unfold bv
  rw [vx hk]
  show x<=ls[(x+s.depth).toNat]/\ls[(x+s.depth).toNat]<=s.top
  omega
 have k1:=Zir h hd (M:=M) st.u.D0 f0 hhi hle (t+1) ((i:Int) - s.depth) x1 x2
 have k2:=ZcJ h hd (D:=D) (M:=M) hg f0 hlo (λx a1 a2=>(st.k x a1 a2).1) (t+1) ((i:Int) - s.depth) x1 x2
 have hfs:∀ l∈rep (t+1) one,DayB l:=λl hl=>by rw [rH hl]; exact hd
 have hlen:(rep (t+1) one).length=t+1:=iQ _ _
 have hrg:∀ g∈rep (t+1) (bv s ls),s.RlOk g:=λg hq=>by rw [rH hq]; exact hg
 have k3:=rK h hfs hrg (by rw [iQ,hlen]) ((i:Int) - s.depth) x1 x2
 have k4:=rK h hfs r1 (by rw [r2,hlen]) ((i:Int) - s.depth) x1 x2
 have c1:=ZhC h hfs (by rw [hlen]; omega) hrg (by rw [iQ,hlen]) x1 x2
 have c2:=ZhC h hfs (by rw [hlen]; omega) r1 (by rw [r2,hlen]) x1 x2
 have nbk:=(uo h hfs).1 ((i:Int) - s.depth) x1 x2
 have now:nb 500 (av (rep (t+1) one) λr=>s.rc (rep (t+1) (bv s ls)) r ((i:Int) - s.depth)):=ut h hfs (by rw [hlen]; omega) hrg ((i:Int) - s.depth) x1 x2
 have nob:nb 500 (av (rep (t+1) one) λr=>s.rc rl r ((i:Int) - s.depth)):=ut h hfs (by rw [hlen]; omega) r1 ((i:Int) - s.depth) x1 x2
 rw [hlen] at nbk
 have nP:=jU hd (t+1)
 have P0:=nI hd.pos (t+1)
 have pe:=st.u.w ((i:Int) - s.depth) x1 x2
 rw [Zcu hil] at pe
 have hT:nb 10 ((t:Int)+1):=bJ (by show -1024 < _; omega) (by show _ < 1024; omega)
 obtain ⟨b1,b2,b3⟩:=ZhE hT hm (hw _ (ww hil)) (hw _ b.h)
 obtain ⟨b4,b5,b6⟩:=ZhE hT hm (hw _ (ww hil)) (hw _ b.l)
 have q1:=Ziq (T:=(t:Int)+1) st.u.m pe eh
 have q2:=Ziq (T:=(t:Int)+1) st.u.m pe el
 have bb1:0 < (bnd m ((t:Int)+1) ws[i] hi).2:=vQ sm.pos (vQ (w0 _ (ww hil)) (w0 _ b.h))
 have bb2:0 < (bnd m ((t:Int)+1) ws[i] lo).2:=vQ sm.pos (vQ (w0 _ (ww hil)) (w0 _ b.l))
 have eB:(s.bk (rep (t+1) one)).2=prd (rep (t+1) one):=(lr s _).symm
 have low4:∀ {c:Int} {k:Nat},nb k c->k<=4000->nb 4000 (cQ c (prd (rep (t+1) one))).1/\nb 4000 (cQ c (prd (rep (t+1) one))).2:=λhc hk=>by
  obtain ⟨a,b⟩:=sP hc nP (by omega)
  exact ⟨aD a hk,aD b (by omega)⟩
 have eT:(((t+1:Nat):Int))=(t:Int)+1:=rfl
 rw [eT] at k1 k2
 generalize hbk:(s.bk (rep (t+1) one)).1 ((i:Int) - s.depth)=bk at *
 generalize hP:prd (rep (t+1) one)=P at *
 generalize how:(av (rep (t+1) one) λr=>s.rc (rep (t+1) (bv s ls)) r ((i:Int) - s.depth))=ow at *
 generalize hob:(av (rep (t+1) one) λr=>s.rc rl r ((i:Int) - s.depth))=ob at *
 have n1:=low4 nbk (by omega)
 have n2:=low4 now (by decide)
 have n3:=low4 nob (by decide)
 have z1:dG [.d (cI bk P),.d (shr (bnd m ((t:Int)+1) ws[i] hi))]=.ret (.d (.bool true)):=by
  have:=jj n1 ⟨b2,b3⟩
  rw [decide_eq_true ((l7 (gq (t:=bk) P0) q1 P0 (dH P0).pos st.u.D0 bb1).mpr (by rw [wD,wD bk]; exact k1))] at this
  exact this
 have z2:dG [.d (cI ow P),.d (cI bk P)]=.ret (.d (.bool true)):=by
  have:=jj n2 n1
  rw [decide_eq_true ((l7 (gq (t:=ow) P0) (gq (t:=bk) P0) P0 (dH P0).pos P0 (dH P0).pos).mpr (vL k3 (vG P0)))] at this
  exact this
 have z3:dG [.d (shr (bnd m ((t:Int)+1) ws[i] lo)),.d (cI ow P)]=.ret (.d (.bool true)):=by
  have:=jj ⟨b5,b6⟩ n2
  rw [decide_eq_true ((l7 q2 (gq (t:=ow) P0) st.u.D0 bb2 P0 (dH P0).pos).mpr (by rw [wD,wD _ P]; exact k2))] at this
  exact this
 have z4:dG [.d (cI ob P),.d (cI bk P)]=.ret (.d (.bool true)):=by
  have:=jj n3 n1
  rw [decide_eq_true ((l7 (gq (t:=ob) P0) (gq (t:=bk) P0) P0 (dH P0).pos P0 (dH P0).pos).mpr (vL k4 (vG P0)))] at this
  exact this
 have a1:bw (ws.map shr) (i:Int)=some (shr ws[i]):=fe (by omega) (by rw [vg,show ((i:Int)).toNat=i by omega,vx hil]; rfl)
 have er:aS h9 (.tuple [tI ls]) (.int ((t:Int)+1))=.ret (rD s (rep (t+1) (bv s ls))):=by
  rw [Zfg (by
   rw [decide_eq_true (show (-1000:Int)<=(t:Int)+1 by omega),decide_eq_true (show (t:Int)+1<=1000 by omega)]
   rfl)]
  have e1:((t:Int)+1).toNat=t+1:=by omega
  rw [e1]
  unfold rD
  have e2:∀ n:Nat,(List.replicate n [tI ls]).flatten=(rep n (bv s ls)).map λg=>tI (s.row g):=by
   intro n
   induction n with
   | zero=>rfl
   | succ n ih=>
    have e3:rep (n+1) (bv s ls)=bv s ls::rep n (bv s ls):=rfl
    rw [vP,wa,ih,e3,vC,np h l2]; rfl
  rw [e2]
 have ef:aS ao (s.tday one (rep t one)) (.int i)=.ret (iw bk P (s.lv one (rep t one) ((i:Int) - s.depth))):=by
  unfold Shp.tday
  rw [dI,fe (v:=iw bk P (s.lv one (rep t one) ((i:Int) - s.depth))) (by omega) (by
   unfold aG
   rw [vH,vg,show ((i:Int)).toNat=i by omega,vF hi']
   have e:-s.depth+(i:Int)=(i:Int) - s.depth:=by omega
   show some (iw ((s.bk (rep (t+1) one)).1 (-s.depth+(i:Int))) (s.bk (rep (t+1) one)).2 (s.lv one (rep t one) (-s.depth+(i:Int))))=_
   rw [e,hbk,eB])]
  rfl
 have e0:∀ l:Int,aS ao (iw bk P l) (.int 0)=.ret (cI bk P):=λl=>by unfold iw; rw [dI,mh]; rfl
 have z5:t+1 < 4->ou [.d s.d,.d (tI one),.d (.int ((t:Int)+1)),.d (.int ((i:Int) - s.depth)),.d (shr (bnd m ((t:Int)+1) ws[i] hi))]=.ret (.d (.bool true)):=λh4=>by
  have rr:dQ [.int ((t:Int)+1)]=.ret (aN 0 ((t:Int)+1)):=gP (eD (by omega) (by omega))
  obtain ⟨K6,e1⟩:=br1 (.d s.d) (.d (.int ((t:Int)+1))) (.d (.int ((i:Int) - s.depth))) (.d (shr (bnd m ((t:Int)+1) ws[i] hi))) hd (aN 0 ((t:Int)+1)) 0 .un (by rw [cA]; omega)
  have ell:0+(aN 0 ((t:Int)+1)).length=t+1:=by rw [cA]; omega
  have ep0:prd (rep 0 one)=1:=rfl
  rw [ell,ep0,hP] at e1
  obtain ⟨V,e2,v1,v2⟩:=(Zhx h hd (M:=M) st.u.D0 hhi hle (t+1) 6 ((i:Int) - s.depth) [] (by omega) (by omega) x1 x2 (by simp; omega) (λf hf=>by cases hf)).ex
  rw [hP,eT] at v1
  have e3:=jj (p:=(V,P)) ⟨aD v2 (by omega),aD nP (by omega)⟩ ⟨b2,b3⟩
  rw [decide_eq_true ((l7 (a:=V) (b:=P) (Q:=P) (P:=V) rfl q1 P0 P0 st.u.D0 bb1).mpr (by rw [wD,wD V]; exact v1))] at e3
  have el0:lI []=PyData.list []:=rfl
  rw [el0,eT] at e2
  have e3':dG [.d (.tuple [.int V,.int P]),.d (shr (bnd m ((t:Int)+1) ws[i] hi))]=.ret (.d (.bool true)):=e3
  simp_arith only [ou,rr,e1,e2,e3']
 refine ⟨.d (.int ((i:Int) - s.depth)),.d (shr (bnd m ((t:Int)+1) ws[i] hi)),.d (cI ow P),?_⟩
 by_cases h4:(t:Int)+1 < 4
 ·have z5':=z5 (by omega)
  by_cases h6:(s.n:Int) < 6
  ·simp_arith only [ke,gm,a1,b1,b4,er,c1,c2,ef,e0,z1,z2,z3,z4,z5',decide_eq_true h4,decide_eq_true h6,vZ]
  ·simp_arith only [ke,gm,a1,b1,b4,er,c1,c2,ef,e0,z1,z2,z3,z4,decide_eq_true h4,decide_eq_false h6,vZ]
 ·simp_arith only [ke,gm,a1,b1,b4,er,c1,c2,ef,e0,z1,z2,z3,z4,decide_eq_false h4,vZ]
end My
set_option Elab.async false
set_option linter.all false
set_option maxRecDepth 100000
set_option exponentiation.threshold 9000
namespace My
open L2 Tw Bar
theorem ZiT {α β:Type} {h:PyData->Tr PyData} {D:α->PyData} {F:β->PyData} {Q:α->β->Prop} {n:Nat}:∀ (l:List α),(∀ x∈l,Al (h (D x)) n λy=>∃ v,y=F v/\Q x v)->Al (br h (l.map D)) (n * l.length) λys=>∃ vs:List β,ys=vs.map F/\vs.length=l.length/\∀ (k:Nat) (x:α) (v:β),l[k]?=some x->vs[k]?=some v->Q x v:=by
 intro l
 induction l with
 | nil=>intro _; exact cN ⟨[],rfl,rfl,λk x v a b=>by simp at a⟩
 | cons x l ih =>
  intro hx
  rw [vC,br]
  refine eK (hx x (by simp)) (n':=n * l.length) (by rw [vp,Nat.mul_succ]; omega) ?_
  rintro _ ⟨v,rfl,hq⟩
  refine eK (n':=0) (ih λy hy=>hx y (ve _ hy)) (by omega) ?_
  rintro _ ⟨vs,rfl,hl,hqs⟩
  refine cN ⟨v::vs,rfl,by rw [vp,vp,hl],λk y w a b=>?_⟩
  cases k with
  | zero=>cases a; cases b; exact hq
  | succ k=>exact hqs k y w a b
theorem ZkP {s:Shp} (h:s.Ok) {q:PyData->Tr PyData} (hq:∀ k:Nat,k < s.n->Al (q (.int k)) 1 λy=>∃ v:Int,y=.int v/\(k:Int) - s.depth<=v/\v<=s.top):Al (br q (aN 0 s.n)) s.n λys=>∃ ls:zf,ys=ls.map PyData.int/\ls.length=s.n/\fU s ls:=by
 have e:aN 0 (s.n:Int)=(List.range s.n).map λk:Nat=>PyData.int k:=by
  unfold aN aG
  rw [vH,show ((s.n:Int) - 0).toNat=s.n by omega]
  refine v4 λk _=>?_
  show PyData.int (0+(k:Int))=_
  rw [ye]
 rw [e]
 have key:=ZiT (h:=q) (D:=λk:Nat=>PyData.int k) (F:=PyData.int) (Q:=λ(k:Nat) (v:Int)=>(k:Int) - s.depth<=v/\v<=s.top) (n:=1) (List.range s.n) λk hk=>hq k (v7.mp hk)
 rw [v9,Nat.one_mul] at key
 refine ZiS key (vo _) ?_
 rintro _ ⟨ls,rfl,hl,hv⟩
 refine ⟨ls,rfl,hl,λi hi=>hv i i ls[i] (vF (by omega)) (vx hi)⟩
theorem lq2 {s:Shp} {one:zf} (c:Cs s one) {m:Int×Int} {ws:List (Int×Int)} {ls:zf} (hm:nb 230 m.2/\nb 1800 m.1) (hw:∀ p∈ws,nb 230 p.2/\nb 1800 p.1) (l1:ws.length=s.n) (l2:ls.length=s.n) (sw:∀ p∈ws,IsSh p) (hv:fU s ls) (f0:∀ x,s.fin x=0) (k:LkP s one m ws ls) {t:Nat} (ht:t<=5) {rl:List (Int->Int)} (r1:∀ g∈rl,s.RlOk g) (r2:rl.length=t+1) (A5 A7 A8 J15 J16 J17 J18 J19 J20:Sl) :
  ∃ K15 K16 K17 K18 K19 K20:Sl,tj [.un,.pen,.d s.d,.d (tI one),.d (shr m),A5,.d (tI ls),A7,A8,.d (.int ((t:Int)+1)),.d (fD (rep (t+1) one)),.d (.int s.n),.d (rD s rl),.d (s.tday one (rep t one)),.d (.tuple (ws.map shr)),J15,J16,J17,J18,J19,J20]=.ret (.next [.un,.pen,.d s.d,.d (tI one),.d (shr m),A5,.d (tI ls),A7,A8,.d (.int ((t:Int)+1)),.d (fD (rep (t+1) one)),.d (.int s.n),.d (rD s rl),.d (s.tday one (rep t one)),.d (.tuple (ws.map shr)),K15,K16,K17,K18,K19,K20]):=by
 have h:=c.dr.ok
 have hn:=h.n_eq
 have t0:=h.t0
 have d0:=h.d0
 have n8:=c.n8
 have e1:=Zm5 c hm hw l1 l2 sw hv k
 rw [dU] at e1
 obtain ⟨lo,hi,e2,b⟩:=Zor (ws:=ws) (by omega) λp hp=>⟨(sw p hp).pos,hw p hp⟩
 have rr:dQ [.int (s.n:Int)]=.ret (aN 0 s.n):=gP (eD (by omega) (by omega))
 have st:=Zkh h l1 l2 sw hv k
 have loop:∀ (l:List Nat) (J17 J18 J19 J20:Sl),(∀ i∈l,i < s.n)->∃ K17 K18 K19 K20:Sl,bX (af 17) ke (l.map λi:Nat=>PyData.int i) (gm s one m A5 ls A7 A8 t rl ws lo hi J17 J18 J19 J20)=.ret (.next (gm s one m A5 ls A7 A8 t rl ws lo hi K17 K18 K19 K20)):=by
  intro l
  induction l with
  | nil=>intro J17 J18 J19 J20 _; exact ⟨J17,J18,J19,J20,rfl⟩
  | cons i l ih =>
   intro J17 J18 J19 J20 hl
   obtain ⟨a1,a2,a3,et⟩:=lq1 h (by omega) c.B hm hw l1 l2 k.sm sw hv f0 st ht r1 r2 b (hl i (by simp)) A5 A7 A8 J18 J19 J20
   obtain ⟨K17,K18,K19,K20,e⟩:=ih (.d (.int i)) a1 a2 a3 λj hj=>hl j (ve _ hj)
   refine ⟨K17,K18,K19,K20,?_⟩
   have eg:af 17 (.int (i:Int)) (gm s one m A5 ls A7 A8 t rl ws lo hi J17 J18 J19 J20)=some (gm s one m A5 ls A7 A8 t rl ws lo hi (.d (.int i)) J18 J19 J20):=rfl
   rw [vC,fb,eg,Tr.of_some,Tr.ret_bind,fy,et,Tr.ret_bind,eE,e]
 have er:aN 0 (s.n:Int)=(List.range s.n).map λk:Nat=>PyData.int k:=by
  unfold aN aG
  rw [vH,show ((s.n:Int) - 0).toNat=s.n by omega]
  refine v4 λk _=>?_
  show PyData.int (0+(k:Int))=_
  rw [ye]
 obtain ⟨K17,K18,K19,K20,e3⟩:=loop (List.range s.n) J17 J18 J19 J20 λi hi=>v7.mp hi
 rw [<- er] at e3
 refine ⟨.d (shr lo),.d (shr hi),K17,K18,K19,K20,?_⟩
 have eb:(!(true == true))=false:=rfl
 simp only [gm] at e3
 simp_arith only [tj,e1,eb,e2,rr,e3]
theorem Zpu (s:Shp):jJ s.d none (some 7)=.ret (.tuple [.int s.top,.int s.depth,.int s.start,.int s.piece,.int s.keep,.int s.lack,.int s.lost]):=by unfold Shp.d; rfl
noncomputable def kW (s:Shp):Shp:=⟨s.top,s.depth,s.start,s.piece,s.keep,s.lack,s.lost,0,0⟩
theorem Zmq {s:Shp} {one:zf} (c:Cs s one):Cs (kW s) one:=by
 refine ⟨⟨c.dr.t0,c.dr.d0,c.dr.td,λn hn=>?_⟩,c.td,c.len,c.le,c.big⟩
 have hp:=c.dr.p
 simp only [vJ,yA,or_false,forall_eq_or_imp,forall_eq] at hp hn
 obtain ⟨h1,h2,h3,h4,h5,h6,h7⟩:=hp
 rcases hn with rfl | rfl | rfl | rfl | rfl | rfl | rfl
 ·exact h1
 ·exact h2
 ·exact h3
 ·exact h4
 ·exact h5
 ·exact ⟨by show (0:Int)<=0; decide,by show (0:Int)<=1000000; decide⟩
 ·exact ⟨by show (0:Int)<=0; decide,by show (0:Int)<=1000000; decide⟩
theorem Zmp (s:Shp) (x:Int):(kW s).fin x=0:=by
 unfold Shp.fin kW
 split <;> simp
theorem law_true:Al (ox sV) 2000 λo=>o=.ret (.d (.bool true)):=by
 simp_arith [ox,sV,bM]
 refine eK (n:=60) (n':=1000) (ZkQ (few:=4) (by decide) (by decide)) (by decide) ?_
 rintro _ ⟨s0,one,rfl,c0⟩
 have c:=Zmq c0
 have ed:PyData.tuple [.int s0.top,.int s0.depth,.int s0.start,.int s0.piece,.int s0.keep,.int s0.lack,.int s0.lost,.int 0,.int 0]=(kW s0).d:=ZaS
 have f0:=Zmp s0
 simp_arith [bM,Zpu,ed]
 generalize kW s0=s at *
 obtain ⟨lv,L⟩:=c.lst
 have h:=c.dr.ok
 have hn:=h.n_eq
 have t0:=h.t0
 have d0:=h.d0
 have td:=h.td
 have n8:=c.n8
 have e1:=L.e
 rw [ZmS] at e1
 have sp:=fJ L.r
 have ns:=Zky L.r c.s13
 have k:=ZmZ L.r L.st
 have nz:∀ {t:Int},nb 1702 t->nb 208 (cQ t (aW s one lv)).2/\nb 1702 (cQ t (aW s one lv)).1:=λht=>by
  obtain ⟨a,b⟩:=sP ht ns (by omega)
  exact ⟨b,a⟩
 have hm:=nz (Zac L.r (show 0 < s.n by omega))
 have hw:∀ p∈dP s one lv,nb 208 p.2/\nb 1702 p.1:=λp hp=>by
  unfold dP at hp
  obtain ⟨x,hx,rfl⟩:=wv.mp hp
  have:=nq hx
  exact nz (qw L.r x (by omega) (by omega))
 have sw:∀ p∈dP s one lv,IsSh p:=λp hp=>by
  unfold dP at hp
  obtain ⟨x,_,rfl⟩:=wv.mp hp
  exact dH sp
 have l1:=Zkt s one lv
 have l2:=oE s lv
 have hv:fU s (bK s lv):=λi hi=>by
  rw [sO hi]
  rw [l2] at hi
  exact ⟨L.r.lo i hi,L.r.hi i hi⟩
 generalize cQ (zB s one lv 0) (aW s one lv)=m at *
 generalize dP s one lv=ws at *
 generalize bK s lv=ls at *
 unfold dU at e1
 simp_arith [bM,e1]
 refine dC (n:=999) (by decide) (by decide) (by decide) λa a0 a1=>?_
 try simp_arith [bM]
 refine dC (n:=998) (by decide) (by decide) (by decide) λb b0 b1=>?_
 have hb:nb 5 ((a - 4,1+b):Int×Int).2/\nb 5 ((a - 4,1+b):Int×Int).1:=⟨bJ (by show -32 < 1+b; omega) (by show 1+b < 32; omega),bJ (by show -32 < a - 4; omega) (by show a - 4 < 32; omega)⟩
 have bp:0 < ((a - 4,1+b):Int×Int).2:=by show 0 < 1+b; omega
 have eb:PyData.tuple [.int (a - 4),.int (1+b)]=shr (a - 4,1+b):=rfl
 have hsm:small (ws.map shr).length=true:=b7 (by rw [vd]; omega)
 have emv:=n5 (h:=bL (af 0) rV [.un,.d (shr (a - 4,1+b))]) (D:=shr) (F:=λp=>shr (de p (a - 4,1+b))) (l:=ws) λp hp=>by
  have f1:=aq (hw p hp).1 (by decide)
  have f2:=aq (hw p hp).2 (by decide)
  have f3:=aq hb.1 (by decide)
  have f4:=aq hb.2 (by decide)
  have f5:nb 300 (p.2 * (1+b)):=aD (bf (hw p hp).1 hb.1) (by decide)
  have es:=Zog (t:=p.1 * (1+b)+(a - 4) * p.2) (b:=p.2 * (1+b)) (vQ (sw p hp).pos bp) (aD f5 (by decide))
  simp_arith [rV,shr,f1,f2,f3,f4,es]
  rfl
 have emv2:(ws.map λp=>shr (de p (a - 4,1+b)))=(ws.map (de · (a - 4,1+b))).map shr:=by rw [vH]; rfl
 rw [emv2] at emv
 simp_arith [bM,eb,hsm,emv]
 refine dC (n:=997) (by decide) (by decide) (by decide) λr q0 q1=>?_
 obtain ⟨t,et⟩:∃ t:Nat,1+r=(t:Int)+1:=⟨r.toNat,by omega⟩
 have ht:t<=5:=by omega
 have er:aS h9 (.tuple [tI one]) (.int ((t:Int)+1))=.ret (fD (rep (t+1) one)):=by
  rw [Zfg (by
   rw [decide_eq_true (show (-1000:Int)<=(t:Int)+1 by omega),decide_eq_true (show (t:Int)+1<=1000 by omega)]
   rfl)]
  have e1:((t:Int)+1).toNat=t+1:=by omega
  rw [e1]
  unfold fD
  have e2:∀ n:Nat,(List.replicate n [tI one]).flatten=(rep n one).map tI:=by
   intro n
   induction n with
   | zero=>rfl
   | succ n ih=>
    have e3:rep (n+1) one=one::rep n one:=rfl
    rw [vP,wa,ih,e3,vC]; rfl
  rw [e2]
 have eln:(((ws.map shr).length:Nat):Int)=(s.n:Int):=by rw [vd,l1]
 have hs3:small ((rep (t+1) one).map tI).length=true:=b7 (by rw [vd,iQ]; omega)
 simp_arith [bM,et,er,eln,ZdM,hs3]
 have rr:dQ [.int (s.n:Int)]=.ret (aN 0 s.n):=gP (eD (by omega) (by omega))
 have hsr:small (aN 0 (s.n:Int)).length=true:=b7 (by rw [cA]; omega)
 refine eK (n:=s.n * (rep (t+1) one).length) (n':=0) (ZiT (D:=tI) (F:=λg:Int->Int=>tI (s.row g)) (Q:=λ_ g=>s.RlOk g) (n:=s.n) (rep (t+1) one) λd hd=>?_) (by rw [iQ]; exact vS (yi n8 (show t+1<=6 by omega)) (by decide)) ?_
 ·simp_arith [Zcr,bM,rr,hsr]
  refine eK (n:=s.n) (n':=0) (ZkP h λj hj=>?_) (by omega) ?_
  ·simp_arith [Zcs,bM]
   refine dC (n:=0) (by omega) (by omega) (by decide) λv v0 v1=>?_
   try simp_arith [bM]
   refine cN ?_
   exact ⟨_,rfl,by omega,by omega⟩
  ·rintro _ ⟨l,rfl,hl,hvl⟩
   try simp_arith [bM]
   refine cN ?_
   refine ⟨bv s l,?_,λx x1 x2=>?_⟩
   ·rw [np h hl]
    rfl
   ·have hk:(x+s.depth).toNat < l.length:=by omega
    have:=hvl _ hk
    unfold bv
    rw [vx hk]
    show x<=l[(x+s.depth).toNat]/\l[(x+s.depth).toNat]<=s.top
    omega
 ·rintro _ ⟨rl,rfl,hrl,hrk⟩
  rw [iQ] at hrl
  have r1:∀ g∈rl,s.RlOk g:=λg hg=>by
   obtain ⟨j,hj,rfl⟩:=List.mem_iff_getElem.mp hg
   exact hrk j one rl[j] (by unfold rep; rw [vW,if_pos (by omega)]) (vx hj)
  have erD:PyData.tuple (rl.map λg=>tI (s.row g))=rD s rl:=rfl
  have hfs:∀ l∈rep (t+1) one,DayB l:=λl hl=>by rw [rH hl]; exact c.B
  have el:=Zok h hfs (by rw [iQ]; omega)
  have etab:s.tab (rep (t+1) one)=s.tday one (rep t one)::s.tab (rep t one):=rfl
  rw [etab] at el
  have hm2:nb 230 m.2/\nb 1800 m.1:=⟨aD hm.1 (by decide),aD hm.2 (by decide)⟩
  have hw2:∀ p∈ws,nb 230 p.2/\nb 1800 p.1:=λp hp=>⟨aD (hw p hp).1 (by decide),aD (hw p hp).2 (by decide)⟩
  have k2:=Zm0 h l1 l2 sw hv bp k
  have hw3:∀ p∈ws.map (de · (a - 4,1+b)),nb 230 p.2/\nb 1800 p.1:=λp hp=>by
   obtain ⟨q,hq,rfl⟩:=wv.mp hp
   exact Zmy (sw q hq).pos bp (hw q hq) hb
  have sw3:∀ p∈ws.map (de · (a - 4,1+b)),IsSh p:=λp hp=>by
   obtain ⟨q,hq,rfl⟩:=wv.mp hp
   exact Zc3 (sw q hq).pos bp
  obtain ⟨a15,a16,a17,a18,a19,a20,p1⟩:=lq2 c hm2 hw2 l1 l2 sw hv f0 k ht r1 hrl (.d (.tuple (ws.map shr))) (.d (shr (a - 4,1+b))) (.d (.list ((ws.map (de · (a - 4,1+b))).map shr))) .un .un .un .un .un .un
  obtain ⟨b15,b16,b17,b18,b19,b20,p2⟩:=lq2 c hm2 hw3 (by rw [vd,l1]) l2 sw3 hv f0 k2 ht r1 hrl (.d (.tuple (ws.map shr))) (.d (shr (a - 4,1+b))) (.d (.list ((ws.map (de · (a - 4,1+b))).map shr))) a15 a16 a17 a18 a19 a20
  simp_arith [bM,erD,el]
  simp_arith [fb,bM,p1,p2]
  exact cN rfl
end My
set_option Elab.async false
set_option linter.all false
set_option maxRecDepth 100000
open PySem.W L2
theorem My.g_mk {K:yY} {mg:zj} {h:Heap} (X:K.In h) (G:h.Ns mainGlobals mg) {n:Str} {v:Int} {t:Tok} (z:PySem.W.nsIn K mainGlobals n=some (some (.int v t))):∃ t,mg n=some (.int v t):=⟨_,PySem.W.mg_of X G z⟩
set_option maxRecDepth 100000 in
set_option maxHeartbeats 0 in
theorem PySem.Challenge.cw_twomarks_k40_whole_no_rule_beats_the_mea_holds : PySem.Challenge.rw_twomarks_k40_whole_no_rule_beats_the_mea.Holds := by
 refine My.hd ?_
 k_fill
 refine L2.Zjf (l:=PySem.Challenge.rw_twomarks_k40_whole_no_rule_beats_the_mea) (n:=63) (k:=10) (x:="_law_script") (CX:=hU) (sp:=L2.ZaJ) rfl (by decide) rfl ⟨rfl,by decide,by decide,rfl⟩ (λw h Y=>PySem.W.kIn_of Y) ?F ?S ?C
 case F =>
  intro w mg fa h KX G hmg
  have T:My.Txt (L2.KOf KX) mg:=by
   dsimp only [L2.KOf]
   constructor
   all_goals first
    | (refine PySem.W.mg_none_of KX G ?_; k_is)
    | (refine' My.g_mk KX G ?z; (case z=>k_is))
    | (refine' L2.ZoC KX G ?a ?l ?c ?k ?b; (case a=>k_is); (case l=>k_is); (case c=>k_is); (case k=>k_is); (case b=>intro _ _ _ _ _ _ us hl; first | (obtain ⟨_,rfl⟩:=L2.Zds hl; rfl) | (obtain ⟨_,_,rfl⟩:=L2.Zdr hl; rfl) | (obtain ⟨_,_,_,rfl⟩:=L2.Zdq hl; rfl) | (obtain ⟨_,_,_,_,rfl⟩:=L2.Zdp hl; rfl) | (obtain ⟨_,_,_,_,_,rfl⟩:=L2.Zna hl; rfl)))
  obtain ⟨f,fd,F,hm,_⟩:=T.ZoU.ex
  have e0:=hmg.symm.trans hm
  cases e0
  refine ⟨fd,?_,λbase _ _=>My.Zmb T F (L2.Tr.ok_mono (L2.Tr.all_ok My.law_true.out (by decide)) λ_ _ h=>h.2)⟩
  obtain ⟨oc,od,kV,doc,pm,an,cdv,ct,osl,rfl,lk,hcd⟩:=F.ex
  exact λs u=>.of_eq rfl
 case S=>exact λK H a ns hl _ hS=>⟨a,ns,rfl,hS,hl,λ_=>rfl⟩
 case C=>exact λ_ _ _ _ z=>z
