import PyProof.Rows.All
import Wide.All
import OpenK.AllK
import Wide.FinOn
import Lean
import PyProof.EqAt
import PyProof.EqKinds
import PyProof.TupleCall
import PySem.Challenge.RW_twomarks_k37_lasting_papers_spoilt
set_option Elab.async false
set_option linter.all false
set_option maxRecDepth 100000
set_option maxHeartbeats 0
noncomputable abbrev My.vw : PySem.Program := PySem.W.view
 PySem.Challenge.rw_twomarks_k37_lasting_papers_spoilt.row.prog [1, 2, 3, 5, 6, 8, 9, 10, 11, 13, 14, 15, 16, 17, 18, 19, 20, 21, 22, 23, 24, 25, 27, 28, 29, 31, 33, 34, 35, 37, 38, 39, 40, 41, 42, 44, 45, 46, 47, 49, 50, 51, 52, 53, 54, 55, 56, 57, 58, 59, 60, 61, 62, 63, 64, 65, 66, 67, 68]
open PySem PySem.W in
theorem My.hd_l {p q:Program} {loose:List Str} {Xt:Shared->Bool} {α:Type} {Yf:Shared->α} {Ya:World->α} {N:Nat} (a:∀ w,(openEnds treeTable p w N).map (λs=>openSeen q loose (importedModules p.main.body) Xt true s)=some (openGood q loose)) (b:∀ w,(openEnds treeTable p w N).map Yf=some (Ya w)):LeftO p q loose Xt Yf Ya N:=λw=>by
 have h:=a w
 have g:=b w
 cases e:openEnds treeTable p w N with
 | none=>rw [e] at h;exact nomatch h
 | some s=>rw [e,Option.map_some] at h g;rw [Option.map_some,Option.some.inj h,Option.some.inj g]
theorem My.hd_b {A B C H:Prop} (f:A->B->C->H) (p:A∧B∧C):H:=f p.1 p.2.1 p.2.2
local macro_rules
 | `(tactic| o_head $H:term) => `(tactic| (
  refine My.hd_b (λa b c => PySem.W.holds_open (q := My.vw) (loose := [])
   (Xt := λs => PySem.W.xlAt My.vw [] s && PySem.W.recOk
    (PySem.W.RowW.records PySem.Challenge.rw_twomarks_k37_lasting_papers_spoilt.row.toRowW) s)
   (XP := PySem.W.XL My.vw []) (Yf := ($H).obs)
   (Ya := ($H).val) (YP := ($H).says) (N := 20000) (My.hd_l a b)
   ($H).of ($H).keeps (λs e => PySem.W.xl_of s
    (Bool.and_eq_true_iff.mp e).1) PySem.W.XL.keeps
   (by rfl) (by rfl) (by rfl)
   (λs e => PySem.W.recFacts_of
    (Bool.and_eq_true_iff.mp e).2)
   (by rfl) ?k1 (by decide +kernel)
   ⟨rfl, rfl, rfl, rfl, rfl, by decide +kernel⟩ ?hw c) ?hc
  (case k1 => assumption)))
open_top My.hd_0 for PySem.Challenge.rw_twomarks_k37_lasting_papers_spoilt
noncomputable def My.hd_1:=λb c=>My.hd_0 ⟨λw=>by kernel_rfl,b,c⟩
noncomputable def My.hd:=λc=>My.hd_1 (λw=>by kernel_rfl) c
set_option maxHeartbeats 4000000
open PySem PySem.Spec PyProof.Rows
def vY:=@PySem.Heap.get?_push_of_some
def vZ:=@List.length_map
def v3:=@List.mem_cons_of_mem
def v4:=@Nat.le_refl
def v5:=@List.getElem?_map
def v6:=@List.getElem?_eq_getElem
def v7:=@PySem.Heap.get?_push_size
def v8:=@List.getElem?_eq_some_iff
def v9:=@List.map_cons
def wa:=@List.size_toArray
def wb:=@Nat.lt_of_lt_of_le
def wc:=@List.length_cons
def we:=@Bool.not_true
def wf:=@List.mem_append_right
def wj:=@Bool.false_ne_true
def wk:=@PySem.Heap.lt_size
def wl:=@Bool.and_eq_true
def wm:=@List.getElem?_range
def wo:=@List.mem_cons
def wq:=@List.getElem?_set_ne
def wt:=@Bool.not_false
def wu:=@List.length_append
def wv:=@Nat.le_trans
def ww:=@List.map_map
def wx:=@List.length_set
def wy:=@Nat.ne_of_lt
def wz:=@PySem.PassesOwn.never
def wA:=@List.getElem?_set_self
def wC:=@Int.le_of_lt
def wD:=@Int.toNat_natCast
def wE:=@List.length_take
def wF:=@Nat.lt_irrefl
def wG:=@Option.some.inj
def wH:=@List.getElem?_eq_none
def wI:=@List.replicate_succ
def wJ:=@List.getElem?_replicate
def wK:=@Int.le_refl
def wL:=@List.getElem?_append_right
def wM:=@List.lookup_cons
def wN:=@List.getElem_mem
def wO:=@Int.mul_le_mul_of_nonneg_left
def wP:=@List.mem_map
def wQ:=@List.getElem?_append_left
def wR:=@List.drop_eq_getElem_cons
def wS:=@Nat.zero_le
def wT:=@PySem.Heap.size_push
def wU:=@List.mem_append
def wV:=@List.mem_range
def wW:=@List.length_range
def wX:=@List.mem_cons_self
def wY:=@PySem.Heap.get?_update_other
def wZ:=@Nat.ne_of_gt
def w6:=@List.map_congr_left
def w8:=@List.append_nil
def xa:=@List.flatten_cons
def xb:=@Int.mul_pos
def xc:=@PySem.W.kia_one
def xf:=@List.length_drop
def xg:=@Bool.false_and
def xh:=@PyProof.Rows.callWith_type1
def xi:=@Nat.mul_le_mul_right
def xj:=@PySem.mem_of_lookup
def xk:=@List.append_assoc
def xl:=@Int.natAbs_mul
def xm:=@Int.mul_nonneg
def xn:=@List.map_append
def xo:=@Nat.pos_of_ne_zero
def xp:=@PySem.F.plainAttrs_list
def xq:=@Int.eq_ofNat_of_zero_le
def xr:=@Bool.true_and
def xt:=@Nat.min_eq_left
def xu:=@List.length_nil
def xv:=@PySem.Around.under_plainId
def xw:=@Int.fdiv_eq_ediv_of_nonneg
def xx:=@Int.eq_of_mul_eq_mul_right
def xz:=@Nat.lt_of_le_of_lt
def xA:=@List.sum_cons
def xB:=@Int.ne_of_gt
def xC:=@Int.natCast_nonneg
def xD:=@Int.emod_lt_of_pos
def xE:=@Classical.byContradiction
def xF:=@List.mem_of_getElem?
def xG:=@PySem.F.type_list_append
def xH:=@PySem.F.slot_list_append
def xI:=@PyProof.Rows.slot_tuple_getitem
def xJ:=@PySem.PyData.tuple.injEq
def xK:=@List.ext_getElem?
def xL:=@PySem.Heap.get?_update_self
def xM:=@List.all_eq_true
def xN:=@Bool.and_false
def xO:=@Bool.false_eq_true
def xP:=@Nat.succ_mul
def xQ:=@List.take_append_drop
def xR:=@List.map_nil
def xS:=@Int.emod_nonneg
def xT:=@PySem.F.plain_min_loop
def xU:=@Nat.lt_succ_of_lt
def xV:=@PySem.Obj.data_mapFields
def xW:=@Int.mul_lt_mul_of_pos_left
def xX:=@List.mem_append_left
def xY:=@List.length_reverse
def xZ:=@Int.mul_add
def x0:=@Nat.le_of_lt
def x6:=@Int.mul_zero
def x8:=@PySem.F.slot_tuple_iterator_next
def x9:=@List.zip_cons_cons
def ya:=@List.find?_cons
def yb:=@PySem.Heap.SameBut.update
def yc:=@PySem.PyData.hasDict_of_canLay
def ye:=@List.isEmpty_cons
def yf:=@List.length_replicate
def yg:=@Int.mul_le_mul_of_nonneg_right
def yh:=@Nat.lt_succ_self
def yi:=@Nat.le_of_not_lt
def yj:=@Bool.not_eq_true
def yk:=@PySem.SeqAt.canLay_of_shaped
def yl:=@Nat.pow_le_pow_right
def yn:=@List.mem_of_mem_take
def yo:=@List.mem_of_mem_drop
def yp:=@List.range_succ
def yq:=@List.nil_append
def yr:=@List.length_zip
def yt:=@List.length_pos_iff
def yu:=@List.cons.injEq
def yv:=@Bool.eq_iff_iff
def yw:=@Nat.lt_or_eq_of_le
def yx:=@Nat.add_comm
def yy:=@Int.natAbs_natCast
def yz:=@Int.le_of_eq
def yA:=@Int.lt_of_mul_lt_mul_left
def yB:=@Int.le_of_mul_le_mul_left
def yC:=@Int.eq_of_mul_eq_mul_left
def yD:=@PySem.F.args_tuple_add_2
def yE:=@Nat.le_of_succ_le
def yF:=@List.reverse_cons
def yG:=@Int.mul_ediv_cancel_left
def yH:=@Bool.not_eq_true'
def yI:=@PySem.F.entry_tuple_add
def yJ:=@List.getElem?_cons_succ
def yK:=@List.all_cons
def yL:=@Int.mul_one
def yM:=@Bool.and_true
def yN:=@Option.getD_some
def yO:=@List.drop_length
def yP:=@PySem.F.slot_tuple_add
def yQ:=@Option.map_eq_some_iff
def yR:=@List.take_of_length_le
def yS:=@Nat.gcd_comm
def yT:=@List.nodup_cons
def yU:=@List.getElem?_reverse
def yV:=@List.forIn_cons
def yW:=@Int.mul_comm
def yX:=@Int.add_zero
def yY:=@List.mem_iff_getElem
def yZ:=@Nat.log2_lt
def y4:=@List.getElem_of_mem
def y6:=@List.filterMap_cons
def y8:=@Function.comp_apply
def y9:=@Array.length_toList
def za:=@PySem.Obj.isFreed_of_fields
def zb:=@List.set_eq_take_append_cons_drop
def zc:=@Int.dvd_trans
def zd:=@PySem.F.slot_zip_next
def ze:=@PySem.W.kitx_dict
def zf:=@Nat.Coprime.dvd_of_dvd_mul_left
def zg:=@PySem.F.args_object_init_2
def zh:=@Nat.mul_succ
def zi:=@List.map_set
def zj:=@Nat.min_le_right
def zm:=@List.take_length
def zo:=@List.not_mem_nil
def zp:=@PySem.Paired.length
def zq:=@List.of_mem_zip
def zr:=@List.foldl_cons
def zt:=@Int.one_mul
def zu:=@Int.mul_eq_zero
def zw:=@Int.ediv_nonneg
def zx:=@Int.fmod_eq_emod_of_nonneg
def zy:=@Array.getElem?_eq_some_iff
def zE:=@Nat.mul_le_mul
def zF:=@List.mem_or_eq_of_mem_set
def zG:=@List.getElem?_zip_eq_some
def zI:=@List.getElem?_eq_none_iff
def zJ:=@List.forIn_nil
def zK:=@List.drop_zero
def zL:=@Nat.gcd_pos_of_pos_right
def zM:=@Lean.Omega.Int.ofNat_min
def zN:=@Int.not_le
def zO:=@Int.mul_fdiv_cancel_left
def zP:=@List.any_cons
def zQ:=@PySem.F.entry_min_loop
abbrev zR:=PySem.W.Frag
abbrev zZ:=PyData->PyData->Option PyData
abbrev z0:=Value->Shared->Prop
abbrev z9:=List PyData
abbrev Aa:=List Int
abbrev Ab:=List Value
abbrev Ac:=List Str
abbrev Ae:=Str->Option Value
local macro_rules | `(tactic| trivial) => `(tactic| first | decide +kernel | exact ⟨rfl,rfl,rfl,by decide +kernel,rfl,by decide +kernel,by decide +kernel⟩ | exact ⟨rfl,by decide +kernel,by decide +kernel,by decide +kernel,by decide +kernel⟩ | fail "x")
namespace L2
noncomputable abbrev aM:=Sum Int Str
noncomputable def jW:aM->Value->Bool
 | .inl k,v=>Value.isInt k v
 | .inr x,v=>Value.isStrOf x v
noncomputable def Znh (w:World):aM->Int
 | .inl k=>hashInt k
 | .inr x=>hashStr w x
theorem gH:∀ {k:aM} {v:Value},jW k v=true->(∃ i t,k=Sum.inl i/\v=Value.int i t)\/(∃ x t,k=Sum.inr x/\v=Value.str x t)
 | .inl i,v,h=>by
  obtain ⟨t,e⟩:=Value.isInt_shape (k:=i) (v:=v) h
  exact .inl ⟨i,t,rfl,e⟩
 | .inr x,v,h=>by
  obtain ⟨t,e⟩:=Value.isStrOf_shape (x:=x) (v:=v) h
  exact .inr ⟨x,t,rfl,e⟩
theorem Zng (i:Int) (t:Tok):jW (.inl i) (.int i t)=true:=by simp [jW,Value.isInt]
theorem Znf (x:Str) (t:Tok):jW (.inr x) (.str x t)=true:=by simp [jW,Value.isStrOf]
theorem Zne (a b:Int):decide ((Sum.inl a:aM)=Sum.inl b)=(a == b):=by
 by_cases e:a=b
 ·subst e; simp
 ·have h:¬ (Sum.inl a:aM)=Sum.inl b:=λq=>e (Sum.inl.inj q)
  rw [decide_eq_false h]
  exact (beq_eq_false_iff_ne.mpr e).symm
theorem Znb (a b:Str):decide ((Sum.inr a:aM)=Sum.inr b)=decide (a=b):=by
 by_cases e:a=b
 ·subst e; simp
 ·have h:¬ (Sum.inr a:aM)=Sum.inr b:=λq=>e (Sum.inr.inj q)
  rw [decide_eq_false h,decide_eq_false e]
theorem Znd (a:Int) (b:Str):decide ((Sum.inl a:aM)=Sum.inr b)=false:=decide_eq_false (λq=>nomatch q)
theorem Znc (a:Str) (b:Int):decide ((Sum.inr a:aM)=Sum.inl b)=false:=decide_eq_false (λq=>nomatch q)
noncomputable def dH (prog:Program) (w:World):PySem.KeyKind prog w aM where
 is:=jW
 hash:=Znh w
 inj:=λv a b ha hb=>by
  rcases gH ha with ⟨i,t,rfl,rfl⟩ | ⟨x,t,rfl,rfl⟩
  ·rcases gH hb with ⟨j,u,rfl,e⟩ | ⟨y,u,rfl,e⟩
   ·injection e with e1 _; rw [e1]
   ·exact nomatch e
  ·rcases gH hb with ⟨j,u,rfl,e⟩ | ⟨y,u,rfl,e⟩
   ·exact nomatch e
   ·injection e with e1 _; rw [e1]
 byValue:=λk v h=>by
  rcases gH h with ⟨i,t,rfl,rfl⟩ | ⟨x,t,rfl,rfl⟩ <;> rfl
 pyHash:=λhv h=>by
  rcases gH hv with ⟨i,t,rfl,rfl⟩ | ⟨x,t,rfl,rfl⟩
  ·exact wpAny_pyHash_int h
  ·exact wpAny_pyHash_str h
 eqBool:=λhu hv h=>by
  rcases gH hu with ⟨i,t,rfl,rfl⟩ | ⟨x,t,rfl,rfl⟩
  ·rcases gH hv with ⟨j,u,rfl,rfl⟩ | ⟨y,u,rfl,rfl⟩
   ·rw [Zne] at h; exact wpAny_eqBool_int h
   ·rw [Znd] at h; exact SeqAt.EqAt.int_str i t y u _ _ _ _ h
  ·rcases gH hv with ⟨j,u,rfl,rfl⟩ | ⟨y,u,rfl,rfl⟩
   ·rw [Znc] at h; exact SeqAt.EqAt.str_int x t j u _ _ _ _ h
   ·rw [Znb] at h; exact wpAny_eqBool_str h
 «strs»:=λk x t v h=>by
  rcases gH h with ⟨i,u,rfl,e⟩ | ⟨y,u,rfl,e⟩
  ·exact nomatch e
  ·injection e with e1 _
   subst e1
   cases v <;> rfl
theorem Zmz (prog:Program) (w:World) (i:Int) (t:Tok):(dH prog w).is (.inl i) (.int i t)=true:=Zng i t
theorem Zmy (prog:Program) (w:World) (x:Str) (t:Tok):(dH prog w).is (.inr x) (.str x t)=true:=Znf x t
inductive V where
 | non | bl (b:Bool) | int (i:Int) | str (x:Str) | byt (b:Array UInt8) | flt (b:UInt64) | ref (a:Addr) | ty (n:String)
 deriving DecidableEq
abbrev Ad:=List V
noncomputable def RelV:V->Value->Prop
 | .non,u=>u=Value.none
 | .bl b,u=>u=Value.bool b
 | .int i,u=>∃ t,u=Value.int i t
 | .str x,u=>∃ t,u=Value.str x t
 | .byt b,u=>∃ t,u=Value.bytes b t
 | .flt b,u=>∃ t,u=Value.float b t
 | .ref a,u=>u=Value.ref a
 | .ty n,u=>u=Value.type n
noncomputable abbrev Vals:List V->List Value->Prop:=Paired RelV
theorem Vals.length {xs:Ad} {us:Ab} (r:Vals xs us):xs.length=us.length:=zp r
theorem Vals.get {xs:Ad} {us:Ab} {i:Nat} {x:V} (h:Vals xs us) (e:xs[i]?=some x):∃ u,us[i]?=some u/\RelV x u:=by
 induction h generalizing i with
 | nil=>cases e
 | cons r t ih=>cases i with | zero=>cases e; exact ⟨_,rfl,r⟩ | succ i=>exact ih (i:=i) e
theorem Vals.set {x:V} {u:Value} (r:RelV x u) {xs:Ad} {us:Ab} (i:Nat) (h:Vals xs us):Vals (xs.set i x) (us.set i u):=by
 induction h generalizing i with
 | nil=>exact .nil
 | cons q t ih=>cases i with | zero=>exact .cons r t | succ i=>exact .cons q (ih i)
theorem Vals.append {xs ys:Ad} {us ws:Ab} (h:Vals xs us) (s:Vals ys ws):Vals (xs++ys) (us++ws):=by
 induction h with
 | nil=>exact s
 | cons r t ih=>exact .cons r ih
theorem Vals.take {xs:Ad} {us:Ab} (n:Nat) (h:Vals xs us):Vals (xs.take n) (us.take n):=by
 induction h generalizing n with
 | nil=>rw [List.take_nil,List.take_nil]; exact .nil
 | cons r t ih=>cases n with | zero=>exact .nil | succ n=>exact .cons r (ih n)
theorem Vals.drop {xs:Ad} {us:Ab} (n:Nat) (h:Vals xs us):Vals (xs.drop n) (us.drop n):=by
 induction h generalizing n with
 | nil=>rw [List.drop_nil,List.drop_nil]; exact .nil
 | cons r t ih=>cases n with | zero=>exact .cons r t | succ n=>exact ih n
theorem Vals.none_of:∀ {xs:Ad} {us:Ab} {i:Nat},Vals xs us->xs[i]?=none->us[i]?=none:=λ{xs us i} r e=>by
 have h1:=r.length
 have h2:xs.length<=i:=zI.mp e
 exact zI.mpr (by omega)
noncomputable def RelO:Option V->Option Value->Prop
 | some v,some u=>RelV v u
 | none,none=>True
 | _,_=>False
noncomputable def KV {κ:Type}:List (κ×V)->List (κ×Value)->Prop:=Paired λ(p:κ×V) (q:κ×Value)=>p.1=q.1/\RelV p.2 q.2
noncomputable def kV:aM->V
 | .inl i=>.int i
 | .inr x=>.str x
inductive HO where
 /-- a list -/
 | lst (xs:Ad)
 /-- a tuple (never changes) -/
 | tup (xs:Ad)
 /-- a dict whose keys are ints and texts; one whose keys are tuples of ints and texts (the empty one is both) -/
 | dK (kvs:List (aM×V)) | dT (kvs:List (List aM×V))
 /-- a set of ints: its members,its size -/
 | set (S:Int->Bool) (n:Nat)
 /-- an instance of the class at C,its dict at dx,its attributes -/
 | ins (C dx:Addr) (fs:List (Str×V))
 /-- the dict of the instance at x -/
 | own (x:Addr)
 /-- the dict of an exception -/
 | xd (fs:List (Str×V))
 /-- a bound method,f of x -/
 | met (f x:Addr)
 /-- a range object lo,lo+1,.. below hi -/
 | rng (lo hi:Int)
 /-- a thing that is known to the object (the script; a dict while a loop walks it): read,never written while it is so -/
 | frz (o:Obj) (u:HO)
 /-- a code object's table -/
 | tbl (ps:Array Value)
 /-- any other thing,by what is true of its one object (a def of one's own: SetO a S n:=HO.ext λh=>..) -/
 | ext (φ:Heap->Prop)
noncomputable abbrev Hp:=Addr->Option HO
noncomputable def upd (H:Hp) (a:Addr) (o:HO):Hp:=λb=>if b=a then some o else H b
theorem cA {H:Hp} {a:Addr} {o:HO}:upd H a o a=some o:=by unfold upd; rw [if_pos rfl]
theorem a9 {H:Hp} {a b:Addr} {o:HO} (h:b≠a):upd H a o b=H b:=by unfold upd; rw [if_neg h]
theorem mw {H:Hp} {a b:Addr} {o u:HO} (h:H a=some o) (h':H b=some u) (d:o≠u):a≠b:=by
 intro e; subst e; rw [h] at h'; exact d (wG h')
theorem dh {H:Hp} {a b:Addr} {o:HO} (h:H a=some o) (h':H b=none):a≠b:=by
 intro e; subst e; rw [h] at h'; cases h'
section
variable (P:Program) (w:World)
noncomputable def ObjOk (H:Hp) (h:Heap) (a:Addr):HO->Prop
 | .lst xs=>xs.length<=sizeLine/\∃ (its:Ab) (n:Nat),Vals xs its/\h.get? a=some { cls:=.type "list",data:=.seq its.toArray n }
 | .tup xs=>xs.length<=sizeLine/\∃ its:Ab,Vals xs its/\IsTup h a its.toArray
 | .dK kvs=>kvs.length<=sizeLine/\(a == sysModules)=false/\∃ vs,KV kvs vs/\h.DictOf (dH P w) a vs
 | .dT kvs=>kvs.length<=sizeLine/\(a == sysModules)=false/\∃ xs:List (List aM×Addr×Value),
   Paired (λ(p:List aM×V) (q:List aM×Addr×Value)=>p.1=q.1/\H q.2.1=some (.tup (p.1.map kV))/\RelV p.2 q.2.2) kvs xs /\
   ∃ o es ep,h.get? a=some o/\o.ExactDict/\o.data=.dict es ep/\es.toList=xs.map (entryOfKey (tupleKind (dH P w)))/\(xs.map (·.1)).Nodup
 | .set S n=>h.SetOf (intKind P w) a S n
 | .ins C dx fs=>H dx=some (.own a)/\fs.length<=1000/\dx≠a/\h.get? a=some (PySem.W.instObj C dx) /\
   ∃ mA,h.Ns1 dx mA/\(∀ f,RelO (fs.lookup f) (mA f))/\PySem.Within mA (fs.map (·.1))
 | .own _=>∃ o,h.get? a=some o
 | .xd fs=>∃ mA,h.Ns1 a mA/\∀ f,RelO (fs.lookup f) (mA f)
 | .rng lo hi=>∃ t u v,h.get? a=some { cls:=.type "range",data:=.fields #[.int lo t,.int hi u,.int 1 v] }
 | .frz o u=>h.get? a=some o/\ObjOk H h a u
 | .tbl ps=>h.get? a=some { cls:=.none,data:=.fields ps }
 | .met f x=>h.get? a=some (PySem.W.methodObj (.ref f) (.ref x))
 | .ext φ=>φ h/\(∃ o,h.get? a=some o)/\∀ h1 h2:Heap,φ h1->(∀ o,h1.get? a=some o->h2.get? a=some o)->φ h2
def HOk (H:Hp) (h:Heap):Prop:=∀ a o,H a=some o->ObjOk P w H h a o
end
section
variable {P:Program} {w:World} {H H':Hp} {h h':Heap} {a:Addr} {o:HO}
theorem ObjOk.lt (x:ObjOk P w H h a o):a < h.objs.size:=by
 cases o with
 | lst xs=>obtain ⟨_,_,_,_,e⟩:=x; exact wk e
 | tup xs=>obtain ⟨_,_,_,p⟩:=x; exact p.lt
 | dK kvs=>obtain ⟨_,_,_,_,o,_,_,e,_⟩:=x; exact wk e
 | dT kvs=>obtain ⟨_,_,_,_,o,_,_,e,_⟩:=x; exact wk e
 | set S n=>obtain ⟨o,_,_,_,e,_⟩:=x; exact wk e
 | ins C dx fs=>obtain ⟨_,_,_,e,_⟩:=x; exact wk e
 | own y=>obtain ⟨_,e⟩:=x; exact wk e
 | xd fs=>obtain ⟨_,⟨_,_,_,e,_⟩,_⟩:=x; exact wk e
 | rng lo hi=>obtain ⟨_,_,_,e⟩:=x; exact wk e
 | frz ob u=>obtain ⟨e,_⟩:=x; exact wk e
 | tbl ps=>exact wk (show h.get? a=some _ from x)
 | met f y=>exact wk (show h.get? a=some _ from x)
 | ext φ=>obtain ⟨_,⟨_,e⟩,_⟩:=x; exact wk e
theorem Paired.mapP {α β:Type} {F G:α->β->Prop} {l₁:List α} {l₂:List β} (h:Paired F l₁ l₂) (f:∀ a b,F a b->G a b):Paired G l₁ l₂:=by
 induction h with
 | nil=>exact .nil
 | cons r t ih=>exact .cons (f _ _ r) ih
theorem ObjOk.stay (x:ObjOk P w H h a o) (k:∀ b u,(b=a\/H b=some (.own a))->h.get? b=some u->h'.get? b=some u)
  (ho:∀ b,H b=some (.own a)->H' b=some (.own a)) (ht:∀ b xs,H b=some (.tup xs)->H' b=some (.tup xs)):ObjOk P w H' h' a o:=by
 induction o with
 | lst xs=>obtain ⟨z,its,n,r,e⟩:=x; exact ⟨z,its,n,r,k _ _ (.inl rfl) e⟩
 | tup xs=>obtain ⟨z,its,r,ob,e,c⟩:=x; exact ⟨z,its,r,ob,k _ _ (.inl rfl) e,c⟩
 | dK kvs=>obtain ⟨z,y,vs,r,ob,es,ep,e,c⟩:=x; exact ⟨z,y,vs,r,ob,es,ep,k _ _ (.inl rfl) e,c⟩
 | dT kvs =>
  obtain ⟨z,y,xs,r,ob,es,ep,e,c⟩:=x
  exact ⟨z,y,xs,Paired.mapP r λp q z=>⟨z.1,ht _ _ z.2.1,z.2.2⟩,ob,es,ep,k _ _ (.inl rfl) e,c⟩
 | set S n=>obtain ⟨ob,es,ep,t,e,c⟩:=x; exact ⟨ob,es,ep,t,k _ _ (.inl rfl) e,c⟩
 | ins C dx fs =>
  obtain ⟨d,z,ne,e,mA,⟨od,es,ep,e2,c⟩,r⟩:=x
  exact ⟨ho _ d,z,ne,k _ _ (.inl rfl) e,mA,⟨od,es,ep,k _ _ (.inr d) e2,c⟩,r⟩
 | own y=>obtain ⟨ob,e⟩:=x; exact ⟨ob,k _ _ (.inl rfl) e⟩
 | xd fs=>obtain ⟨mA,⟨od,es,ep,e,c⟩,r⟩:=x; exact ⟨mA,⟨od,es,ep,k _ _ (.inl rfl) e,c⟩,r⟩
 | rng lo hi=>obtain ⟨t,u,v,e⟩:=x; exact ⟨t,u,v,k _ _ (.inl rfl) e⟩
 | frz ob u ih=>obtain ⟨e,q⟩:=x; exact ⟨k _ _ (.inl rfl) e,ih q⟩
 | tbl ps =>
  have e:h.get? a=some { cls:=.none,data:=.fields ps }:=x
  show h'.get? a=some { cls:=.none,data:=.fields ps }
  exact k a _ (.inl rfl) e
 | met f y =>
  have e:h.get? a=some (PySem.W.methodObj (.ref f) (.ref y)):=x
  show h'.get? a=some (PySem.W.methodObj (.ref f) (.ref y))
  exact k a _ (.inl rfl) e
 | ext φ=>obtain ⟨p,⟨o,e⟩,st⟩:=x; exact ⟨st _ _ p λo q=>k _ _ (.inl rfl) q,⟨o,k _ _ (.inl rfl) e⟩,st⟩
theorem HOk.lt (x:HOk P w H h) (e:H a=some o):a < h.objs.size:=(x a o e).lt
theorem HOk.fresh (x:HOk P w H h) (e:h.objs.size<=a):H a=none:=by
 cases q:H a with
 | none=>rfl
 | some u=>exact absurd (wb (x.lt q) e) (wF _)
theorem HOk.kept (x:HOk P w H h) (k:∀ b u,h.get? b=some u->h'.get? b=some u):HOk P w H h':=λa o e =>
 (x a o e).stay (λb u _ q=>k b u q) (λ_ q=>q) λ_ _ q=>q
theorem HOk.laid (x:HOk P w H h) (k:∀ b u,h.get? b=some u->h'.get? b=some u) (hp:h.objs.size<=a) (new:ObjOk P w (upd H a o) h' a o):HOk P w (upd H a o) h':=λb u e=>by
 have hn:=x.fresh hp
 by_cases hb:b=a
 ·subst hb; rw [cA] at e; cases e; exact new
 ·rw [a9 hb] at e
  exact (x b u e).stay (λc v _ q=>k c v q) (λc q=>by rw [a9 (dh q hn)]; exact q) λc xs q=>by rw [a9 (dh q hn)]; exact q
end
def Rd (H:Hp) (a:Addr) (u:HO):Prop:=H a=some u\/∃ o,H a=some (.frz o u)
theorem Rd.ok {P:Program} {w:World} {H:Hp} {h:Heap} {a:Addr} {u:HO} (r:Rd H a u) (x:HOk P w H h):ObjOk P w H h a u:=by
 rcases r with r | ⟨o,r⟩
 ·exact x a u r
 ·obtain ⟨_,q⟩:=x a _ r
  exact q
noncomputable def nM:Option HO->Prop
 | some (.lst _)=>True
 | some (.dK _)=>True
 | some (.dT _)=>True
 | some (.set _ _)=>True
 | some (.ins _ _ _)=>True
 | some (.ext _)=>True
 | _=>False
section
variable {P:Program} {w:World} {H:Hp} {h h':Heap} {x e:Addr} {o':HO}
theorem HOk.write (ok:HOk P w H h) (mu:nM (H x)) (he:e=x\/H e=some (.own x)) (k:∀ b u,b≠e->h.get? b=some u->h'.get? b=some u) (heo:∃ u,h'.get? e=some u)
  (new:ObjOk P w (upd H x o') h' x o'):HOk P w (upd H x o') h':=λb u q=>by
 have nown:∀ c y,H c=some (.own y)->c≠x:=λc y r z=>by subst z; rw [r] at mu; exact mu
 have ntup:∀ c xs,H c=some (.tup xs)->c≠x:=λc xs r z=>by subst z; rw [r] at mu; exact mu
 by_cases hb:b=x
 ·subst hb; rw [cA] at q; cases q; exact new
 ·rw [a9 hb] at q
  by_cases hbe:b=e
  ·have q':H b=some (.own x):=by
    rcases he with z | z
    ·exact absurd (hbe.trans z) hb
    ·rw [hbe]; exact z
   rw [q] at q'; cases q'
   obtain ⟨v,hv⟩:=heo
   exact ⟨v,by rw [hbe]; exact hv⟩
  ·refine (ok b u q).stay (λc v hc r=>k c v ?_ r) (λc r=>by rw [a9 (nown c b r)]; exact r) λc xs r=>by rw [a9 (ntup c xs r)]; exact r
   rcases hc with rfl | hc
   ·exact hbe
   ·rintro rfl
    rcases he with z | z
    ·exact nown c b hc z
    ·rw [hc] at z; cases z; exact hb rfl
end
structure Un (fs ex:List Addr) (H H':Hp) (h h':Heap):Prop where
 keep:∀ b o,h.get? b=some o->H b=none->b ∉ fs->b ∉ ex->h'.get? b=some o
 slot:∀ b o,h.get? b=some o->H b=none->b∈fs->b ∉ ex->∃ sl,h'.get? b=some { o with slots:=sl }
 free:∀ b o,h.get? b=some o->H b=none->b ∉ ex->H' b=none
 there:∀ b o,h.get? b=some o->b ∉ ex->∃ o',h'.get? b=some o'
 tups:∀ b xs,H b=some (.tup xs)->H' b=some (.tup xs)
 frzs:∀ b o u,H b=some (.frz o u)->H' b=some (.frz o u)
 tbls:∀ b ps,H b=some (.tbl ps)->∃ more,H' b=some (.tbl (ps++more))
section
variable {fs fs' ex ex':List Addr} {H H1 H2:Hp} {h h1 h2 h':Heap} {a x e:Addr} {o:HO}
theorem Un.any (u:Un fs ex H H1 h h1) {b:Addr} {ob:Obj} (q:h.get? b=some ob) (n:H b=none) (hx:b ∉ ex):∃ sl,h1.get? b=some { ob with slots:=sl }:=by
 by_cases hb:b∈fs
 ·exact u.slot b ob q n hb hx
 ·exact ⟨ob.slots,u.keep b ob q n hb hx⟩
theorem Un.kept (k:∀ b u,h.get? b=some u->h'.get? b=some u):Un fs ex H H h h' :=
 ⟨λb ob q _ _ _=>k b ob q,λb ob q _ _ _=>⟨ob.slots,k b ob q⟩,λ_ _ _ n _=>n,λb ob q _=>⟨ob,k b ob q⟩,λ_ _ q=>q,λ_ _ _ q=>q,λ_ ps q=>⟨#[],by rw [q]; simp⟩⟩
theorem Un.refl:Un fs ex H H h h:=Un.kept λ_ _ q=>q
theorem Un.laid (k:∀ b u,h.get? b=some u->h'.get? b=some u) (hp:h.objs.size<=a) (hn:H a=none):Un fs ex H (upd H a o) h h' where
 keep:=λb u q _ _ _=>k b u q
 slot:=λb u q _ _ _=>⟨u.slots,k b u q⟩
 free:=λb u q n _=>by rw [a9 (wy (wb (wk q) hp))]; exact n
 there:=λb u q _=>⟨u,k b u q⟩
 tups:=λb xs q=>by rw [a9 (dh q hn)]; exact q
 frzs:=λb u xs q=>by rw [a9 (dh q hn)]; exact q
 tbls:=λb ps q=>⟨#[],by rw [a9 (dh q hn),q]; simp⟩
theorem Un.write (mu:nM (H x)) (he:e=x\/H e=some (.own x)) (k:∀ b u,b≠e->h.get? b=some u->h'.get? b=some u) (heo:∃ u,h'.get? e=some u):Un fs ex H (upd H x o) h h':=by
 have hx:∀ b,H b=none->b≠x:=λb n z=>by subst z; rw [n] at mu; exact mu
 have hb:∀ b,H b=none->b≠e:=λb n z=>by
  subst z
  rcases he with r | r
  ·exact hx b n r
  ·rw [n] at r; cases r
 have hm:∀ b u,H b=some u->¬ nM (some u)->b≠x:=λb u q nm z=>by subst z; rw [q] at mu; exact nm mu
 refine ⟨λb u q n _ _=>k b u (hb b n) q,λb u q n _ _=>⟨u.slots,k b u (hb b n) q⟩,λb u q n _=>by rw [a9 (hx b n)]; exact n,λb u q _=>?_,
  λb xs q=>by rw [a9 (hm b _ q λz=>z)]; exact q,λb u xs q=>by rw [a9 (hm b _ q λz=>z)]; exact q,λb ps q=>⟨#[],by rw [a9 (hm b _ q λz=>z),q]; simp⟩⟩
 by_cases hbe:b=e
 ·subst hbe; exact heo
 ·exact ⟨u,k b u hbe q⟩
end
noncomputable def trk (h:Heap) (H:Hp):List Addr:=(List.range h.objs.size).filter λa=>(H a).isSome
noncomputable def iy (h:Heap) (H:Hp):Heap:=PySem.W.hideAll h (trk h H)
theorem Zny (h:Heap) (H:Hp):(iy h H).objs.size=h.objs.size:=PySem.W.hideAll_size _ _
theorem Znz {h:Heap} {H:Hp} {b:Addr} {o:Obj} (e:h.get? b=some o) (n:H b=none):(iy h H).get? b=some o :=
 PySem.W.hideAll_get _ e λhm=>by
  have q:(H b).isSome=true:=(List.mem_filter.mp hm).2
  rw [n] at q; simp at q
theorem Zmg {h:Heap} {H:Hp} {b:Addr} {o:Obj} (e:(iy h H).get? b=some o):h.get? b=some o/\H b=none:=by
 have e':h.get? b=some o:=PySem.W.of_hideAll (trk h H) e
 refine ⟨e',?_⟩
 cases q:H b with
 | none=>rfl
 | some x =>
  have hm:b∈trk h H:=List.mem_filter.mpr ⟨wV.mpr (wk e'),by simp [q]⟩
  have z:(iy h H).get? b=none:=PySem.W.hideAll_none (trk h H) hm
  rw [z] at e; cases e
noncomputable def Zqu (g h:Heap) (L:Addr):List (Addr×Obj):=(List.range h.objs.size).filterMap λa=>if a=L\/(g.get? a).isSome=true then none else (h.get? a).map λo=>(a,o)
noncomputable def rest (g h:Heap) (L d:Addr):List (Addr×Obj):=(Zqu g h L).filter λp=>decide (p.1≠d)
structure Mod (K:zR) (mg:Ae) (base:Heap):Prop where
 kin:K.In base
 glob:base.Ns mainGlobals mg
 blt:∃ mb,base.Ns builtinsNs mb/\∀ x:Str,x≠"__name__"->mb x=bootBuiltins x
 nolimit:base.NoLimit
 nodig:base.NoDigits
structure Cx where
 prog:Program
 w:World
 K:zR
 mg:Ae
 base:Heap
 A:Around
 N:Ac
 s₀:Shared
 H₀:Hp
 env:Env
 outer:List Env
 stack:List Env
 ex:List Addr
 fn:Str->Bool
 calm:Bool
 pn:List (Addr×Obj)
 xe:z0
noncomputable def frs (l:List Env):List Addr:=l.filterMap (·.frame)
noncomputable abbrev Cx.fs (X:Cx):List Addr:=frs X.outer
def qL (sc:Scope) (x:Str):Prop:=sc.names.lookup x=some .local\/sc.names.lookup x=some .cell\/sc.names.lookup x=some .free
def kc (sc:Scope) (x:Str):Prop:=sc.names.lookup x=some .local\/sc.names.lookup x=some .cell
noncomputable def Zru (env:Env) (h:Heap) (m:Ae) (x:Str) (u:Value):Prop :=
 (env.kindOf x=some .local/\m x=some u)\/((env.kindOf x=some .cell\/env.kindOf x=some .free)/\∃ c,env.cells.lookup x=some c/\h.IsCell c (some u))
structure Cx.Ok (X:Cx):Prop where
 mod:Mod X.K X.mg X.base
 kind:X.env.scope.kind=.function
 glob:X.env.globals=mainGlobals
 blt:X.env.builtins=builtinsNs
 above:X.s₀.heap.objs.size<=X.env.locals
 inj:∀ x y c,X.env.cells.lookup x=some c->X.env.cells.lookup y=some c->x=y
 has:∀ x,(X.env.kindOf x=some .cell\/X.env.kindOf x=some .free)->∃ c,X.env.cells.lookup x=some c
 cab:∀ x c,X.fn x=true->X.env.cells.lookup x=some c->X.s₀.heap.objs.size<=c
 hd:X.calm=true->X.A.handled=none
 frames:X.A.frames=some X.stack
 stk:X.stack=X.outer\/(X.stack=X.env::X.outer/\X.env.frame=some X.env.locals)
 exf:∀ b∈X.ex,b≠X.env.locals/\∀ x c,X.env.cells.lookup x=some c->c≠b
 bs:∀ b o,X.base.get? b=some o->X.s₀.heap.get? b=some o/\X.H₀ b=none
 bsz:X.base.objs.size<=X.s₀.heap.objs.size
 noex:∀ b o,X.base.get? b=some o->b ∉ X.ex
 exfs:∀ b∈X.ex,b ∉ X.fs
 funs:X.s₀.heap.FunFrames X.base X.outer
 frf:∀ b∈X.fs,X.H₀ b=none
structure Inv (X:Cx) (pins:List (Addr×Obj)) (σ:List (Option V)) (H:Hp) (s:Shared):Prop where
 ok:X.Ok
 os:s.os=X.s₀.os
 bare:AllBare s.gens
 base:Un X.fs X.ex X.H₀ H X.s₀.heap s.heap
 loc:∃ m,s.heap.Ns X.env.locals m/\∀ (i:Nat) (x:Str) (v:V),X.N[i]?=some x->σ[i]?=some (some v)->qL X.env.scope x->∃ u,RelV v u/\Zru X.env s.heap m x u
 cell:∀ x c,X.env.cells.lookup x=some c->∃ v,s.heap.IsCell c v
 free:H X.env.locals=none
 freeC:∀ x c,X.env.cells.lookup x=some c->H c=none
 pin:∀ p∈X.pn++pins,s.heap.get? p.1=some p.2/\H p.1=none/\p.1≠X.env.locals/\p.1 ∉ X.fs/\∀ v,p.2.data≠.cell v
 hok:HOk X.prog X.w H s.heap
 len:σ.length=X.N.length
section
variable {X:Cx} {pins:List (Addr×Obj)} {σ:List (Option V)} {H H':Hp} {s:Shared} {h':Heap}
theorem Cx.Ok.nofr (ok:X.Ok) {b:Addr} {o:Obj} (e:X.base.get? b=some o):b ∉ X.fs:=λhb=>by
 have:=(ok.funs.mem hb).1
 rw [e] at this; cases this
theorem Inv.bs (I:Inv X pins σ H s):∀ b o,X.base.get? b=some o->s.heap.get? b=some o/\H b=none:=λb o e =>
 ⟨I.base.keep b o (I.ok.bs b o e).1 (I.ok.bs b o e).2 (I.ok.nofr e) (I.ok.noex b o e),I.base.free b o (I.ok.bs b o e).1 (I.ok.bs b o e).2 (I.ok.noex b o e)⟩
theorem Inv.bk (I:Inv X pins σ H s):∀ b o,X.base.get? b=some o->s.heap.get? b=some o:=λb o e=>(I.bs b o e).1
theorem Inv.mod (I:Inv X pins σ H s):Mod X.K X.mg X.base:=I.ok.mod
theorem Inv.kIn (I:Inv X pins σ H s):X.K.In s.heap:=I.ok.mod.kin.keeps I.bk
theorem Inv.lt (I:Inv X pins σ H s):X.env.locals < s.heap.objs.size:=let ⟨_,hn,_⟩:=I.loc; hn.lt
theorem Inv.sz (I:Inv X pins σ H s):X.s₀.heap.objs.size<=s.heap.objs.size:=wv I.ok.above (x0 I.lt)
theorem Inv.nofs (I:Inv X pins σ H s) {a:Addr} (h:s.heap.objs.size<=a):a ∉ X.fs:=λhb=>by
 obtain ⟨_,o,ho,_⟩:=I.ok.funs.mem hb
 exact absurd (wb (wk ho) (wv I.sz h)) (wF _)
theorem Inv.cne (I:Inv X pins σ H s):∀ x c,X.env.cells.lookup x=some c->c≠X.env.locals:=λx c e z=>by
 obtain ⟨v,o,ho,hd⟩:=I.cell x c e
 obtain ⟨m,⟨o',es,ep,ho',hd',_⟩,_⟩:=I.loc
 rw [z,ho'] at ho; cases ho; rw [hd'] at hd; cases hd
theorem Inv.funs (I:Inv X pins σ H s):s.heap.FunFrames X.base X.outer:=by
 have all:∀ (l:List Env),(∀ b∈frs l,b∈X.fs)->X.s₀.heap.FunFrames X.base l->s.heap.FunFrames X.base l:=by
  intro l
  induction l with
  | nil=>intro _ _; trivial
  | cons env r ih =>
   intro hs hl
   obtain ⟨hk,⟨L,o,hf,hn,ho,hd⟩,hr⟩:=hl
   have hL:L∈X.fs:=hs L (by unfold frs; rw [y6,hf]; exact wX)
   obtain ⟨sl,e⟩:=I.base.slot L o ho (I.ok.frf L hL) hL λz=>I.ok.exfs L z hL
   exact ⟨hk,⟨L,_,hf,hn,e,hd⟩,ih (λb hb=>hs b (by unfold frs; rw [y6,hf]; exact v3 _ hb)) hr⟩
 exact all X.outer (λ_ hb=>hb) I.ok.funs
theorem Inv.stack (I:Inv X pins σ H s):s.heap.FunFrames X.base X.stack:=by
 rcases I.ok.stk with e | ⟨e,hf⟩
 ·rw [e]; exact I.funs
 ·rw [e]
  obtain ⟨m,hn,_⟩:=I.loc
  refine .cons (by rw [I.ok.kind]; decide) hf hn ?_ I.funs
  exact Heap.get?_none_of_le (wv I.ok.bsz I.ok.above)
theorem Inv.stkSub (I:Inv X pins σ H s):∀ b∈frs X.stack,b∈X.env.locals::X.fs:=λb hb=>by
 rcases I.ok.stk with e | ⟨e,hf⟩
 ·rw [e] at hb; exact v3 _ hb
 ·rw [e] at hb
  unfold frs at hb
  rw [y6,hf] at hb
  exact hb
theorem Inv.stkFree (I:Inv X pins σ H s):∀ b∈frs X.stack,H b=none:=λb hb=>by
 rcases wo.mp (I.stkSub b hb) with e | hb
 ·rw [e]; exact I.free
 ·obtain ⟨_,o,ho,_⟩:=I.ok.funs.mem hb
  exact I.base.free b o ho (I.ok.frf b hb) λz=>I.ok.exfs b z hb
theorem Inv.step {g':Array GenState} {t':Nat} {d':Drawn} {ch:List Addr} (I:Inv X pins σ H s)
  (hch:∀ b∈ch,(b∈X.ex\/X.s₀.heap.objs.size<=b)/\b≠X.env.locals/\(∀ x c,X.env.cells.lookup x=some c->c≠b)/\∀ p∈X.pn++pins,p.1≠b)
  (keep:∀ b o,b≠X.env.locals->b ∉ X.fs->b ∉ ch->s.heap.get? b=some o->H b=none->h'.get? b=some o)
  (slot:∀ b o,b≠X.env.locals->b∈X.fs->b ∉ ch->s.heap.get? b=some o->H b=none->∃ sl,h'.get? b=some { o with slots:=sl }) (free:∀ b o,b ∉ ch->s.heap.get? b=some o->H b=none->H' b=none)
  (there:∀ b o,b ∉ ch->s.heap.get? b=some o->∃ o',h'.get? b=some o')
  (tups:∀ b xs,H b=some (.tup xs)->H' b=some (.tup xs)) (frzs:∀ b o u,H b=some (.frz o u)->H' b=some (.frz o u)) (tbls:∀ b ps,H b=some (.tbl ps)->∃ more,H' b=some (.tbl (ps++more)))
  (ns:∀ m,s.heap.Ns X.env.locals m->h'.Ns X.env.locals m) (hok:HOk X.prog X.w H' h') (hg:AllBare g') :
  Inv X pins σ H' { s with heap:=h',gens:=g',drawn:=d',toks:=t' }:=by
 have neL:∀ b o,X.s₀.heap.get? b=some o->b≠X.env.locals:=λb o e=>wy (wb (wk e) I.ok.above)
 have neC:∀ b o,X.s₀.heap.get? b=some o->b ∉ X.ex->b ∉ ch:=λb o e hx hb=>by
  rcases (hch b hb).1 with z | z
  ·exact hx z
  ·exact absurd (wb (wk e) z) (wF _)
 have cellK:∀ x c,X.env.cells.lookup x=some c->∀ v,s.heap.IsCell c v->h'.IsCell c v:=λx c e v hz0=>by
  obtain ⟨o,ho,hd⟩:=hz0
  have nch:c ∉ ch:=λz=>(hch c z).2.2.1 x c e rfl
  by_cases hc:c∈X.fs
  ·obtain ⟨sl,q⟩:=slot c o (I.cne x c e) hc nch ho (I.freeC x c e)
   exact ⟨_,q,hd⟩
  ·exact ⟨o,keep c o (I.cne x c e) hc nch ho (I.freeC x c e),hd⟩
 refine ⟨I.ok,I.os,hg,⟨λb o e n hb hx=>?_,λb o e n hb hx=>?_,λb o e n hx=>?_,λb o e hx=>?_,λb xs e=>tups b xs (I.base.tups b xs e),λb o xs e=>frzs b o xs (I.base.frzs b o xs e),λb ps e=>?_⟩,?_,λx c e=>?_,?_,λx c e=>?_,λp hp=>?_,hok,I.len⟩
 ·exact keep b o (neL b o e) hb (neC b o e hx) (I.base.keep b o e n hb hx) (I.base.free b o e n hx)
 ·obtain ⟨sl,e1⟩:=I.base.slot b o e n hb hx
  obtain ⟨sl',e2⟩:=slot b _ (neL b o e) hb (neC b o e hx) e1 (I.base.free b o e n hx)
  exact ⟨sl',e2⟩
 ·obtain ⟨o',e1⟩:=I.base.there b o e hx
  exact free b o' (neC b o e hx) e1 (I.base.free b o e n hx)
 ·obtain ⟨o',e1⟩:=I.base.there b o e hx
  exact there b o' (neC b o e hx) e1
 ·obtain ⟨m1,e1⟩:=I.base.tbls b ps e
  obtain ⟨m2,e2⟩:=tbls b _ e1
  exact ⟨m1++m2,by rw [e2,Array.append_assoc]⟩
 ·obtain ⟨m,hn,hl⟩:=I.loc
  refine ⟨m,ns m hn,λi x v e1 e2 e3=>?_⟩
  obtain ⟨u,r,l⟩:=hl i x v e1 e2 e3
  refine ⟨u,r,?_⟩
  rcases l with l | ⟨k,c,e,z⟩
  ·exact .inl l
  ·exact .inr ⟨k,c,e,cellK x c e _ z⟩
 ·obtain ⟨v,z⟩:=I.cell x c e
  exact ⟨v,cellK x c e v z⟩
 ·obtain ⟨m,⟨o,_,_,ho,_⟩,_⟩:=I.loc
  exact free _ o (λz=>(hch _ z).2.1 rfl) ho I.free
 ·obtain ⟨v,o,ho,hd⟩:=I.cell x c e
  exact free c o (λz=>(hch c z).2.2.1 x c e rfl) ho (I.freeC x c e)
 ·obtain ⟨e,n,ne,nf,d⟩:=I.pin p hp
  have nch:p.1 ∉ ch:=λz=>(hch p.1 z).2.2.2 p hp rfl
  exact ⟨keep p.1 p.2 ne nf nch e n,free p.1 p.2 nch e n,ne,nf,d⟩
theorem Inv.un {t':Nat} (I:Inv X pins σ H s) (u:Un X.fs [] H H' s.heap h') (hok:HOk X.prog X.w H' h'):Inv X pins σ H' { s with heap:=h',toks:=t' }:=by
 obtain ⟨m,⟨o,es,ep,ho,r⟩,_⟩:=id I.loc
 obtain ⟨sl,hL⟩:=u.any ho I.free (by simp)
 exact I.step (g':=s.gens) (d':=s.drawn) (ch:=[]) (λ_ z=>nomatch z) (λb o _ hb _ e n=>u.keep b o e n hb (by simp)) (λb o _ hb _ e n=>u.slot b o e n hb (by simp)) (λb o _ e n=>u.free b o e n (by simp)) (λb o _ e=>u.there b o e (by simp)) u.tups u.frzs u.tbls (λm' hm=>by
  obtain ⟨o',es',ep',ho',r'⟩:=hm
  rw [ho] at ho'; cases ho'
  exact ⟨_,es',ep',hL,r'⟩) hok I.bare
theorem Inv.call {g':Array GenState} {t':Nat} {d':Drawn} {ch:List Addr} (I:Inv X pins σ H s) (u:Un (frs X.stack) ch H H' s.heap h') (hok:HOk X.prog X.w H' h') (hg:AllBare g')
  (hch:∀ b∈ch,(b∈X.ex\/X.s₀.heap.objs.size<=b)/\b≠X.env.locals/\(∀ x c,X.env.cells.lookup x=some c->c≠b)/\∀ p∈X.pn++pins,p.1≠b) :
  Inv X pins σ H' { s with heap:=h',gens:=g',drawn:=d',toks:=t' }:=by
 obtain ⟨m,⟨o,es,ep,ho,r⟩,_⟩:=id I.loc
 obtain ⟨sl,hL⟩:=u.any ho I.free λz=>(hch _ z).2.1 rfl
 exact I.step (ch:=ch) hch (λb o hL hb hc e n=>u.keep b o e n (λz=>(wo.mp (I.stkSub b z)).elim hL hb) hc) (λb o _ _ hc e n=>u.any e n hc) (λb o hc e n=>u.free b o e n hc) (λb o hc e=>u.there b o e hc) u.tups u.frzs u.tbls (λm' hm=>by
  obtain ⟨o',es',ep',ho',r'⟩:=hm
  rw [ho] at ho'; cases ho'
  exact ⟨_,es',ep',hL,r'⟩) hok hg
theorem Inv.turned {t':Nat} {it:Addr} (I:Inv X pins σ H s) (k:∀ b o,b≠it->s.heap.get? b=some o->h'.get? b=some o) (hn:H it=none) (hL:it≠X.env.locals)
  (h1:it∈X.ex\/X.s₀.heap.objs.size<=it) (h2:∀ x c,X.env.cells.lookup x=some c->c≠it) (h3:∀ p∈X.pn++pins,p.1≠it):Inv X pins σ H { s with heap:=h',toks:=t' }:=by
 have nit:∀ b u,H b=some u->b≠it:=λb u e z=>by rw [z,hn] at e; cases e
 refine I.step (g':=s.gens) (d':=s.drawn) (ch:=[it]) (λb hb=>?_) (λb o _ _ hc e _=>k b o (λz=>hc (by simp [z])) e) (λb o _ _ hc e _=>⟨o.slots,k b o (λz=>hc (by simp [z])) e⟩) (λ_ _ _ _ n=>n)
  (λb o hc e=>⟨o,k b o (λz=>hc (by simp [z])) e⟩) (λ_ _ e=>e) (λ_ _ _ e=>e) (λb ps e=>⟨#[],by rw [e]; simp⟩) (λm hm=>?_) (λb u e=>?_) I.bare
 ·have e:b=it:=by simpa using hb
  subst e
  exact ⟨h1,hL,h2,h3⟩
 ·obtain ⟨o,es,ep,ho,r⟩:=hm
  exact ⟨o,es,ep,k _ o (Ne.symm hL) ho,r⟩
 ·refine (I.hok b u e).stay (λc v hc q=>k c v ?_ q) (λ_ q=>q) λ_ _ q=>q
  rcases hc with z | z
  ·rw [z]; exact nit b u e
  ·exact nit c _ z
theorem Inv.tok (I:Inv X pins σ H s) (t:Nat):Inv X pins σ H { s with toks:=t }:=I.un (h':=s.heap) (t':=t) Un.refl I.hok
theorem Inv.kept {t':Nat} (I:Inv X pins σ H s) (k:∀ b u,s.heap.get? b=some u->h'.get? b=some u):Inv X pins σ H { s with heap:=h',toks:=t' }:=I.un (Un.kept k) (I.hok.kept k)
theorem Inv.laid {a:Addr} {o:HO} {t':Nat} (I:Inv X pins σ H s) (k:∀ b u,s.heap.get? b=some u->h'.get? b=some u) (hp:s.heap.objs.size<=a) (new:ObjOk X.prog X.w (upd H a o) h' a o) :
  Inv X pins σ (upd H a o) { s with heap:=h',toks:=t' }:=I.un (Un.laid k hp (I.hok.fresh hp)) (I.hok.laid k hp new)
theorem Inv.write {x e:Addr} {o:HO} {t':Nat} (I:Inv X pins σ H s) (mu:nM (H x)) (he:e=x\/H e=some (.own x)) (k:∀ b u,b≠e->s.heap.get? b=some u->h'.get? b=some u) (heo:∃ u,h'.get? e=some u)
  (new:ObjOk X.prog X.w (upd H x o) h' x o):Inv X pins σ (upd H x o) { s with heap:=h',toks:=t' }:=I.un (Un.write mu he k heo) (I.hok.write mu he k heo new)
theorem Inv.pins_of {pins':List (Addr×Obj)} (I:Inv X pins σ H s) (h:∀ p∈pins',s.heap.get? p.1=some p.2/\H p.1=none/\p.1≠X.env.locals/\p.1 ∉ X.fs/\∀ v,p.2.data≠.cell v):Inv X pins' σ H s :=
 ⟨I.ok,I.os,I.bare,I.base,I.loc,I.cell,I.free,I.freeC,λp hp=>(wU.mp hp).elim (λz=>I.pin p (xX _ z)) (h p),I.hok,I.len⟩
theorem Zc1 {N:Ac} (hN:N.Nodup) {i j:Nat} {x:Str} (a:N[i]?=some x) (b:N[j]?=some x):i=j:=by
 obtain ⟨h1,e1⟩:=v8.mp a
 obtain ⟨h2,e2⟩:=v8.mp b
 exact (List.getElem_inj hN).mp (e1.trans e2.symm)
theorem ZaQ {M:Model} {A:Around} {E:z0} {i:Nat} {x:Str} {v:V} {u:Value} {Q:Unit->Shared->Prop} (I:Inv X pins σ H s) (hN:X.N.Nodup) (hi:X.N[i]?=some x) (hx:kc X.env.scope x) (r:RelV v u)
  (h:∀ s',Inv X pins (σ.set i (some v)) H s'->(∃ a,Heap.SameBut a s.heap s'.heap/\(a=X.env.locals\/X.env.cells.lookup x=some a))->Q () s') (hf:X.fn x=true\/X.env.scope.names.lookup x=some .local:=by first | exact .inl rfl | exact .inr rfl | assumption):wpAny M A (storeName X.env x u) Q E s:=by
 obtain ⟨m,hn,hl⟩:=id I.loc
 have hcls:(X.env.scope.kind == .class || (X.env.scope.kind == .module && X.env.locals != X.env.globals))=false:=by rw [I.ok.kind]; rfl
 have hiσ:i < σ.length:=by rw [I.len]; exact (v8.mp hi).1
 have cne:=I.cne
 have tracked:∀ {a:Addr} {h':Heap},(∃ o,s.heap.get? a=some o/\H a=none)->Heap.SameBut a s.heap h'->HOk X.prog X.w H h':=λ{a h'} ha hs b ob e=>by
  obtain ⟨_,_,hfree⟩:=ha
  refine (I.hok b ob e).stay (λc w' hc q=>(hs.2 c ?_).trans q) (λ_ q=>q) λ_ _ q=>q
  rintro rfl
  rcases hc with rfl | hc
  ·rw [hfree] at e; cases e
  ·rw [hfree] at hc; cases hc
 rcases hx with hk | hk
 ·refine wpAny_storeName_local hk hn (λh' hn' hs=>?_) hcls
  obtain ⟨oL,_,_,hoL,_⟩:=id hn
  refine h _ ⟨I.ok,I.os,I.bare,⟨λb o e n hb hx=>?_,λb o e n hb hx=>?_,I.base.free,λb o e hx=>?_,I.base.tups,I.base.frzs,I.base.tbls⟩,⟨_,hn',λj y v' e1 e2 e3=>?_⟩,λy c e=>?_,I.free,I.freeC,λp hp=>?_,tracked ⟨oL,hoL,I.free⟩ hs,by simpa using I.len⟩ ⟨_,hs,.inl rfl⟩
  ·exact (hs.2 b (wy (wb (wk e) I.ok.above))).trans (I.base.keep b o e n hb hx)
  ·obtain ⟨sl,e1⟩:=I.base.slot b o e n hb hx
   exact ⟨sl,(hs.2 b (wy (wb (wk e) I.ok.above))).trans e1⟩
  ·obtain ⟨o',e1⟩:=I.base.there b o e hx
   exact ⟨o',(hs.2 b (wy (wb (wk e) I.ok.above))).trans e1⟩
  ·by_cases hj:j=i
   ·subst hj
    rw [hi] at e1; cases e1
    rw [wA hiσ] at e2
    cases e2
    exact ⟨u,r,.inl ⟨hk,by simp⟩⟩
   ·rw [wq (Ne.symm hj)] at e2
    obtain ⟨u',r',q⟩:=hl j y v' e1 e2 e3
    refine ⟨u',r',?_⟩
    rcases q with ⟨k,e⟩ | ⟨k,c,e,z⟩
    ·refine .inl ⟨k,?_⟩
     have:y≠x:=λe=>hj (Zc1 hN e1 (e ▸ hi))
     simp [this,e]
    ·exact .inr ⟨k,c,e,z.sameBut hs (cne y c e)⟩
  ·obtain ⟨w',z⟩:=I.cell y c e
   exact ⟨w',z.sameBut hs (cne y c e)⟩
  ·obtain ⟨e,n,ne,nf,d⟩:=I.pin p hp
   exact ⟨(hs.2 p.1 ne).trans e,n,ne,nf,d⟩
 ·have hfn:X.fn x=true:=by
   rcases hf with z | z
   ·exact z
   ·rw [z] at hk; cases hk
  obtain ⟨c,hc⟩:=I.ok.has x (.inl hk)
  obtain ⟨w',z⟩:=I.cell x c hc
  refine wpAny_storeName_cell I.ok.kind hk hc z (λh' hc' hs=>?_)
  obtain ⟨oc,hoc,hocd⟩:=id z
  refine h { s with heap:=h' } ⟨I.ok,I.os,I.bare,⟨λb o e n hb hx=>?_,λb o e n hb hx=>?_,I.base.free,λb o e hx=>?_,I.base.tups,I.base.frzs,I.base.tbls⟩,⟨m,hn.sameBut hs (Ne.symm (cne x c hc)),λj y v' e1 e2 e3=>?_⟩,λy c' e=>?_,I.free,I.freeC,λp hp=>?_,tracked ⟨oc,hoc,I.freeC x c hc⟩ hs,by simpa using I.len⟩ ⟨c,hs,.inr hc⟩
  ·exact (hs.2 b (wy (wb (wk e) (I.ok.cab x c hfn hc)))).trans (I.base.keep b o e n hb hx)
  ·obtain ⟨sl,e1⟩:=I.base.slot b o e n hb hx
   exact ⟨sl,(hs.2 b (wy (wb (wk e) (I.ok.cab x c hfn hc)))).trans e1⟩
  ·obtain ⟨o',e1⟩:=I.base.there b o e hx
   exact ⟨o',(hs.2 b (wy (wb (wk e) (I.ok.cab x c hfn hc)))).trans e1⟩
  ·by_cases hj:j=i
   ·subst hj
    rw [hi] at e1; cases e1
    rw [wA hiσ] at e2
    cases e2
    exact ⟨u,r,.inr ⟨.inl hk,c,hc,hc'⟩⟩
   ·rw [wq (Ne.symm hj)] at e2
    obtain ⟨u',r',q⟩:=hl j y v' e1 e2 e3
    refine ⟨u',r',?_⟩
    rcases q with q | ⟨k,c',e,z'⟩
    ·exact .inl q
    ·refine .inr ⟨k,c',e,z'.sameBut hs ?_⟩
     rintro rfl
     exact hj (Zc1 hN e1 (I.ok.inj _ _ _ e hc ▸ hi))
  ·by_cases hcc:c'=c
   ·subst hcc; exact ⟨_,hc'⟩
   ·obtain ⟨w2,z2⟩:=I.cell y c' e
    exact ⟨w2,z2.sameBut hs hcc⟩
  ·obtain ⟨e,n,ne,nf,d⟩:=I.pin p hp
   refine ⟨(hs.2 p.1 ?_).trans e,n,ne,nf,d⟩
   intro q
   rw [q,hoc] at e
   have q':oc=p.2:=wG e
   exact d w' (by rw [<- q']; exact hocd)
theorem lO {M:Model} {A:Around} {E:z0} {i:Nat} {x:Str} {v:V} {u:Value} {Q:Unit->Shared->Prop} (I:Inv X pins σ H s) (hN:X.N.Nodup) (hi:X.N[i]?=some x) (hx:kc X.env.scope x) (r:RelV v u)
  (h:∀ s',Inv X pins (σ.set i (some v)) H s'->Q () s') (hf:X.fn x=true\/X.env.scope.names.lookup x=some .local:=by first | exact .inl rfl | exact .inr rfl | assumption):wpAny M A (storeName X.env x u) Q E s :=
 ZaQ I hN hi hx r (λs' I' _=>h s' I') hf
theorem Inv.call' {s':Shared} {ch:List Addr} (I:Inv X pins σ H s) (ho:s'.os=s.os) (u:Un (frs X.stack) ch H H' s.heap s'.heap) (hok:HOk X.prog X.w H' s'.heap) (hg:AllBare s'.gens)
  (hch:∀ b∈ch,(b∈X.ex\/X.s₀.heap.objs.size<=b)/\b≠X.env.locals/\(∀ x c,X.env.cells.lookup x=some c->c≠b)/\∀ p∈X.pn++pins,p.1≠b):Inv X pins σ H' s':=by
 obtain ⟨h',g',d',t',o'⟩:=s'
 have e:o'=s.os:=ho
 subst e
 exact I.call (g':=g') (t':=t') (d':=d') u hok hg hch
end
noncomputable abbrev XK:=Value->Option Addr->Hp->Prop
noncomputable abbrev St:=List (Option V)
noncomputable abbrev VK:=V->Hp->Prop
noncomputable abbrev TE:=St->Hp->VK->Prop
noncomputable abbrev TT:=St->Hp->(Bool->Hp->Prop)->Prop
noncomputable abbrev TA:=St->Hp->(List V->Hp->Prop)->Prop
structure Ends where
 nx:St->Hp->Prop
 rt:VK
 bk:St->Hp->Prop:=λ_ _=>False
 ct:St->Hp->Prop:=λ_ _=>False
noncomputable abbrev TS:=Ends->St->Hp->Prop
def EP (X:Cx) (pins:List (Addr×Obj)) (σ:St) (Q:VK) (u:Value) (s':Shared):Prop:=∃ v H',Inv X pins σ H' s'/\RelV v u/\Q v H'
def TP (X:Cx) (pins:List (Addr×Obj)) (σ:St) (Q:Bool->Hp->Prop) (b:Bool) (s':Shared):Prop:=∃ H',Inv X pins σ H' s'/\Q b H'
def AP (X:Cx) (pins:List (Addr×Obj)) (σ:St) (Q:List V->Hp->Prop) (us:Ab) (s':Shared):Prop:=∃ vs H',Inv X pins σ H' s'/\Vals vs us/\Q vs H'
noncomputable def SP (X:Cx) (pins:List (Addr×Obj)) (D:Ends) (f:Flow) (s':Shared):Prop :=
 match f with
 | .next=>∃ σ' H',Inv X pins σ' H' s'/\D.nx σ' H'
 | .brk=>∃ σ' H',Inv X pins σ' H' s'/\D.bk σ' H'
 | .cont=>∃ σ' H',Inv X pins σ' H' s'/\D.ct σ' H'
 | .ret u=>∃ v σ' H',Inv X pins σ' H' s'/\RelV v u/\D.rt v H'
noncomputable def PE (X:Cx) (e:Expr) (t:TE):Prop :=
 ∀ (pins:List (Addr×Obj)) (s:Shared) (σ:St) (H:Hp) (Q:VK),Inv X pins σ H s->t σ H Q->wpAny (model X.prog X.w) X.A (eval e X.env) (EP X pins σ Q) X.xe s
noncomputable def PT (X:Cx) (e:Expr) (t:TT):Prop :=
 ∀ (pins:List (Addr×Obj)) (s:Shared) (σ:St) (H:Hp) (Q:Bool->Hp->Prop),Inv X pins σ H s->t σ H Q->wpAny (model X.prog X.w) X.A (isTrue e X.env (eval e X.env)) (TP X pins σ Q) X.xe s
noncomputable def PW (X:Cx) (e:Expr) (t:TT):Prop :=
 ∀ (whole:Sem Value) (pins:List (Addr×Obj)) (s:Shared) (σ:St) (H:Hp) (Q:Bool->Hp->Prop),Inv X pins σ H s->t σ H Q->wpAny (model X.prog X.w) X.A (isTrue e X.env whole) (TP X pins σ Q) X.xe s
theorem PW.pt {X:Cx} {e:Expr} {t:TT} (h:PW X e t):PT X e t:=h _
noncomputable def PA (X:Cx) (es:List Expr) (t:TA):Prop :=
 ∀ (pos:Pos) (pins:List (Addr×Obj)) (s:Shared) (σ:St) (H:Hp) (Q:List V->Hp->Prop),Inv X pins σ H s->t σ H Q->wpAny (model X.prog X.w) X.A (spliced (backTo pos (starEach es X.env))) (AP X pins σ Q) X.xe s
noncomputable def PS (X:Cx) (st:Stmt) (t:TS):Prop :=
 ∀ (pins:List (Addr×Obj)) (s:Shared) (σ:St) (H:Hp) (D:Ends),Inv X pins σ H s->t D σ H->wpAny (model X.prog X.w) X.A (exec st X.env) (SP X pins D) X.xe s
noncomputable def PSs (X:Cx) (st:List Stmt) (t:TS):Prop :=
 ∀ (pins:List (Addr×Obj)) (s:Shared) (σ:St) (H:Hp) (D:Ends),Inv X pins σ H s->t D σ H->wpAny (model X.prog X.w) X.A (execs st X.env) (SP X pins D) X.xe s
theorem thn {α:Type} {t:Sem α} {Q Q':α->Shared->Prop} {M:Model} {A:Around} {E:z0} {s:Shared} (h:wpAny M A t Q E s) (hQ:∀ a s,Q a s->Q' a s):wpAny M A t Q' E s:=wpAny_mono h hQ λ_ _ x=>x
section
variable {X:Cx}
def fA (i:Nat):TE:=λσ H Q=>∃ v,σ[i]?=some (some v)/\Q v H
def tC (v:V):TE:=λ_ H Q=>Q v H
theorem ZlB {i:Nat} {x:Str} {pos:Pos} (hN:X.N[i]?=some x) (hv:qL X.env.scope x) (hd:(x == ("__debug__":Str))=false:=by decide) (hcd:(x == ("__classdict__":Str))=false:=by decide):PE X (.Name x pos) (fA i):=by
 intro pins s σ H Q I h
 obtain ⟨v,e,h⟩:=h
 obtain ⟨m,hn,hl⟩:=I.loc
 obtain ⟨u,r,l⟩:=hl i x v hN e hv
 have fin:EP X pins σ Q u s:=⟨v,H,I,r,h⟩
 rcases l with ⟨hk,hm⟩ | ⟨hk,c,hc,hcell⟩
 ·exact wpAny_Name (wpAny_loadName_local I.ok.kind hk hn hm fin) hd
 ·rcases hk with hk | hk
  ·exact wpAny_Name (wpAny_loadName_cell I.ok.kind hk hc hcell fin) hd
  ·exact wpAny_Name (wpAny_loadName_free I.ok.kind hk hc hcell fin hcd) hd
theorem cJ {i j pos}:PE X (.Constant (.int i) j pos) (tC (.int i)):=λ_ _ _ H _ I h=>wpAny_Constant_int ⟨.int i,H,I.tok _,⟨_,rfl⟩,h⟩
theorem ZlR {b j pos}:PE X (.Constant (.bool b) j pos) (tC (.bl b)):=λ_ _ _ H _ I h=>Constant_bool ⟨.bl b,H,I,rfl,h⟩
theorem ZlF {j pos}:PE X (.Constant .none j pos) (tC .non):=λ_ _ _ H _ I h=>Constant_none ⟨.non,H,I,rfl,h⟩
theorem eI {x j pos}:PE X (.Constant (.str x) j pos) (tC (.str x)):=λ_ _ _ H _ I h=>Calls.Constant_str ⟨.str x,H,I.tok _,⟨_,rfl⟩,h⟩
def Gl (X:Cx) (x:Str):Prop:=X.env.kindOf x=some .globalImplicit
theorem ZdG {E:z0} {pins:List (Addr×Obj)} {s:Shared} {σ:St} {H:Hp} {x:Str} {u:Value} {pos:Pos} {Q:z0} (I:Inv X pins σ H s) (hg:Gl X x) (hm:X.mg x=some u) (h:Q u s)
  (hd:(x == ("__debug__":Str))=false:=by decide):wpAny (model X.prog X.w) X.A (eval (.Name x pos) X.env) Q E s :=
 Calls.Name_function_global I.ok.kind hg (Calls.loadGlobal_global (by rw [I.ok.glob]; exact I.mod.glob.keeps I.bk) hm h) hd
theorem jb {E:z0} {pins:List (Addr×Obj)} {s:Shared} {σ:St} {H:Hp} {x:Str} {u:Value} {pos:Pos} {Q:z0} (I:Inv X pins σ H s) (hg:Gl X x) (hm:X.mg x=none) (hv:bootBuiltins x=some u) (h:Q u s)
  (hn:x≠"__name__":=by decide) (hd:(x == ("__debug__":Str))=false:=by decide):wpAny (model X.prog X.w) X.A (eval (.Name x pos) X.env) Q E s:=by
 obtain ⟨mb,h1,h2⟩:=I.mod.blt
 exact Calls.Name_function_global I.ok.kind hg (Calls.loadGlobal_builtin (by rw [I.ok.glob]; exact I.mod.glob.keeps I.bk) hm (by rw [I.ok.blt]; exact h1.keeps I.bk) ((h2 x hn).trans hv) h) hd
theorem ZlJ {x:Str} {v:V} {u:Value} {pos:Pos} (hg:Gl X x) (hm:X.mg x=some u) (r:RelV v u) (hd:(x == ("__debug__":Str))=false:=by decide):PE X (.Name x pos) (tC v) :=
 λ_ _ _ H _ I h=>ZdG I hg hm ⟨v,H,I,r,h⟩ hd
theorem fJ {x:Str} {v:V} {u:Value} {pos:Pos} (hg:Gl X x) (hm:X.mg x=none) (hv:bootBuiltins x=some u) (r:RelV v u) (hn:x≠"__name__":=by decide) (hd:(x == ("__debug__":Str))=false:=by decide):PE X (.Name x pos) (tC v) :=
 λ_ _ _ H _ I h=>jb I hg hm hv ⟨v,H,I,r,h⟩ hn hd
variable {a b:Expr} {ta tb:TE} {pos:Pos}
def tB (t:TE):TT:=λσ H Q=>t σ H λx H1=>∃ c,x=.bl c/\Q c H1
theorem Zle {e:Expr} {t:TE} (h:PE X e t) (he:∀ whole,isTrue e X.env whole=(do let v <- whole; standAt e.pos; holding [v] (truthy v)):=by intro _; rfl):PT X e (tB t):=by
 intro pins s σ H Q I hw
 refine isTrue_plain (thn (h pins s σ H _ I hw) λv s1 hz0=>?_) (he _)
 obtain ⟨x,H1,I1,r1,q1⟩:=hz0
 obtain ⟨d,rfl,q⟩:=q1
 cases r1
 exact wpAny_truthy_bool ⟨H1,I1,q⟩
variable {tA tB':TT} {rest:List Expr}
def ZjO (t u:TT):TT:=λσ H Q=>t σ H λc H1=>if c=true then u σ H1 Q else Q false H1
def tOr (t u:TT):TT:=λσ H Q=>t σ H λc H1=>if c=true then Q true H1 else u σ H1 Q
def ZjA (t:TT):TT:=λσ H Q=>t σ H λc H1=>Q (!c) H1
theorem Zlb (ha:PT X a tA):PW X (.BoolOp .And [a] pos) tA:=by
 intro wh pins s σ H Q I h
 refine isTrue_and (thn (ha pins s σ H Q I h) λc s1 e=>?_)
 cases c with
 | true=>exact isTrue_and_nil e
 | false=>exact e
theorem Zk8 (ha:PT X a tA):PW X (.BoolOp .Or [a] pos) tA:=by
 intro wh pins s σ H Q I h
 refine isTrue_or (thn (ha pins s σ H Q I h) λc s1 e=>?_)
 cases c with
 | false=>exact isTrue_or_nil e
 | true=>exact e
theorem Zlc (ha:PT X a tA) (hb:PW X (.BoolOp .And (b::rest) pos) tB'):PW X (.BoolOp .And (a::b::rest) pos) (ZjO tA tB'):=by
 intro wh pins s σ H Q I h
 refine isTrue_and (thn (ha pins s σ H _ I h) λc s1 hz0=>?_)
 obtain ⟨H1,I1,q1⟩:=hz0
 cases c with
 | true=>exact hb wh pins s1 σ H1 Q I1 q1
 | false=>exact ⟨H1,I1,q1⟩
theorem Zk9 (ha:PT X a tA) (hb:PW X (.BoolOp .Or (b::rest) pos) tB'):PW X (.BoolOp .Or (a::b::rest) pos) (tOr tA tB'):=by
 intro wh pins s σ H Q I h
 refine isTrue_or (thn (ha pins s σ H _ I h) λc s1 hz0=>?_)
 obtain ⟨H1,I1,q1⟩:=hz0
 cases c with
 | true=>exact ⟨H1,I1,q1⟩
 | false=>exact hb wh pins s1 σ H1 Q I1 q1
theorem Zlg (ha:PT X a tA):PT X (.UnaryOp .Not a pos) (ZjA tA):=by
 intro pins s σ H Q I h
 exact isTrue_not (ha pins s σ H (λc H1=>Q (!c) H1) I h)
def ZjN (ta tb:TE):TE:=λσ H Q=>ta σ H λx H1=>∃ c,x=.bl c/\if c=true then tb σ H1 Q else Q (.bl false) H1
def Zjz (ta:TE):TE:=λσ H Q=>ta σ H λx H1=>∃ c,x=.bl c/\Q (.bl (!c)) H1
theorem ZlD {op} {t:TE} (h:PE X a t):PE X (.BoolOp op [a] pos) t:=λpins s σ H Q I hw=>BoolOp_one (h pins s σ H Q I hw)
theorem ZlS (ha:PE X a ta) (hb:PE X (.BoolOp .And (b::rest) pos) tb):PE X (.BoolOp .And (a::b::rest) pos) (ZjN ta tb):=by
 intro pins s σ H Q I h
 refine BoolOp_and (thn (ha pins s σ H _ I h) λv s1 hz0=>?_)
 obtain ⟨x,H1,I1,r1,q1⟩:=hz0
 obtain ⟨c,rfl,q1⟩:=q1
 cases r1
 refine wpAny_truthy_bool ?_
 cases c with
 | true=>exact hb pins s1 σ H1 Q I1 q1
 | false=>exact ⟨.bl false,H1,I1,rfl,q1⟩
theorem ZlE (ha:PE X a ta):PE X (.UnaryOp .Not a pos) (Zjz ta):=by
 intro pins s σ H Q I h
 refine UnaryOp_ (thn (ha pins s σ H _ I h) λv s1 hz0=>?_)
 obtain ⟨x,H1,I1,r1,q1⟩:=hz0
 obtain ⟨c,rfl,q1⟩:=q1
 cases r1
 exact not_of (wpAny_truthy_bool ⟨.bl (!c),H1,I1,rfl,q1⟩)
def tIf (t:TT) (ta tb:TE):TE:=λσ H Q=>t σ H λc H1=>if c=true then ta σ H1 Q else tb σ H1 Q
theorem ZlI {c:Expr} (hc:PT X c tA) (ha:PE X a ta) (hb:PE X b tb):PE X (.IfExp c a b pos) (tIf tA ta tb):=by
 intro pins s σ H Q I h
 refine wpAny_IfExp (thn (hc pins s σ H _ I h) λd s1 hz0=>?_)
 obtain ⟨H1,I1,q1⟩:=hz0
 cases d with
 | true=>exact ha pins s1 σ H1 Q I1 q1
 | false=>exact hb pins s1 σ H1 Q I1 q1
end
noncomputable def SqL (K:zR) (H:Hp) (a:Addr) (xs:Ad):Prop :=
 Rd H a (.lst xs) \/
  ∃ (o:Obj) (its:Array Value) (n:Nat),K.lookup a=some o/\o.cls=.type "list"/\o.dict=none/\o.data=.seq its n/\its.size<=sizeLine/\Vals xs its.toList
noncomputable def SqT (K:zR) (H:Hp) (a:Addr) (xs:Ad):Prop :=
 Rd H a (.tup xs) \/
  ∃ (o:Obj) (its:Array Value) (n:Nat),K.lookup a=some o/\o.cls=.type "tuple"/\o.data=.seq its n/\its.size<=sizeLine/\Vals xs its.toList
noncomputable def ZqH:Value->Option V
 | .none=>some .non
 | .bool b=>some (.bl b)
 | .int i _=>some (.int i)
 | .str x _=>some (.str x)
 | .bytes b _=>some (.byt b)
 | .float b _=>some (.flt b)
 | .ref a=>some (.ref a)
 | .type n=>some (.ty n)
 | _=>none
theorem RelV.abs {x:V} {u:Value} (r:RelV x u):ZqH u=some x:=by
 cases x with
 | non=>cases r; rfl
 | bl _=>cases r; rfl
 | int _=>obtain ⟨t,rfl⟩:=r; rfl
 | str _=>obtain ⟨t,rfl⟩:=r; rfl
 | byt _=>obtain ⟨t,rfl⟩:=r; rfl
 | flt _=>obtain ⟨t,rfl⟩:=r; rfl
 | ref _=>cases r; rfl
 | ty _=>cases r; rfl
theorem RelV.inj {x y:V} {u:Value} (r:RelV x u) (q:RelV y u):x=y:=wG (r.abs.symm.trans q.abs)
theorem Vals.inj {xs ys:Ad} {us:Ab} (h:Vals xs us) (h':Vals ys us):xs=ys:=by
 induction h generalizing ys with
 | nil=>cases h'; rfl
 | cons r t ih=>cases h' with | cons r' t'=>rw [r.inj r',ih t']
section
variable {X:Cx} {pins:List (Addr×Obj)} {σ:St} {H:Hp} {s:Shared} {a:Addr} {xs ys:Ad}
theorem SqL.of {K:zR} (h:H a=some (.lst xs)):SqL K H a xs:=.inl (.inl h)
theorem SqT.of {K:zR} (h:H a=some (.tup xs)):SqT K H a xs:=.inl (.inl h)
theorem Inv.list (I:Inv X pins σ H s) (h:SqL X.K H a xs):∃ its:Ab,Vals xs its/\PlainL s.heap a its.toArray/\xs.length<=sizeLine:=by
 rcases h with h | ⟨o,its,n,hk,hc,hd,hs,hz,r⟩
 ·obtain ⟨z,its,n,r,e⟩:=h.ok I.hok
  exact ⟨its,r,⟨_,n,e,rfl,rfl,rfl⟩,z⟩
 ·refine ⟨its.toList,r,⟨o,n,I.kIn a o hk,hc,hd,by simpa using hs⟩,?_⟩
  have e:=r.length
  simp only [y9] at e
  omega
theorem Inv.tuple (I:Inv X pins σ H s) (h:SqT X.K H a xs):∃ its:Ab,Vals xs its/\IsTup s.heap a its.toArray/\xs.length<=sizeLine:=by
 rcases h with h | ⟨o,its,n,hk,hc,hs,hz,r⟩
 ·obtain ⟨z,its,r,p⟩:=h.ok I.hok
  exact ⟨its,r,p,z⟩
 ·refine ⟨its.toList,r,⟨o,I.kIn a o hk,hc,n,by simpa using hs⟩,?_⟩
  have e:=r.length
  simp only [y9] at e
  omega
theorem Inv.list_inj (I:Inv X pins σ H s) (h:SqL X.K H a xs) (h':SqL X.K H a ys):xs=ys:=by
 obtain ⟨its,r,⟨o,n,e,_,_,d⟩,_⟩:=I.list h
 obtain ⟨its',r',⟨o',n',e',_,_,d'⟩,_⟩:=I.list h'
 rw [e] at e'; cases e'
 rw [d] at d'
 injection d' with d1 _
 have:its=its':=by simpa using congrArg Array.toList d1
 subst this
 exact r.inj r'
theorem Inv.tuple_inj (I:Inv X pins σ H s) (h:SqT X.K H a xs) (h':SqT X.K H a ys):xs=ys:=by
 obtain ⟨its,r,⟨o,e,_,n,d⟩,_⟩:=I.tuple h
 obtain ⟨its',r',⟨o',e',_,n',d'⟩,_⟩:=I.tuple h'
 rw [e] at e'; cases e'
 rw [d] at d'
 injection d' with d1 _
 have:its=its':=by simpa using congrArg Array.toList d1
 subst this
 exact r.inj r'
end
noncomputable abbrev Cx.wish (X:Cx) (E:z0):Cx:={ X with xe:=E }
noncomputable abbrev Cx.nox (X:Cx):Cx:=X.wish λ_ _=>False
theorem Cx.Ok.wish {X:Cx} (ok:X.Ok) (E:z0):(X.wish E).Ok :=
 ⟨ok.mod,ok.kind,ok.glob,ok.blt,ok.above,ok.inj,ok.has,ok.cab,ok.hd,ok.frames,ok.stk,ok.exf,ok.bs,ok.bsz,ok.noex,ok.exfs,ok.funs,ok.frf⟩
theorem Cx.Ok.unwish {X:Cx} {E:z0} (ok:(X.wish E).Ok):X.Ok :=
 ⟨ok.mod,ok.kind,ok.glob,ok.blt,ok.above,ok.inj,ok.has,ok.cab,ok.hd,ok.frames,ok.stk,ok.exf,ok.bs,ok.bsz,ok.noex,ok.exfs,ok.funs,ok.frf⟩
section
variable {X:Cx} {pins:List (Addr×Obj)} {σ:St} {H:Hp} {s:Shared} {E:z0}
theorem Inv.wish (I:Inv X pins σ H s) (E:z0):Inv (X.wish E) pins σ H s:=⟨I.ok.wish E,I.os,I.bare,I.base,I.loc,I.cell,I.free,I.freeC,I.pin,I.hok,I.len⟩
theorem Inv.unwish (I:Inv (X.wish E) pins σ H s):Inv X pins σ H s:=⟨I.ok.unwish,I.os,I.bare,I.base,I.loc,I.cell,I.free,I.freeC,I.pin,I.hok,I.len⟩
theorem SP.unwish {D:Ends} {f:Flow} {s':Shared} (h:SP (X.wish E) pins D f s'):SP X pins D f s':=by
 cases f with
 | next=>obtain ⟨σ',H',I,q⟩:=h; exact ⟨σ',H',I.unwish,q⟩
 | brk=>obtain ⟨σ',H',I,q⟩:=h; exact ⟨σ',H',I.unwish,q⟩
 | cont=>obtain ⟨σ',H',I,q⟩:=h; exact ⟨σ',H',I.unwish,q⟩
 | ret u=>obtain ⟨v,σ',H',I,r,q⟩:=h; exact ⟨v,σ',H',I.unwish,r,q⟩
theorem PSs.nox {st:List Stmt} {t:TS} (h:PSs X.nox st t):PSs X st t:=λpins s σ H D I hw =>
 wpAny_mono (h pins s σ H D (I.wish _) hw) (λ_ _ q=>q.unwish) λ_ _ z=>False.elim z
end
section
variable {X:Cx} {st:Stmt} {rest:List Stmt} {t u:TS} {e:Expr} {te:TE} {pos:Pos}
def ZjC:TS:=λD σ H=>D.nx σ H
def Zay (t u:TS):TS:=λD σ H=>t { D with nx:=u D } σ H
theorem oy:PSs X [] ZjC:=λ_ _ σ H _ I h=>wpAny_execs_nil ⟨σ,H,I,h⟩
theorem eU (h1:PS X st t) (h2:PSs X rest u):PSs X (st::rest) (Zay t u):=by
 intro pins s σ H D I h
 refine wpAny_execs_cons (thn (h1 pins s σ H { D with nx:=u D } I h) λf s1 q=>?_)
 cases f with
 | next =>
  obtain ⟨σ',H',I',q⟩:=q
  exact h2 pins s1 σ' H' D I' q
 | ret v=>exact q
 | brk=>exact q
 | cont=>exact q
theorem jG (h1:PS X st t):PSs X [st] t:=by
 intro pins s σ H D I h
 refine wpAny_execs_cons (thn (h1 pins s σ H D I h) λf s1 q=>?_)
 cases f with
 | next=>exact wpAny_execs_nil q
 | ret v=>exact q
 | brk=>exact q
 | cont=>exact q
theorem Inv.quiet {pins:List (Addr×Obj)} {σ:St} {H:Hp} {s:Shared} (I:Inv X pins σ H s):interactive X.env=false:=by simp [interactive,I.ok.kind]
def rF (te:TE):TS:=λD σ H=>te σ H λ_ H1=>D.nx σ H1
theorem jH (he:PE X e te) (hs:swapsWith e none pos.line X.env=pure false:=by rfl):PS X (.Expr e pos) (rF te):=by
 intro pins s σ H D I h
 exact wpAny_Expr_any (thn (he pins s σ H _ I h) λv s1 ⟨x,H1,I1,r1,q1⟩=>⟨σ,H1,I1,q1⟩) I.quiet hs
def Zjw (te:TE):TS:=λD σ H=>te σ H D.rt
theorem hW (he:PE X e te):PS X (.Return (some e) pos) (Zjw te):=by
 intro pins s σ H D I h
 exact wpAny_Return_some (thn (he pins s σ H _ I h) λv s1 ⟨x,H1,I1,r1,q1⟩=>⟨x,σ,H1,I1,r1,q1⟩)
def ZjG (c:TT) (t u:TS):TS:=λD σ H=>c σ H λb H1=>if b=true then t D σ H1 else u D σ H1
theorem oz {c:Expr} {a b:List Stmt} {tc:TT} (hc:PT X c tc) (ha:PSs X a t) (hb:PSs X b u):PS X (.If c a b pos) (ZjG tc t u):=by
 intro pins s σ H D I h
 refine wpAny_If (thn (hc pins s σ H _ I h) λd s1 hz0=>?_)
 obtain ⟨H1,I1,q1⟩:=hz0
 cases d with
 | true=>exact ha pins s1 σ H1 D I1 q1
 | false=>exact hb pins s1 σ H1 D I1 q1
end
noncomputable abbrev TG:=V->St->Hp->(St->Hp->Prop)->Prop
noncomputable abbrev iJ:=List V->St->Hp->(St->Hp->Prop)->Prop
noncomputable def PG (X:Cx) (target:Expr) (t:TG):Prop :=
 ∀ (pins:List (Addr×Obj)) (s:Shared) (σ:St) (H:Hp) (v:V) (u:Value) (Q:St->Hp->Prop),Inv X pins σ H s->RelV v u->t v σ H Q ->
  wpAny (model X.prog X.w) X.A (assign target X.env u) (λ_ s'=>∃ σ' H',Inv X pins σ' H' s'/\Q σ' H') X.xe s
noncomputable def PGs (X:Cx) (ts:List Expr) (t:iJ):Prop :=
 ∀ (pins:List (Addr×Obj)) (s:Shared) (σ:St) (H:Hp) (vs:Ad) (us:Ab) (Q:St->Hp->Prop),Inv X pins σ H s->Vals vs us->t vs σ H Q ->
  wpAny (model X.prog X.w) X.A (assignInOrder ((assignEach ts X.env).map (·.2)) us) (λ_ s'=>∃ σ' H',Inv X pins σ' H' s'/\Q σ' H') X.xe s
noncomputable abbrev nE:=V->V->V->Hp->(Hp->Prop)->Prop
noncomputable def vS (X:Cx) (t:nE):Prop :=
 ∀ (pins:List (Addr×Obj)) (s:Shared) (σ:St) (H:Hp) (o i v:V) (ov iv u:Value) (Q:Hp->Prop),Inv X pins σ H s->RelV o ov->RelV i iv->RelV v u->t o i v H Q ->
  wpAny (model X.prog X.w) X.A (setItem ov iv u) (λ_ s'=>∃ H',Inv X pins σ H' s'/\Q H') X.xe s
noncomputable abbrev lA:=V->V->Hp->VK->Prop
noncomputable def nG (X:Cx) (op:Operator) (t:lA):Prop :=
 ∀ (pins:List (Addr×Obj)) (s:Shared) (σ:St) (H:Hp) (x y:V) (v u:Value) (Q:VK),Inv X pins σ H s->RelV x v->RelV y u->t x y H Q ->
  wpAny (model X.prog X.w) X.A (inplaceOp op v u) (EP X pins σ Q) X.xe s
section
variable {X:Cx} {pos:Pos}
def gL (i:Nat):TG:=λv σ H Q=>Q (σ.set i (some v)) H
theorem Zlx {i:Nat} {x:Str} (hN:X.N.Nodup) (hi:X.N[i]?=some x) (hx:kc X.env.scope x) (hf:X.fn x=true\/X.env.scope.names.lookup x=some .local:=by first | exact .inl rfl | exact .inr rfl | assumption):PG X (.Name x pos) (gL i):=by
 intro pins s σ H v u Q I r h
 exact wpAny_assign_Name (lO I hN hi hx r (λs' I'=>⟨_,H,I',h⟩) hf)
theorem aQ {i:Nat} {x:Str} (hN:X.N.Nodup) (hi:X.N[i]?=some x:=by rfl) (hx:kc X.env.scope x:=by first | exact Or.inl rfl | exact Or.inr rfl) (hf:X.fn x=true\/X.env.scope.names.lookup x=some .local:=by first | exact .inl rfl | exact .inr rfl | assumption):PG X (.Name x pos) (gL i):=Zlx hN hi hx hf
noncomputable def ZnQ:iJ:=λvs σ H Q=>vs=[]/\Q σ H
noncomputable def ZnR (t:TG) (u:iJ):iJ:=λvs σ H Q=>∃ v r,vs=v::r/\t v σ H λσ' H'=>u r σ' H' Q
theorem Zlu:PGs X [] ZnQ:=by
 intro pins s σ H vs us Q I r h
 obtain ⟨e,h⟩:=h
 subst e
 cases r
 exact assignInOrder_nil ⟨σ,H,I,h⟩
theorem Zlv {e:Expr} {es:List Expr} {t:TG} {u:iJ} (h1:PG X e t) (h2:PGs X es u)
  (hs:(assignEach (e::es) X.env).map (·.2)=assign e X.env::(assignEach es X.env).map (·.2):=by rfl):PGs X (e::es) (ZnR t u):=by
 intro pins s σ H vs us Q I r h
 obtain ⟨v,vr,e1,h⟩:=h
 subst e1
 cases r with
 | cons r rr =>
  rw [hs]
  refine assignInOrder_cons (thn (h1 pins s σ H _ _ _ I r h) λ_ s1 hz0=>?_)
  obtain ⟨σ1,H1,I1,q1⟩:=hz0
  exact h2 pins s1 σ1 H1 _ _ Q I1 rr q1
def ZnP (K:zR) (n:Nat) (t:iJ):TG:=λv σ H Q=>∃ a xs,v=.ref a/\SqT K H a xs/\xs.length=n/\t xs σ H Q
theorem Zlw {es:List Expr} {k:Nat} {t:iJ} {n:Nat} (hc:X.calm=true) (h:PGs X es t)
  (hn:(assignEach es X.env).length=n:=by rfl) (hst:(assignEach es X.env).findIdx? (·.1)=none:=by rfl):PG X (.Tuple es k pos) (ZnP X.K n t):=by
 intro pins s σ H v u Q I r hw
 obtain ⟨a,xs,e1,hq,hl,hw⟩:=hw
 subst e1
 cases r
 obtain ⟨its,rv,ht,hz⟩:=I.tuple hq
 refine assign_Tuple_tuple (I.ok.hd hc) ht (by simp [hn,<- hl,rv.length]) hst λh' hx=>?_
 have I1:Inv X pins σ H { s with heap:=h' }:=I.kept (t':=s.toks) λb o e=>hx b o (wy (wk e)) e
 exact h pins _ σ H xs _ Q I1 (by simpa using rv) hw
def Zei (to ti:TE) (t:nE):TG:=λv σ H Q=>to σ H λo H1=>ti σ H1 λi H2=>t o i v H2 λH3=>Q σ H3
theorem tz {o i:Expr} {to ti:TE} {t:nE} (ho:PE X o to) (hi:PE X i ti) (hs:vS X t)
  (ha:∀ v,assign (.Subscript o i pos) X.env v=(do
   let ov <- holding [v] (eval o X.env)
   let iv <- holding [v,ov] (eval i X.env)
   standAt pos
   holding [v,ov,iv] (setItem ov iv v)
   release [v,ov,iv] []):=by intro _; rfl):PG X (.Subscript o i pos) (Zei to ti t):=by
 intro pins s σ H v u Q I r h
 rw [ha]
 refine wpAny_bind (wpAny_holding (thn (ho pins s σ H _ I h) λov s1 hz0=>?_))
 obtain ⟨x,H1,I1,r1,q1⟩:=hz0
 refine wpAny_bind (wpAny_holding (thn (hi pins s1 σ H1 _ I1 q1) λiv s2 hz0=>?_))
 obtain ⟨y,H2,I2,r2,q2⟩:=hz0
 refine wpAny_bind (wpAny_standAt (wpAny_bind (wpAny_holding (thn (hs pins s2 σ H2 x y v ov iv u _ I2 r1 r2 r q2) λ_ s3 hz0=>?_))))
 obtain ⟨H3,I3,q3⟩:=hz0
 exact wpAny_release ⟨σ,H3,I3,q3⟩
def f8 (te:TE) (g:TG):TS:=λD σ H=>te σ H λx H1=>g x σ H1 D.nx
theorem eE {tg e:Expr} {te:TE} {g:TG} (he:PE X e te) (hg:PG X tg g) (hs:swapsWithSole [tg] e pos.line X.env=pure false:=by rfl) (hw:swappedStores [tg] e X.env=pure none:=by rfl)
  (h1:(assignEach [tg] X.env).map (·.2)=[assign tg X.env]:=by rfl):PS X (.Assign [tg] e pos) (f8 te g):=by
 intro pins s σ H D I h
 refine wpAny_Assign_stores (thn (he pins s σ H _ I h) λv s1 hz0=>?_) hs hw
 obtain ⟨x,H1,I1,r1,q1⟩:=hz0
 rw [h1]
 exact thn (hg pins s1 σ H1 x v _ I1 r1 q1) λ_ s2 q=>q
theorem Zlk {i:Nat} {x:Str} {e:Expr} {te:TE} {pos':Pos} (hN:X.N.Nodup) (hi:X.N[i]?=some x) (hx:kc X.env.scope x) (he:PE X e te) (hs:swapsWith e (some (.Name x pos')) pos.line X.env=pure false:=by rfl) (hf:X.fn x=true\/X.env.scope.names.lookup x=some .local:=by first | exact .inl rfl | exact .inr rfl | assumption) :
  PS X (.Assign [.Name x pos'] e pos) (f8 te (gL i)):=by
 intro pins s σ H D I h
 refine wpAny_Assign_Name (thn (he pins s σ H _ I h) λv s1 hz0=>?_) hs
 obtain ⟨y,H1,I1,r1,q1⟩:=hz0
 exact lO I1 hN hi hx r1 (λs2 I2=>⟨_,H1,I2,q1⟩) hf
theorem aN {i:Nat} {x:Str} {e:Expr} {te:TE} {pos':Pos} (hN:X.N.Nodup) (he:PE X e te) (hi:X.N[i]?=some x:=by rfl) (hx:kc X.env.scope x:=by first | exact Or.inl rfl | exact Or.inr rfl) (hs:swapsWith e (some (.Name x pos')) pos.line X.env=pure false:=by rfl) (hf:X.fn x=true\/X.env.scope.names.lookup x=some .local:=by first | exact .inl rfl | exact .inr rfl | assumption):PS X (.Assign [.Name x pos'] e pos) (f8 te (gL i)):=Zlk hN hi hx he hs hf
def Zaz (i j:Nat) (ta:TA):TS:=λD σ H=>ta σ H λvs H1=>∃ v w,vs=[v,w]/\D.nx ((σ.set i (some v)).set j (some w)) H1
theorem kE {i j:Nat} {x y:Str} {a b:Expr} {ta:TA} {px py pt:Pos} {kt k2 pt2} (hc:X.calm=true) (hN:X.N.Nodup) (hi:X.N[i]?=some x) (hj:X.N[j]?=some y) (hij:i≠j)
  (hx:X.env.scope.names.lookup x=some .local) (hy:X.env.scope.names.lookup y=some .local) (ha:PA X [a,b] ta)
  (hw:swappedStores [.Tuple [.Name x px,.Name y py] kt pt] (.Tuple [a,b] k2 pt2) X.env=pure (some [x,y]))
  (hs:swapsWithSole [.Tuple [.Name x px,.Name y py] kt pt] (.Tuple [a,b] k2 pt2) pos.line X.env=pure false:=by rfl) :
  PS X (.Assign [.Tuple [.Name x px,.Name y py] kt pt] (.Tuple [a,b] k2 pt2) pos) (Zaz i j ta):=by
 intro pins s σ H D I h
 rw [exec_Assign_arm]
 refine wpAny_bind (wpAny_standAt ?_)
 rw [hs]
 refine wpAny_bind (wpAny_pure ?_)
 rw [if_neg (by decide)]
 refine wpAny_bind (Tuple_ (thn (ha _ pins s σ H _ I h) λus s1 hz0=>?_))
 obtain ⟨vs,H1,I1,r1,q1⟩:=hz0
 obtain ⟨v,w,e1,q1⟩:=q1
 subst e1
 obtain ⟨u1,u2,rfl,rv,rw'⟩:∃ u1 u2,us=[u1,u2]/\RelV v u1/\RelV w u2:=by
  cases r1 with
  | cons p q =>
   cases q with
   | cons p' q' =>
    cases q'
    exact ⟨_,_,rfl,p,p'⟩
 refine wpAny_newObj_type ?_ (by show 2<=sizeLine; decide)
 have I2:Inv X pins σ H1 { s1 with heap:=s1.heap.push { cls:=.type "tuple",data:=.seq [u1,u2].toArray } }:=I1.kept (t':=s1.toks) λb o e=>vY _ e
 rw [hw]
 refine wpAny_bind (wpAny_pure ?_)
 show wpAny (model X.prog X.w) X.A (do rule "assign.swapped-stores"; let items <- unpackItems (.ref s1.heap.objs.size) 2 none; assignInOrder [λv=>bindName X.env y v,λv=>bindName X.env x v] items.reverse; pure Flow.next) _ _ _
 refine wpAny_bind (wpAny_rule (wpAny_bind (unpackItems_tuple (items:=#[u1,u2]) (I.ok.hd hc) (IsTup.new s1.heap _) λh' hx'=>?_)))
 have I3:=I2.kept (h':=h') (t':=s1.toks) λb o e=>hx' b o (wy (wk e)) e
 show wpAny _ _ (assignInOrder [λv=>bindName X.env y v,λv=>bindName X.env x v] [u2,u1] >>= λ_=>pure Flow.next) _ _ _
 refine wpAny_bind (assignInOrder_cons (wpAny_bindName (lO I3 hN hj (.inl hy) rw' (λs2 I4=>?_) (.inr hy))))
 refine assignInOrder_cons (wpAny_bindName (lO I4 hN hi (.inl hx) rv (λs3 I5=>assignInOrder_nil (wpAny_pure ?_)) (.inr hx)))
 rw [List.set_comm _ _ (Ne.symm hij)] at I5
 exact ⟨_,H1,I5,q1⟩
def ZaE (i:Nat) (te:TE) (ti:lA):TS:=λD σ H=>∃ x,σ[i]?=some (some x)/\te σ H λy H1=>ti x y H1 λz H2=>D.nx (σ.set i (some z)) H2
theorem ZcC {i:Nat} {x:Str} {e:Expr} {te:TE} {op:Operator} {ti:lA} {pos':Pos} (hN:X.N.Nodup) (hi:X.N[i]?=some x) (hx:kc X.env.scope x) (he:PE X e te) (ho:nG X op ti) (hf:X.fn x=true\/X.env.scope.names.lookup x=some .local:=by first | exact .inl rfl | exact .inr rfl | assumption) :
  PS X (.AugAssign (.Name x pos') op e pos) (ZaE i te ti):=by
 intro pins s σ H D I h
 obtain ⟨v,e1,h⟩:=h
 obtain ⟨m,hn,hl⟩:=I.loc
 have vis:qL X.env.scope x:=by rcases hx with k | k; exact .inl k; exact .inr (.inl k)
 obtain ⟨u,r,l⟩:=hl i x v hi e1 vis
 refine wpAny_AugAssign_Name ?_
 have go:wpAny (model X.prog X.w) X.A (eval e X.env) (λw s₂=>wpAny (model X.prog X.w) X.A (inplaceOp op u w) (λr s₃=>wpAny (model X.prog X.w) X.A (storeName X.env x r) (λ_=>SP X pins D .next) X.xe s₃) X.xe s₂) X.xe s:=by
  refine thn (he pins s σ H _ I h) λw s1 hz0=>?_
  obtain ⟨y,H1,I1,r1,q1⟩:=hz0
  refine thn (ho pins s1 σ H1 v y u w _ I1 r r1 q1) λz s2 hz0=>?_
  obtain ⟨zv,H2,I2,r2,q2⟩:=hz0
  exact lO I2 hN hi hx r2 (λs3 I3=>⟨_,H2,I3,q2⟩) hf
 rcases l with ⟨hk,hm⟩ | ⟨hk,c,hc,hcell⟩
 ·exact wpAny_loadName_local I.ok.kind hk hn hm go
 ·rcases hk with hk | hk
  ·exact wpAny_loadName_cell I.ok.kind hk hc hcell go
  ·rcases hx with k | k
   ·have:X.env.scope.names.lookup x=some .free:=hk
    rw [k] at this; cases this
   ·have:X.env.scope.names.lookup x=some .free:=hk
    rw [k] at this; cases this
def ZaD (to ti te:TE) (tget:V->V->Hp->VK->Prop) (tip:lA) (tset:nE):TS:=λD σ H=>to σ H λo H1=>ti σ H1 λi H2=>tget o i H2 λx H3=>te σ H3 λy H4=>tip x y H4 λz H5=>tset o i z H5 λH6=>D.nx σ H6
noncomputable def ZiJ (X:Cx) (t:V->V->Hp->VK->Prop):Prop :=
 ∀ (pins:List (Addr×Obj)) (s:Shared) (σ:St) (H:Hp) (o i:V) (ov iv:Value) (Q:VK),Inv X pins σ H s->RelV o ov->RelV i iv->t o i H Q ->
  wpAny (model X.prog X.w) X.A (getItem ov iv) (EP X pins σ Q) X.xe s
theorem ZcB {o i e:Expr} {to ti te:TE} {tget:V->V->Hp->VK->Prop} {tip:lA} {tset:nE} {op:Operator} {tpos:Pos} (ho:PE X o to) (hi:PE X i ti) (hg:ZiJ X tget) (he:PE X e te) (hp:nG X op tip) (hs:vS X tset)
  (ha:∀ ov iv new,augStore i ov iv new=(do holding [new,ov,iv] (setItem ov iv new); release [new,ov,iv] []; pure .next):=by intros; rfl):PS X (.AugAssign (.Subscript o i tpos) op e pos) (ZaD to ti te tget tip tset):=by
 intro pins s σ H D I h
 refine wpAny_AugAssign_SubscriptAny (thn (ho pins s σ H _ I h) λov s1 hz0=>?_) ha
 obtain ⟨x1,H1,I1,r1,q1⟩:=hz0
 refine thn (hi pins s1 σ H1 _ I1 q1) λiv s2 hz0=>?_
 obtain ⟨x2,H2,I2,r2,q2⟩:=hz0
 refine thn (hg pins s2 σ H2 x1 x2 ov iv _ I2 r1 r2 q2) λold s3 hz0=>?_
 obtain ⟨x3,H3,I3,r3,q3⟩:=hz0
 refine thn (he pins s3 σ H3 _ I3 q3) λv s4 hz0=>?_
 obtain ⟨x4,H4,I4,r4,q4⟩:=hz0
 refine thn (hp pins s4 σ H4 x3 x4 old v _ I4 r3 r4 q4) λnew s5 hz0=>?_
 obtain ⟨x5,H5,I5,r5,q5⟩:=hz0
 exact thn (hs pins s5 σ H5 x1 x2 x5 ov iv new _ I5 r1 r2 r5 q5) λ_ s6 hz0=>by
  obtain ⟨H6,I6,q6⟩:=hz0
  exact ⟨σ,H6,I6,q6⟩
noncomputable def ug (f:Int->Int->Int):lA:=λx y H Q=>∃ i j,x=.int i/\y=.int j/\Q (.int (f i j)) H
theorem Znt:nG X .Add (ug λi j=>i+j):=by
 intro pins s σ H x y v u Q I r1 r2 h
 obtain ⟨i,j,e1,e2,q⟩:=h
 subst e1; subst e2
 obtain ⟨t,rfl⟩:=r1
 obtain ⟨t',rfl⟩:=r2
 exact iadd_int ⟨.int _,H,I.tok _,⟨_,rfl⟩,q⟩
theorem Zns:nG X .Sub (ug λi j=>i - j):=by
 intro pins s σ H x y v u Q I r1 r2 h
 obtain ⟨i,j,e1,e2,q⟩:=h
 subst e1; subst e2
 obtain ⟨t,rfl⟩:=r1
 obtain ⟨t',rfl⟩:=r2
 exact isub_int ⟨.int _,H,I.tok _,⟨_,rfl⟩,q⟩
end
section
variable {X:Cx} {pos:Pos}
def Zjq (c:TT) (tb:TS):TS:=λD σ H=>∃ W:Nat->St->Hp->Prop,(∃ m,W m σ H)/\∀ m σ H,W m σ H ->
 c σ H λb H1=>if b=true then ∃ N:St->Hp->Prop,(∀ σ' H',N σ' H'->∃ m',m' < m/\W m' σ' H')/\tb { D with nx:=N,ct:=N,bk:=D.nx } σ H1 else D.nx σ H1
theorem Zlj {c:Expr} {body:List Stmt} {tc:TT} {tb:TS} (hp:PassesOwn (model X.prog X.w) X.A X.env X.xe) (hc:PT X c tc) (hb:PSs X body tb):PS X (.While c body [] pos) (Zjq tc tb):=by
 intro pins s σ H D I h
 obtain ⟨W,⟨m0,w0⟩,turn⟩:=h
 refine wpAny_While (codeAny_whileLoop (λn s'=>∃ σ' H',Inv X pins σ' H' s'/\W n σ' H') ?_ m0 ⟨σ,H,I,w0⟩)
 rintro n s1 ⟨σ1,H1,I1,w1⟩
 refine wpAny_passesOwn hp (thn (hc pins s1 σ1 H1 _ I1 (turn n σ1 H1 w1)) λb s2 hz0=>?_)
 obtain ⟨H2,I2,q2⟩:=hz0
 cases b with
 | true =>
  obtain ⟨N,hN,q2⟩:=q2
  rw [if_pos rfl]
  refine wpAny_passesOwn hp (thn (hb pins s2 σ1 H2 _ I2 q2) λf s3 q3=>?_)
  cases f with
  | next =>
   obtain ⟨σ3,H3,I3,n3⟩:=q3
   obtain ⟨m',hm,w3⟩:=hN σ3 H3 n3
   exact ⟨m',hm,σ3,H3,I3,w3⟩
  | cont =>
   obtain ⟨σ3,H3,I3,n3⟩:=q3
   obtain ⟨m',hm,w3⟩:=hN σ3 H3 n3
   exact ⟨m',hm,σ3,H3,I3,w3⟩
  | brk=>exact q3
  | ret v=>exact q3
 | false =>
  rw [if_neg wj]
  exact wpAny_execs_nil ⟨σ1,H2,I2,q2⟩
end
structure It where
 go:Nat->Hp->Prop
 yld:Nat->Hp->V->Hp->Prop
 stop:Nat->Hp->Prop
noncomputable def gx (X:Cx) (pins:List (Addr×Obj)) (H:Hp) (b:Addr):Prop :=
 H b=none/\b≠X.env.locals/\b ∉ X.fs/\(b∈X.ex\/X.s₀.heap.objs.size<=b)/\(∀ x c,X.env.cells.lookup x=some c->c≠b)/\∀ p∈X.pn++pins,p.1≠b
theorem Inv.fpOk {X:Cx} {pins:List (Addr×Obj)} {σ:St} {H H':Hp} {s:Shared} {b:Addr} (I:Inv X pins σ H s) (hb:s.heap.objs.size<=b) (hn:H' b=none):gx X pins H' b:=by
 refine ⟨hn,wZ (wb I.lt hb),I.nofs hb,.inr (wv I.sz hb),λx c e z=>?_,λp hp z=>?_⟩
 ·obtain ⟨v,q⟩:=I.cell x c e
  exact absurd (wb q.lt (by rw [z]; exact hb)) (wF _)
 ·exact absurd (wb (wk (I.pin p hp).1) (by rw [z]; exact hb)) (wF _)
structure Turn (P:Program) (w:World) (K:zR) (tg:Expr) (J:It) (fp:List Addr) (it:Addr) (tn:Nat->Heap->Prop):Prop where
 mem:it∈fp
 obj:∀ i h,tn i h->∀ b∈fp,∃ o,h.get? b=some o/\∀ v,o.data≠.cell v
 keep:∀ i h h',tn i h->(∀ b∈fp,∀ o,h.get? b=some o->h'.get? b=some o)->tn i h'
 item:∀ (X:Cx),X.prog=P->X.w=w->X.K=K->X.calm=true->∀ (i:Nat) (pins:List (Addr×Obj)) (s:Shared) (σ:St) (H:Hp) (E:z0),Inv X pins σ H s->(∀ b∈fp,gx X pins H b)->tn i s.heap->J.go i H ->
  wpAny (model P w) X.A (pyNext (.ref it)) (λr s1=>∃ u,r=some u /\
   wpAny (model P w) X.A (letOwnedTupleGo tg (.ref it) u) (λ_ s2=>∃ x H',Inv X pins σ H' s2/\RelV x u/\J.yld i H x H'/\tn (i+1) s2.heap/\∀ b∈fp,H' b=none) E s1) E s
 done:∀ (X:Cx),X.prog=P->X.w=w->X.K=K->X.calm=true->∀ (i:Nat) (pins:List (Addr×Obj)) (s:Shared) (σ:St) (H:Hp) (E:z0),Inv X pins σ H s->(∀ b∈fp,gx X pins H b)->tn i s.heap->J.stop i H ->
  wpAny (model P w) X.A (pyNext (.ref it)) (λr s1=>r=none/\Inv X pins σ H s1) E s
 self:∀ (A:Around) (i:Nat) (s:Shared) (Q:z0) (E:z0),tn i s.heap->Q (.ref it) s->wpAny (model P w) A (pyIter (.ref it)) Q E s
noncomputable abbrev TI:=St->Hp->(It->Hp->Prop)->Prop
noncomputable def qQ (X:Cx) (pins:List (Addr×Obj)) (σ:St) (tg:Expr) (R:It->Hp->Prop) (itv:Value) (s2:Shared):Prop :=
 ∃ (it:Addr) (fp:List Addr) (tn:Nat->Heap->Prop) (J:It) (H':Hp),itv=.ref it/\Inv X pins σ H' s2/\Turn X.prog X.w X.K tg J fp it tn/\tn 0 s2.heap/\(∀ b∈fp,gx X pins H' b)/\R J H'
noncomputable def PI (X:Cx) (tg iter:Expr) (wi:TI):Prop :=
 ∀ (pins:List (Addr×Obj)) (s:Shared) (σ:St) (H:Hp) (R:It->Hp->Prop),Inv X pins σ H s->wi σ H R ->
  wpAny (model X.prog X.w) X.A (eval iter X.env) (λv s1=>wpAny (model X.prog X.w) X.A (pyIter v) (qQ X pins σ tg R) X.xe s1) X.xe s
theorem mW {M:Model} {A:Around} {E:z0} {s:Shared} {tg:Expr} {it:Addr} {u:Value} {o:Obj} {n:String} {vs:Array Value} {Q:Unit->Shared->Prop} (ho:s.heap.get? it=some o) (hc:o.cls=.type n) (hd:o.data=.fields vs)
  (hn:["enumerate","zip","dict_itemiterator","dict_reverseitemiterator","odict_iterator","itertools.zip_longest","itertools.pairwise"].contains n=false) (hQ:Q () s):wpAny M A (letOwnedTupleGo tg (.ref it) u) Q E s:=by
 unfold letOwnedTupleGo
 cases tg <;> first
  | exact wpAny_pure hQ
  | (cases u <;> first
    | exact wpAny_pure hQ
    | (refine wpAny_bind (wpAny_load ho ?_)
       rw [hc,hd]
       show wpAny M A (if (["enumerate","zip","dict_itemiterator","dict_reverseitemiterator","odict_iterator","itertools.zip_longest","itertools.pairwise"].contains n && vs[0]? == some (rawInt _))=true then _ else _) Q E s
       rw [if_neg (by intro h; rw [hn,xg] at h; cases h)]
       exact wpAny_pure hQ))
noncomputable def vV (K:zR) (a:Addr):It :=
 ⟨λi H=>∃ xs x,SqL K H a xs/\xs[i]?=some x,λi H x H'=>H'=H/\∀ xs,SqL K H a xs->xs[i]?=some x,λi H=>∃ xs,SqL K H a xs/\xs.length<=i⟩
noncomputable def vU (K:zR) (a:Addr):It :=
 ⟨λi H=>∃ xs x,SqT K H a xs/\xs[i]?=some x,λi H x H'=>H'=H/\∀ xs,SqT K H a xs->xs[i]?=some x,λi H=>∃ xs,SqT K H a xs/\xs.length<=i⟩
noncomputable def ke (lo:Int) (n:Nat):It:=⟨λi _=>i < n,λi H x H'=>H'=H/\x=.int (lo+i),λi _=>n<=i⟩
theorem Zje {P:Program} {w:World} {K:zR} {tg:Expr} (a it:Addr):Turn P w K tg (vV K a) [it] it (λi h=>h.IsListIter it a i) where
 mem:=by simp
 obj:=λi h st b hb=>by
  have e:b=it:=by simpa using hb
  subst e
  obtain ⟨o,e,c,d⟩:=st
  exact ⟨o,e,λv z=>by rw [d] at z; cases z⟩
 keep:=λi h h' st k=>st.at λo e=>k it (by simp) o e
 item:=by
  intro X hP hw hK hc i pins s σ H E I hf st hg
  subst hP hw hK
  obtain ⟨xs,x,hq,hx⟩:=hg
  obtain ⟨its,rv,p,hz⟩:=I.list hq
  obtain ⟨u,hu,ru⟩:=rv.get hx
  obtain ⟨f0,f1,f2,f3,f4,f5⟩:=hf it (by simp)
  refine wpAny_pyNext_list_item st p.isList (x:=u) (by simpa using hu) λh' st' sb=>?_
  have I1:Inv X pins σ H { s with heap:=h' }:=I.turned (t':=s.toks) (λb o hb e=>(sb.2 b hb).trans e) f0 f1 f3 f4 f5
  obtain ⟨o,e,c,d⟩:=id st'
  exact ⟨u,rfl,mW (s:={ s with heap:=h' }) e c d (by decide) ⟨x,H,I1,ru,⟨rfl,λys hy=>by rw [I.list_inj hy hq]; exact hx⟩,st',λb hb=>(hf b hb).1⟩⟩
 done:=by
  intro X hP hw hK hc i pins s σ H E I hf st hg
  subst hP hw hK
  obtain ⟨xs,hq,hx⟩:=hg
  obtain ⟨its,rv,p,hz⟩:=I.list hq
  obtain ⟨f0,f1,f2,f3,f4,f5⟩:=hf it (by simp)
  have hl:=rv.length
  exact wpAny_pyNext_list_end (I.ok.hd hc) st p.isList (by simp; omega) λh' eb=>⟨rfl,I.turned (t':=s.toks) (λb o hb e=>eb b o hb e) f0 f1 f3 f4 f5⟩
 self:=λ_ _ _ _ _ st h=>wpAny_pyIter_listiter st h
theorem Zjb {P:Program} {w:World} {K:zR} {tg:Expr} (a it:Addr):Turn P w K tg (vU K a) [it] it (λi h=>h.IsTupleIter it a i) where
 mem:=by simp
 obj:=λi h st b hb=>by
  have e:b=it:=by simpa using hb
  subst e
  obtain ⟨o,e,c,d⟩:=st
  exact ⟨o,e,λv z=>by rw [d] at z; cases z⟩
 keep:=λi h h' st k=>st.at λo e=>k it (by simp) o e
 item:=by
  intro X hP hw hK hc i pins s σ H E I hf st hg
  subst hP hw hK
  obtain ⟨xs,x,hq,hx⟩:=hg
  obtain ⟨its,rv,p,hz⟩:=I.tuple hq
  obtain ⟨u,hu,ru⟩:=rv.get hx
  obtain ⟨f0,f1,f2,f3,f4,f5⟩:=hf it (by simp)
  refine wpAny_pyNext_tuple_item st (show s.heap.IsTuple a its.toArray from p) (x:=u) (by simpa using hu) λh' st' sb=>?_
  have I1:Inv X pins σ H { s with heap:=h' }:=I.turned (t':=s.toks) (λb o hb e=>(sb.2 b hb).trans e) f0 f1 f3 f4 f5
  obtain ⟨o,e,c,d⟩:=id st'
  exact ⟨u,rfl,mW (s:={ s with heap:=h' }) e c d (by decide) ⟨x,H,I1,ru,⟨rfl,λys hy=>by rw [I.tuple_inj hy hq]; exact hx⟩,st',λb hb=>(hf b hb).1⟩⟩
 done:=by
  intro X hP hw hK hc i pins s σ H E I hf st hg
  subst hP hw hK
  obtain ⟨xs,hq,hx⟩:=hg
  obtain ⟨its,rv,p,hz⟩:=I.tuple hq
  obtain ⟨f0,f1,f2,f3,f4,f5⟩:=hf it (by simp)
  have hl:=rv.length
  exact wpAny_pyNext_tuple_end (I.ok.hd hc) st (show s.heap.IsTuple a its.toArray from p) (by simp; omega) λh' eb=>⟨rfl,I.turned (t':=s.toks) (λb o hb e=>eb b o hb e) f0 f1 f3 f4 f5⟩
 self:=λ_ _ _ _ _ st h=>wpAny_pyIter_tupleiter st h
theorem Zjd {P:Program} {w:World} {K:zR} {tg:Expr} (it:Addr) (lo:Int) (n:Nat):Turn P w K tg (ke lo n) [it] it (λi h=>IsRangeIter h it (lo+(i:Nat) * 1) ((n:Int) - (i:Nat)) 1) where
 mem:=by simp
 obj:=λi h st b hb=>by
  have e:b=it:=by simpa using hb
  subst e
  exact ⟨_,st,λv z=>by
   have z':Data.fields _=Data.cell v:=z
   cases z'⟩
 keep:=λi h h' st k=>k it (by simp) _ st
 item:=by
  intro X hP hw hK hc i pins s σ H E I hf st hg
  subst hP hw hK
  obtain ⟨f0,f1,f2,f3,f4,f5⟩:=hf it (by simp)
  have W:=Walks.range (prog:=X.prog) (w:=X.w) (I.ok.hd hc) it lo 1 n
  refine W.item i s _ _ hg st λv h' tk hv st' kk=>?_
  obtain ⟨t,rfl⟩:=hv
  have I1:Inv X pins σ H { s with heap:=h',toks:=tk }:=I.turned (λb o hb e=>kk b o (by simpa using hb) e) f0 f1 f3 f4 f5
  refine ⟨_,rfl,mW (s:={ s with heap:=h',toks:=tk }) (n:="range_iterator") st' rfl rfl (by decide) ⟨.int (lo+i),H,I1,⟨t,?_⟩,⟨rfl,rfl⟩,st',λb hb=>(hf b hb).1⟩⟩
  rw [yL]
 done:=by
  intro X hP hw hK hc i pins s σ H E I hf st hg
  subst hP hw hK
  obtain ⟨f0,f1,f2,f3,f4,f5⟩:=hf it (by simp)
  exact wpAny_pyNext_range_end (I.ok.hd hc) st (by have:n<=i:=hg; omega) λh' eb=>⟨rfl,I.turned (t':=s.toks) (λb o hb e=>eb b o hb e) f0 f1 f3 f4 f5⟩
 self:=λ_ _ _ _ _ st h=>wpAny_pyIter_rangeiter st h
section
variable {X:Cx} {tg:Expr}
theorem Zcd {pins:List (Addr×Obj)} {σ:St} {H:Hp} {s:Shared} {R:It->Hp->Prop} {E:z0} {lo hi:Int} {t u v:Tok} {tk:Nat} (I:Inv X pins σ H s) (h1:-(2 ^ 62)<=lo) (h2:lo < 2 ^ 62) (h3:-(2 ^ 62)<=hi) (h4:hi < 2 ^ 62)
  (q:R (ke lo (hi - lo).toNat) H):wpAny (model X.prog X.w) X.A (pyIter (.ref s.heap.objs.size)) (qQ X pins σ tg R) E { s with heap:=s.heap.push { cls:=.type "range",data:=.fields #[.int lo t,.int hi u,.int 1 v] },toks:=tk }:=by
 refine wpAny_pyIter_range (IsRange.new ..) (small_one h1 h2 h3 h4) ?_
 have I1:Inv X pins σ H { s with heap:=s.heap.push { cls:=.type "range",data:=.fields #[.int lo t,.int hi u,.int 1 v] },toks:=tk }:=I.kept λb o e=>vY _ e
 refine ⟨(s.heap.push { cls:=.type "range",data:=.fields #[.int lo t,.int hi u,.int 1 v] }).objs.size,[(s.heap.push { cls:=.type "range",data:=.fields #[.int lo t,.int hi u,.int 1 v] }).objs.size],_,_,H,rfl,
  I1.kept (t':=tk) λb o e=>vY _ e,Zjd _ lo (hi - lo).toNat,?_,λb hb=>?_,q⟩
 ·have e1:lo+((0:Nat):Int) * 1=lo:=by simp
  have e2:(((hi - lo).toNat:Nat):Int) - ((0:Nat):Int)=Builtin.Range.rangeSize lo hi 1:=by rw [rangeSize_one]; split <;> omega
  show IsRangeIter _ _ (lo+((0:Nat):Int) * 1) ((((hi - lo).toNat:Nat):Int) - ((0:Nat):Int)) 1
  rw [e1,e2]
  exact v7 _ rfl
 ·have e:b=(s.heap.push { cls:=.type "range",data:=.fields #[.int lo t,.int hi u,.int 1 v] }).objs.size:=by simpa using hb
  subst e
  exact I1.fpOk (v4 _) (I1.hok.fresh (v4 _))
def Zd2 (ta:TA):TI:=λσ H R=>ta σ H λvs H1=>∃ j:Int,vs=[.int j]/\-(2 ^ 62)<=j/\j < 2 ^ 62/\R (ke 0 j.toNat) H1
def Zd1 (ta:TA):TI:=λσ H R=>ta σ H λvs H1=>∃ i j:Int,vs=[.int i,.int j]/\(-(2 ^ 62)<=i/\i < 2 ^ 62/\-(2 ^ 62)<=j/\j < 2 ^ 62)/\R (ke i (j - i).toNat) H1
theorem iV {a:Expr} {ta:TA} {p pos:Pos} (hg:Gl X "range") (hm:X.mg "range"=none) (ha:PA X [a] ta) (hs:starEach [a] X.env=[(false,eval a X.env)]:=by rfl):PI X tg (.Call (.Name "range" p) [a] [] pos) (Zd2 ta):=by
 intro pins s σ H R I h
 refine Call_ (jb I hg hm boot_range (xh (thn (ha pos pins s σ H _ I h) λus s1 hz0=>?_) hs rfl))
 obtain ⟨vs,H1,I1,r1,q1⟩:=hz0
 obtain ⟨j,e,q1,q2,q⟩:=q1
 subst e
 cases r1 with
 | cons r rr =>
  cases rr
  obtain ⟨t,rfl⟩:=r
  exact call_range_1 (Zcd I1 (by omega) (by omega) q1 q2 (by simpa using q))
theorem ZcI {a b:Expr} {ta:TA} {p pos:Pos} (hg:Gl X "range") (hm:X.mg "range"=none) (ha:PA X [a,b] ta) (hs:starEach [a,b] X.env=[(false,eval a X.env),(false,eval b X.env)]:=by rfl) (hs2:starEach [b] X.env=[(false,eval b X.env)]:=by rfl) :
  PI X tg (.Call (.Name "range" p) [a,b] [] pos) (Zd1 ta):=by
 intro pins s σ H R I h
 refine Call_ (jb I hg hm boot_range (xh (thn (ha pos pins s σ H _ I h) λus s1 hz0=>?_) (by rw [hs,hs2]) (by rw [hs2]; rfl)))
 obtain ⟨vs,H1,I1,r1,q1⟩:=hz0
 obtain ⟨i,j,e,⟨q1,q2,q3,q4⟩,q⟩:=q1
 subst e
 cases r1 with
 | cons r rr =>
  cases rr with
  | cons r' rr =>
   cases rr
   obtain ⟨t,rfl⟩:=r
   obtain ⟨t',rfl⟩:=r'
   exact call_range_2 (Zcd I1 q1 q2 q3 q4 q)
def ZjI (wi:TI) (g:TG) (tb:TS):TS:=λD σ H=>wi σ H λJ H1=>∃ W:Nat->Nat->St->Hp->Prop,(∃ m,W 0 m σ H1)/\∀ i m σ H,W i m σ H ->
 (J.stop i H/\D.nx σ H)\/(J.go i H/\∃ N:St->Hp->Prop,(∀ σ' H',N σ' H'->∃ m',m' < m/\W (i+1) m' σ' H')/\∀ x H',J.yld i H x H'->g x σ H' λσ2 H2=>tb { D with nx:=N,ct:=N,bk:=D.nx } σ2 H2)
noncomputable def oD (fp:List Addr) (h:Heap):List (Addr×Obj):=fp.filterMap λb=>(h.get? b).map λo=>(b,o)
theorem i6 {fp:List Addr} {h:Heap} {b:Addr} {o:Obj} (hb:b∈fp) (e:h.get? b=some o):(b,o)∈oD fp h:=List.mem_filterMap.mpr ⟨b,hb,by rw [e]; rfl⟩
theorem Zmd {fp:List Addr} {h:Heap} {p:Addr×Obj} (hp:p∈oD fp h):p.1∈fp/\h.get? p.1=some p.2:=by
 obtain ⟨b,hb,e⟩:=List.mem_filterMap.mp hp
 cases q:h.get? b with
 | none=>rw [q] at e; cases e
 | some o =>
  rw [q] at e
  have e':(b,o)=p:=wG e
  subst e'
  exact ⟨hb,q⟩
theorem Inv.pinned {pins:List (Addr×Obj)} {σ:St} {H:Hp} {s:Shared} {fp:List Addr} (I:Inv X pins σ H s) (hf:∀ b∈fp,gx X pins H b) (ho:∀ b∈fp,∃ o,s.heap.get? b=some o/\∀ v,o.data≠.cell v):Inv X (pins++oD fp s.heap) σ H s :=
 I.pins_of λp hp=>(wU.mp hp).elim (λz=>I.pin p (wf _ z)) λz=>by
  obtain ⟨hb,e⟩:=Zmd z
  obtain ⟨f0,f1,f2,_⟩:=hf p.1 hb
  obtain ⟨o,e',d⟩:=ho p.1 hb
  rw [e] at e'; cases e'
  exact ⟨e,f0,f1,f2,d⟩
theorem Inv.unpinned {pins pl:List (Addr×Obj)} {σ:St} {H:Hp} {s:Shared} (I:Inv X (pins++pl) σ H s):Inv X pins σ H s:=I.pins_of λp hp=>I.pin p (wf _ (xX _ hp))
theorem Zll {iter:Expr} {body:List Stmt} {wi:TI} {g:TG} {tb:TS} {pos:Pos} (hp:PassesOwn (model X.prog X.w) X.A X.env X.xe) (hc:X.calm=true) (hi:PI X tg iter wi) (hg:PG X tg g) (hb:PSs X body tb)
  (hs:∀ x,foldedSetIterable iter X.env x=pure x:=by intro _; rfl):PS X (.For tg iter body [] pos) (ZjI wi g tb):=by
 intro pins s σ H D I h
 refine wpAny_For (thn (hi pins s σ H _ I h) λv s1 h1=>thn h1 λitv s2 h2=>?_) hs
 obtain ⟨it,fp,tn,J,H2,e,I2,T,st2,f2,W,⟨m0,w0⟩,turn⟩:=h2
 subst e
 -- what stays true of the iterator's objects through the loop
 have stat:∀ {H':Hp},(∀ b∈fp,H' b=none)->∀ b∈fp,gx X pins H' b:=λhn b hb=>⟨hn b hb,(f2 b hb).2⟩
 refine codeAny_forLoop_any (λn s'=>∃ i σ' H',Inv X pins σ' H' s'/\tn i s'.heap/\(∀ b∈fp,H' b=none)/\W i n σ' H') ?_ m0 ⟨0,σ,H2,I2,st2,λb hb=>(f2 b hb).1,w0⟩
 rintro n s3 ⟨i,σ3,H3,I3,st3,fr3,w3⟩
 rcases turn i n σ3 H3 w3 with ⟨stop,qn⟩ | ⟨go,N,hN,step⟩
 ·refine wpAny_passesOwn hp (thn (T.done X rfl rfl rfl hc i pins s3 σ3 H3 X.xe I3 (stat fr3) st3 stop) λr s4 hz0=>?_)
  obtain ⟨hr,I4⟩:=hz0
  subst hr
  exact wpAny_execs_nil ⟨σ3,H3,I4,qn⟩
 ·refine wpAny_passesOwn hp (thn (T.item X rfl rfl rfl hc i pins s3 σ3 H3 X.xe I3 (stat fr3) st3 go) λr s4 hz0=>?_)
  obtain ⟨u,hr,h4⟩:=hz0
  subst hr
  refine wpAny_passesOwn hp (thn h4 λ_ s5 hz0=>?_)
  obtain ⟨x,H5,I5,r5,y5,st5,fr5⟩:=hz0
  have I5':=I5.pinned (stat fr5) (T.obj _ _ st5)
  refine wpAny_passesOwn hp (thn (hg _ s5 σ3 H5 x u _ I5' r5 (step x H5 y5)) λ_ s6 hz0=>?_)
  obtain ⟨σ6,H6,I6,q6⟩:=hz0
  refine wpAny_passesOwn hp (thn (hb _ s6 σ6 H6 _ I6 q6) λf s7 q7=>?_)
  have again:∀ {σ7:St} {H7:Hp},Inv X (pins++oD fp s5.heap) σ7 H7 s7->N σ7 H7->∃ m,m < n/\∃ i σ' H',Inv X pins σ' H' s7/\tn i s7.heap/\(∀ b∈fp,H' b=none)/\W i m σ' H':=λ{σ7 H7} I7 n7=>by
   obtain ⟨m',hm,w7⟩:=hN σ7 H7 n7
   refine ⟨m',hm,i+1,σ7,H7,I7.unpinned,T.keep _ _ _ st5 λb hb o e=>(I7.pin (b,o) (wf _ (wf _ (i6 hb e)))).1,λb hb=>?_,w7⟩
   obtain ⟨o,e,d⟩:=T.obj _ _ st5 b hb
   exact (I7.pin (b,o) (wf _ (wf _ (i6 hb e)))).2.1
  cases f with
  | next=>obtain ⟨σ7,H7,I7,n7⟩:=q7; exact again I7 n7
  | cont=>obtain ⟨σ7,H7,I7,n7⟩:=q7; exact again I7 n7
  | brk=>obtain ⟨σ7,H7,I7,q7⟩:=q7; exact ⟨σ7,H7,I7.unpinned,q7⟩
  | ret v=>obtain ⟨x7,σ7,H7,I7,r7,q7⟩:=q7; exact ⟨x7,σ7,H7,I7.unpinned,r7,q7⟩
end
noncomputable abbrev R2:=V->V->Hp->VK->Prop
noncomputable def OpR (X:Cx) (f:Value->Value->Sem Value) (r:R2):Prop :=
 ∀ (pins:List (Addr×Obj)) (s:Shared) (σ:St) (H:Hp) (x y:V) (v u:Value) (Q:VK),Inv X pins σ H s->RelV x v->RelV y u->r x y H Q ->
  wpAny (model X.prog X.w) X.A (f v u) (EP X pins σ Q) X.xe s
noncomputable def vO (X:Cx) (f:Value->Sem Value) (r:V->Hp->VK->Prop):Prop :=
 ∀ (pins:List (Addr×Obj)) (s:Shared) (σ:St) (H:Hp) (x:V) (v:Value) (Q:VK),Inv X pins σ H s->RelV x v->r x H Q ->
  wpAny (model X.prog X.w) X.A (f v) (EP X pins σ Q) X.xe s
noncomputable def dM (X:Cx) (f:Value) (r:List V->Hp->VK->Prop):Prop :=
 ∀ (pins:List (Addr×Obj)) (s:Shared) (σ:St) (H:Hp) (xs:Ad) (us:Ab) (Q:VK),Inv X pins σ H s->Vals xs us->r xs H Q ->
  wpAny (model X.prog X.w) X.A (call f us) (EP X pins σ Q) X.xe s
noncomputable def ZqO (X:Cx) (r:V->Hp->(Bool->Hp->Prop)->Prop):Prop :=
 ∀ (pins:List (Addr×Obj)) (s:Shared) (σ:St) (H:Hp) (x:V) (v:Value) (Q:Bool->Hp->Prop),Inv X pins σ H s->RelV x v->r x H Q ->
  wpAny (model X.prog X.w) X.A (truthy v) (TP X pins σ Q) X.xe s
def jz (r:R2) (ta tb:TE):TE:=λσ H Q=>ta σ H λx H1=>tb σ H1 λy H2=>r x y H2 Q
def tUn (r:V->Hp->VK->Prop) (ta:TE):TE:=λσ H Q=>ta σ H λx H1=>r x H1 Q
noncomputable def rI (C:Int->Int->Prop) (g:Int->Int->V):R2:=λx y H Q=>∃ i j,x=.int i/\y=.int j/\C i j/\Q (g i j) H
noncomputable def fo (g:Int->Int->V):R2:=λx y H Q=>∃ i j,x=.int i/\y=.int j/\Q (g i j) H
noncomputable def rU (g:Int->V):V->Hp->VK->Prop:=λx H Q=>∃ i,x=.int i/\Q (g i) H
section
variable {X:Cx} {a b c:Expr} {ta tb tc:TE} {pos:Pos}
theorem u7 (ha:PE X a ta) (hb:PE X b tb) {pins:List (Addr×Obj)} {s:Shared} {σ:St} {H:Hp} {R:V->V->Hp->Prop} (I:Inv X pins σ H s)
  (h:ta σ H λx H1=>tb σ H1 λy H2=>R x y H2) {Q:z0} {f:Value->Value->Sem Value}
  (hf:∀ v u s2 x y H2,Inv X pins σ H2 s2->RelV x v->RelV y u->R x y H2->wpAny (model X.prog X.w) X.A (f v u) Q X.xe s2) :
  wpAny (model X.prog X.w) X.A (eval a X.env) (λv s₁=>wpAny (model X.prog X.w) X.A (eval b X.env) (λu s₂=>wpAny (model X.prog X.w) X.A (f v u) Q X.xe s₂) X.xe s₁) X.xe s:=by
 refine thn (ha pins s σ H _ I h) λv s1 hz0=>?_
 obtain ⟨x,H1,I1,r1,q1⟩:=hz0
 refine thn (hb pins s1 σ H1 _ I1 q1) λu s2 hz0=>?_
 obtain ⟨y,H2,I2,r2,q2⟩:=hz0
 exact hf v u s2 x y H2 I2 r1 r2 q2
theorem cE {op:Operator} {r:R2} (ho:OpR X (binaryOp op) r) (ha:PE X a ta) (hb:PE X b tb):PE X (.BinOp a op b pos) (jz r ta tb):=by
 intro pins s σ H Q I h
 exact wpAny_BinOp (u7 ha hb I h λv u s2 x y H2 I2 rx ry q=>ho pins s2 σ H2 x y v u Q I2 rx ry q)
theorem ZlC {op:UnaryOp} {r:V->Hp->VK->Prop} (ho:vO X (unaryOp op) r) (ha:PE X a ta):PE X (.UnaryOp op a pos) (tUn r ta):=by
 intro pins s σ H Q I h
 exact UnaryOp_ (thn (ha pins s σ H _ I h) λv s1 ⟨x,H1,I1,r1,q1⟩=>ho pins s1 σ H1 x v Q I1 r1 q1)
theorem iY {f:Value->Value->Sem Value} {C:Int->Int->Prop} {g:Int->Int->Int}
  (rule:∀ (i j:Int) (t u:Tok) (s:Shared) (Q:z0) (E:z0),C i j->Q (.int (g i j) s.toks) { s with toks:=s.toks+1 }->wpAny (model X.prog X.w) X.A (f (.int i t) (.int j u)) Q E s) :
  OpR X f (rI C λi j=>.int (g i j)):=by
 intro pins s σ H x y v u Q I rx ry h
 obtain ⟨i,j,rfl,rfl,hc,q⟩:=h
 obtain ⟨t,rfl⟩:=rx
 obtain ⟨t',rfl⟩:=ry
 exact rule i j t t' s _ _ hc ⟨.int (g i j),H,I.tok _,⟨_,rfl⟩,q⟩
theorem tG {f:Value->Value->Sem Value} {g:Int->Int->Int}
  (rule:∀ (i j:Int) (t u:Tok) (s:Shared) (Q:z0) (E:z0),Q (.int (g i j) s.toks) { s with toks:=s.toks+1 }->wpAny (model X.prog X.w) X.A (f (.int i t) (.int j u)) Q E s) :
  OpR X f (fo λi j=>.int (g i j)):=by
 intro pins s σ H x y v u Q I rx ry h
 obtain ⟨i,j,rfl,rfl,q⟩:=h
 obtain ⟨t,rfl⟩:=rx
 obtain ⟨t',rfl⟩:=ry
 exact rule i j t t' s _ _ ⟨.int (g i j),H,I.tok _,⟨_,rfl⟩,q⟩
theorem oO {f:Value->Value->Sem Value} {g:Int->Int->Bool}
  (rule:∀ (i j:Int) (t u:Tok) (s:Shared) (Q:z0) (E:z0),Q (.bool (g i j)) s->wpAny (model X.prog X.w) X.A (f (.int i t) (.int j u)) Q E s) :
  OpR X f (fo λi j=>.bl (g i j)):=by
 intro pins s σ H x y v u Q I rx ry h
 obtain ⟨i,j,rfl,rfl,q⟩:=h
 obtain ⟨t,rfl⟩:=rx
 obtain ⟨t',rfl⟩:=ry
 exact rule i j t t' s _ _ ⟨.bl (g i j),H,I,rfl,q⟩
def Zrx (i j:Int):Prop:=0 < j/\j < 1073741824
def ZiR (i j:Int):Prop:=0<=j/\j<=1000000/\i.natAbs < 2 ^ 64
def CMul (i j:Int):Prop:=(-(2 ^ 64) < i/\i < 2 ^ 64)\/(-(2 ^ 64) < j/\j < 2 ^ 64)
theorem CMul.ok {i j:Int} (h:CMul i j):IntMulOk i j:=by
 rcases h with ⟨h1,h2⟩ | ⟨h1,h2⟩
 ·exact .of_left (intBits_le_64 h1 h2)
 ·exact .of_right (intBits_le_64 h1 h2)
theorem iX:OpR X (binaryOp .Add) (fo λi j=>.int (i+j)):=tG λ_ _ _ _ _ _ _ q=>add_int q
theorem cu:OpR X (binaryOp .Sub) (fo λi j=>.int (i - j)):=tG λ_ _ _ _ _ _ _ q=>sub_int q
theorem oM:OpR X (binaryOp .Mult) (rI CMul λi j=>.int (i * j)):=iY λ_ _ _ _ _ _ _ hc q=>mul_int q hc.ok
theorem tF:OpR X (binaryOp .FloorDiv) (rI Zrx λi j=>.int (i / j)):=iY λi j _ _ _ _ _ hc q=>by
 have h1:(0:Int) < j:=hc.1
 have h2:j < 1073741824:=hc.2
 exact floordiv_int (by omega) (by rw [xw i (by omega)]; exact q) (.inl (PyProof.noPylong_small (by omega)))
theorem gD:OpR X (binaryOp .Mod) (rI (λ_ j=>0 < j) λi j=>.int (i % j)):=iY λi j _ _ _ _ _ hc q=>by
 have h1:(0:Int) < j:=hc
 exact mod_int' (by omega) (by rw [zx i (by omega)]; exact q)
theorem oN:OpR X (binaryOp .Mod) (rI (λ_ j=>j≠0) λi j=>.int (i.fmod j)):=iY λ_ _ _ _ _ _ _ hc q=>mod_int' hc q
theorem oK:OpR X (binaryOp .Pow) (rI ZiR λi j=>.int (i ^ j.toNat)):=iY λ_ _ _ _ _ _ _ hc q=>pow_int_small hc.1 hc.2.1 hc.2.2 q
theorem Znv:OpR X (inplaceOp .Add) (fo λi j=>.int (i+j)):=tG λ_ _ _ _ _ _ _ q=>iadd_int q
theorem unI {f:Value->Sem Value} {g:Int->Int}
  (rule:∀ (i:Int) (t:Tok) (s:Shared) (Q:z0) (E:z0),Q (.int (g i) s.toks) { s with toks:=s.toks+1 }->wpAny (model X.prog X.w) X.A (f (.int i t)) Q E s) :
  vO X f (rU λi=>.int (g i)):=by
 intro pins s σ H x v Q I rx h
 obtain ⟨i,rfl,q⟩:=h
 obtain ⟨t,rfl⟩:=rx
 exact rule i t s _ _ ⟨.int (g i),H,I.tok _,⟨_,rfl⟩,q⟩
theorem Zi8:vO X (unaryOp .USub) (rU λi=>.int (-i)):=unI λ_ _ _ _ _ q=>neg_int q
end
noncomputable def scal:V->V->Bool
 | .non,.non=>true | .non,.int _=>true | .int _,.non=>true | .non,.bl _=>true | .bl _,.non=>true | .non,.str _=>true | .str _,.non=>true
 | .int _,.int _=>true | .bl _,.bl _=>true | .str _,.str _=>true | .byt _,.byt _=>true
 | .int _,.str _=>true | .str _,.int _=>true | .bl _,.str _=>true | .str _,.bl _=>true
 | _,_=>false
noncomputable def rEq:R2:=λx y H Q=>scal x y=true/\Q (.bl (decide (x=y))) H
noncomputable def rNe:R2:=λx y H Q=>scal x y=true/\Q (.bl (!decide (x=y))) H
theorem ZhR {i j:Int}:decide (V.int i=V.int j)=(i == j):=by
 rw [yv]
 simp
theorem ZhT {i j:Bool}:decide (V.bl i=V.bl j)=(i == j):=by
 rw [yv]
 simp
theorem p7 {i j:Str}:decide (V.str i=V.str j)=(i == j):=by
 rw [yv]
 simp
theorem ZhS {i j:Array UInt8}:decide (V.byt i=V.byt j)=(i.toList == j.toList):=by
 rw [yv]
 cases i
 cases j
 simp
section
variable {X:Cx} {a b c:Expr} {ta tb tc:TE} {pos:Pos}
theorem cy {pins:List (Addr×Obj)} {σ:St} {H:Hp} {s:Shared} {Q:VK} {k k':Bool} (I:Inv X pins σ H s) (q:Q (.bl k) H) (e:k=k'):EP X pins σ Q (.bool k') s:=by
 subst e
 exact ⟨.bl k,H,I,rfl,q⟩
theorem Zl3:OpR X (compareOp .Eq) rEq:=by
 intro pins s σ H x y v u Q I rx ry h
 obtain ⟨hs,q⟩:=h
 cases x with
 | non =>
  cases rx
  cases y with
  | non=>cases ry; exact PySem.EqNone.eq_none_none (cy I q (by simp))
  | bl j=>cases ry; exact PySem.EqNone.eq_none_bool (cy I q (by simp))
  | int j=>obtain ⟨t',rfl⟩:=ry; exact PySem.EqNone.eq_none_int (cy I q (by simp))
  | str j=>obtain ⟨t',rfl⟩:=ry; exact PySem.EqNone.eq_none_str (cy I q (by simp))
  | _=>exact absurd (show false=true from hs) wj
 | bl i =>
  cases rx
  cases y with
  | non=>cases ry; exact PySem.EqNone.eq_bool_none (cy I q (by simp))
  | bl j=>cases ry; exact eq_bool (cy I q ZhT)
  | str j=>obtain ⟨t',rfl⟩:=ry; exact PySem.EqMixed.eq_bool_str (cy I q (by simp))
  | _=>exact absurd (show false=true from hs) wj
 | int i =>
  obtain ⟨t,rfl⟩:=rx
  cases y with
  | non=>cases ry; exact PySem.EqNone.eq_int_none (cy I q (by simp))
  | int j=>obtain ⟨t',rfl⟩:=ry; exact eq_int (cy I q ZhR)
  | str j=>obtain ⟨t',rfl⟩:=ry; exact PySem.EqMixed.eq_int_str (cy I q (by simp))
  | _=>exact absurd (show false=true from hs) wj
 | str i =>
  obtain ⟨t,rfl⟩:=rx
  cases y with
  | non=>cases ry; exact PySem.EqNone.eq_str_none (cy I q (by simp))
  | bl j=>cases ry; exact PySem.EqMixed.eq_str_bool (cy I q (by simp))
  | int j=>obtain ⟨t',rfl⟩:=ry; exact PySem.EqMixed.eq_str_int (cy I q (by simp))
  | str j=>obtain ⟨t',rfl⟩:=ry; exact eq_str (cy I q p7)
  | _=>exact absurd (show false=true from hs) wj
 | byt i =>
  obtain ⟨t,rfl⟩:=rx
  cases y with
  | byt j=>obtain ⟨t',rfl⟩:=ry; exact PySem.W.eq_bytes (cy I q ZhS)
  | _=>exact absurd (show false=true from hs) wj
 | _=>cases y <;> exact absurd (show false=true from hs) wj
theorem ZlY:OpR X (compareOp .NotEq) rNe:=by
 intro pins s σ H x y v u Q I rx ry h
 obtain ⟨hs,q⟩:=h
 cases x with
 | non =>
  cases rx
  cases y with
  | non=>cases ry; exact PySem.EqNone.ne_none_none (cy I q (by simp))
  | bl j=>cases ry; exact PySem.EqNone.ne_none_bool (cy I q (by simp))
  | int j=>obtain ⟨t',rfl⟩:=ry; exact PySem.EqNone.ne_none_int (cy I q (by simp))
  | str j=>obtain ⟨t',rfl⟩:=ry; exact PySem.EqNone.ne_none_str (cy I q (by simp))
  | _=>exact absurd (show false=true from hs) wj
 | bl i =>
  cases rx
  cases y with
  | non=>cases ry; exact PySem.EqNone.ne_bool_none (cy I q (by simp))
  | bl j=>cases ry; exact ne_bool (cy I q (congrArg not ZhT))
  | str j=>obtain ⟨t',rfl⟩:=ry; exact PySem.EqMixed.ne_bool_str (cy I q (by simp))
  | _=>exact absurd (show false=true from hs) wj
 | int i =>
  obtain ⟨t,rfl⟩:=rx
  cases y with
  | non=>cases ry; exact PySem.EqNone.ne_int_none (cy I q (by simp))
  | int j=>obtain ⟨t',rfl⟩:=ry; exact ne_int (cy I q (congrArg not ZhR))
  | str j=>obtain ⟨t',rfl⟩:=ry; exact PySem.EqMixed.ne_int_str (cy I q (by simp))
  | _=>exact absurd (show false=true from hs) wj
 | str i =>
  obtain ⟨t,rfl⟩:=rx
  cases y with
  | non=>cases ry; exact PySem.EqNone.ne_str_none (cy I q (by simp))
  | bl j=>cases ry; exact PySem.EqMixed.ne_str_bool (cy I q (by simp))
  | int j=>obtain ⟨t',rfl⟩:=ry; exact PySem.EqMixed.ne_str_int (cy I q (by simp))
  | str j=>obtain ⟨t',rfl⟩:=ry; exact ne_str (cy I q (congrArg not p7))
  | _=>exact absurd (show false=true from hs) wj
 | byt i =>
  obtain ⟨t,rfl⟩:=rx
  cases y with
  | byt j=>obtain ⟨t',rfl⟩:=ry; exact PySem.W.ne_bytes (cy I q (congrArg not ZhS))
  | _=>exact absurd (show false=true from hs) wj
 | _=>cases y <;> exact absurd (show false=true from hs) wj
theorem kJ:OpR X (compareOp .Lt) (fo λi j=>.bl (decide (i < j))):=oO λ_ _ _ _ _ _ _ q=>lt_int q
theorem mt:OpR X (compareOp .LtE) (fo λi j=>.bl (decide (i<=j))):=oO λ_ _ _ _ _ _ _ q=>le_int q
theorem ge:OpR X (compareOp .Gt) (fo λi j=>.bl (decide (j < i))):=oO λ_ _ _ _ _ _ _ q=>gt_int q
theorem Zl1:OpR X (compareOp .GtE) (fo λi j=>.bl (decide (j<=i))):=oO λ_ _ _ _ _ _ _ q=>ge_int q
theorem OpR.or {f:Value->Value->Sem Value} {r r':R2} (h:OpR X f r) (h':OpR X f r'):OpR X f (λx y H Q=>r x y H Q\/r' x y H Q):=by
 intro pins s σ H x y v u Q I rx ry q
 rcases q with q | q
 ·exact h pins s σ H x y v u Q I rx ry q
 ·exact h' pins s σ H x y v u Q I rx ry q
theorem nomark (b:Expr) {op:CmpOp} (h:op≠.In:=by decide) (h2:op≠.NotIn:=by decide):behindInMarks op b=false:=by
 have e1:(op == CmpOp.In)=false:=by cases op <;> first | rfl | exact absurd rfl h
 have e2:(op == CmpOp.NotIn)=false:=by cases op <;> first | rfl | exact absurd rfl h2
 cases b <;> first | rfl | (show (_ && (op == CmpOp.In || op == CmpOp.NotIn) && _)=false; rw [e1,e2,Bool.or_false,xN,xg])
theorem ZlN {op:CmpOp} {r:R2} (ho:OpR X (compareOp op) r) (ha:PE X a ta) (hb:PE X b tb) (hm:behindInMarks op b=false):PE X (.Compare a [op] [b] pos) (jz r ta tb):=by
 intro pins s σ H Q I h
 exact wpAny_Compare1 (u7 ha hb I h λv u s2 x y H2 I2 rx ry q=>ho pins s2 σ H2 x y v u Q I2 rx ry q) hm
def lL (t:TE):TT:=λσ H Q=>t σ H λx H'=>∃ k,x=.bl k/\Q k H'
theorem mi {op:CmpOp} {r:R2} (ho:OpR X (compareOp op) r) (ha:PE X a ta) (hb:PE X b tb) (hm:behindInMarks op b=false):PT X (.Compare a [op] [b] pos) (lL (jz r ta tb)):=by
 intro pins s σ H Q I h
 refine wpAny_isTrue_Compare1 (thn (ha pins s σ H _ I h) λv s1 ⟨x,H1,I1,r1,q1⟩=>thn (hb pins s1 σ H1 _ I1 q1) λu s2 ⟨y,H2,I2,r2,q2⟩ =>
  thn (ho pins s2 σ H2 x y v u _ I2 r1 r2 q2) λc s3 ⟨z,H3,I3,r3,k,e,q3⟩=>?_) hm
 subst e
 cases r3
 exact wpAny_truthy_bool ⟨H3,I3,q3⟩
def rG (r r':R2) (ta tb tc:TE):TE:=λσ H Q=>ta σ H λx H1=>tb σ H1 λy H2=>r x y H2 λz H3=>∃ k,z=.bl k /\
 (if k=true then tc σ H3 λw' H4=>r' y w' H4 Q else Q (.bl false) H3)
theorem ZlO {op op':CmpOp} {r r':R2} (ho:OpR X (compareOp op) r) (ho':OpR X (compareOp op') r') (ha:PE X a ta) (hb:PE X b tb) (hc:PE X c tc)
  (hm:lastMarks [op,op'] [b,c]=false:=by with_unfolding_all rfl):PE X (.Compare a [op,op'] [b,c] pos) (rG r r' ta tb tc):=by
 intro pins s σ H Q I h
 refine Compare_chain (thn (ha pins s σ H _ I h) λv s1 ⟨x,H1,I1,r1,q1⟩=>chain_link (thn (hb pins s1 σ H1 _ I1 q1) λu s2 ⟨y,H2,I2,r2,q2⟩ =>
  thn (ho pins s2 σ H2 x y v u _ I2 r1 r2 q2) λd s3 ⟨z,H3,I3,r3,k,e,q3⟩=>?_)) hm
 subst e
 cases r3
 refine wpAny_truthy_bool ?_
 cases k with
 | false=>exact ite_ff ⟨.bl false,H3,I3,rfl,q3⟩
 | true=>exact ite_tt (chain_last (thn (hc pins s3 σ H3 _ I3 q3) λw' s4 ⟨z',H4,I4,r4,q4⟩=>ho' pins s4 σ H4 y z' u w' Q I4 r2 r4 q4))
theorem Zlh {op op':CmpOp} {r r':R2} (ho:OpR X (compareOp op) r) (ho':OpR X (compareOp op') r') (ha:PE X a ta) (hb:PE X b tb) (hc:PE X c tc)
  (hm:lastMarks [op,op'] [b,c]=false:=by with_unfolding_all rfl):PT X (.Compare a [op,op'] [b,c] pos) (lL (rG r r' ta tb tc)):=by
 intro pins s σ H Q I h
 refine isTrue_chain (thn (ha pins s σ H _ I h) λv s1 ⟨x,H1,I1,r1,q1⟩=>test_link (thn (hb pins s1 σ H1 _ I1 q1) λu s2 ⟨y,H2,I2,r2,q2⟩ =>
  thn (ho pins s2 σ H2 x y v u _ I2 r1 r2 q2) λd s3 ⟨z,H3,I3,r3,k,e,q3⟩=>?_)) hm
 subst e
 cases r3
 refine wpAny_truthy_bool ?_
 cases k with
 | false =>
  obtain ⟨k',e',q'⟩:=q3
  cases e'
  exact ite_ff ⟨H3,I3,q'⟩
 | true =>
  refine ite_tt (test_last (thn (hc pins s3 σ H3 _ I3 q3) λw' s4 ⟨z',H4,I4,r4,q4⟩=>thn (ho' pins s4 σ H4 y z' u w' _ I4 r2 r4 q4) λd' s5 hz0=>?_))
  obtain ⟨z2,H5,I5,r5,k2,e2,q5⟩:=hz0
  subst e2
  cases r5
  exact wpAny_truthy_bool ⟨H5,I5,q5⟩
noncomputable def ZiI (K:zR) (x:V) (H:Hp) (k:Bool):Prop :=
 match x with
 | .non=>k=false
 | .bl b=>k=b
 | .int i=>k=(i != 0)
 | .str y=>y.length<=sizeLine/\k=((y.length:Int) != 0)
 | .byt y=>y.size<=sizeLine/\k=((y.size:Int) != 0)
 | .ref p=>(∃ xs,SqL K H p xs/\k=!xs.isEmpty)\/(∃ xs,SqT K H p xs/\k=!xs.isEmpty)\/∃ kvs,H p=some (.dK kvs)/\k=!kvs.isEmpty
 | _=>False
theorem Znr {κ:Type} {kvs:List (κ×V)} {vs:List (κ×Value)} (r:KV kvs vs):(!vs.isEmpty)=!kvs.isEmpty:=by
 cases r <;> rfl
theorem ZdV {xs:Ad} {its:Ab} (r:Vals xs its):(!its.toArray.isEmpty)=!xs.isEmpty:=by
 cases r <;> simp
theorem i8:(sizeLine:Nat) < 2 ^ 63:=by rw [sizeLine_eq]; decide
theorem Zji:ZqO X (λx H Q=>∃ k,ZiI X.K x H k/\Q k H):=by
 intro pins s σ H x v Q I rx h
 obtain ⟨k,e,q⟩:=h
 have hl:=i8
 have hs:sizeLine=16777216:=sizeLine_eq
 cases x with
 | non =>
  cases rx
  have e':k=false:=e
  subst e'
  exact truthy_none ⟨H,I,q⟩
 | bl b =>
  cases rx
  have e':k=b:=e
  subst e'
  exact wpAny_truthy_bool ⟨H,I,q⟩
 | int i =>
  obtain ⟨t,rfl⟩:=rx
  have e':k=(i != 0):=e
  subst e'
  exact PySem.P.truthy_int ⟨H,I,q⟩
 | str y =>
  obtain ⟨t,rfl⟩:=rx
  obtain ⟨hy,e'⟩:y.length<=sizeLine/\k=((y.length:Int) != 0):=e
  subst e'
  exact PySem.P.truthy_str (by omega) ⟨H,I.tok _,q⟩
 | byt y =>
  obtain ⟨t,rfl⟩:=rx
  obtain ⟨hy,e'⟩:y.size<=sizeLine/\k=((y.size:Int) != 0):=e
  subst e'
  exact PySem.W.truthy_bytes (by omega) ⟨H,I.tok _,q⟩
 | ref p =>
  cases rx
  have e':(∃ xs,SqL X.K H p xs/\k=!xs.isEmpty)\/(∃ xs,SqT X.K H p xs/\k=!xs.isEmpty)\/∃ kvs,H p=some (.dK kvs)/\k=!kvs.isEmpty:=e
  rcases e' with ⟨xs,hx,e'⟩ | ⟨xs,hx,e'⟩ | ⟨kvs,hx,e'⟩
  ·subst e'
   obtain ⟨its,r,pl,hz⟩:=I.list hx
   have hlen:=r.length
   exact wpAny_truthy_list pl.isList (by simp only [wa]; omega) ⟨H,I.tok _,by rw [ZdV r]; exact q⟩
  ·subst e'
   obtain ⟨its,r,pl,hz⟩:=I.tuple hx
   have hlen:=r.length
   exact truthy_tuple pl (by simp only [wa]; omega) ⟨H,I.tok _,by rw [ZdV r]; exact q⟩
  ·subst e'
   obtain ⟨hz,hS,vs,r,m⟩:kvs.length<=sizeLine/\(p == sysModules)=false/\∃ vs,KV kvs vs/\s.heap.DictOf (dH X.prog X.w) p vs:=I.hok p _ hx
   have hlen:kvs.length=vs.length:=zp r
   exact wpAny_truthy_dict hS m (by omega) ⟨H,I.tok _,by rw [Znr r]; exact q⟩
 | _=>exact (show False from e).elim
theorem Zlf (ha:PE X a ta) (he:∀ whole,isTrue a X.env whole=(do let v <- whole; standAt a.pos; holding [v] (truthy v))) :
  PT X a (λσ H Q=>ta σ H λx H'=>∃ k,ZiI X.K x H' k/\Q k H'):=by
 intro pins s σ H Q I h
 exact isTrue_plain (thn (ha pins s σ H _ I h) λv s1 ⟨x,H1,I1,r1,q1⟩=>Zji pins s1 σ H1 x v Q I1 r1 q1) (he _)
theorem eB {x:V} {us:Ab} (r:Vals [x] us):∃ u,us=[u]/\RelV x u:=by
 cases r with
 | cons r1 r2=>cases r2; exact ⟨_,rfl,r1⟩
theorem nX {x y:V} {us:Ab} (r:Vals [x,y] us):∃ u w',us=[u,w']/\RelV x u/\RelV y w':=by
 cases r with
 | cons r1 r2 =>
  cases r2 with
  | cons r3 r4=>cases r4; exact ⟨_,_,rfl,r1,r3⟩
theorem qe:dM X (.builtin "abs") (λxs H Q=>∃ i,xs=[.int i]/\Q (.int (if i < 0 then -i else i)) H):=by
 intro pins s σ H xs us Q I r h
 obtain ⟨i,rfl,q⟩:=h
 obtain ⟨u,rfl,t,rfl⟩:=eB r
 exact call_abs_int λu tk=>⟨.int (if i < 0 then -i else i),H,I.tok _,⟨_,rfl⟩,q⟩
theorem qc (hc:X.calm=true):dM X (.builtin "max") (λxs H Q=>∃ i j,xs=[.int i,.int j]/\Q (.int (if j > i then j else i)) H):=by
 intro pins s σ H xs us Q I r h
 obtain ⟨i,j,rfl,q⟩:=h
 obtain ⟨u,w',rfl,⟨t,rfl⟩,⟨t',rfl⟩⟩:=nX r
 refine max_two_ints (I.ok.hd hc) λh' tk k=>⟨_,H,I.kept k,?_,q⟩
 by_cases hj:j > i
 ·rw [if_pos hj,if_pos hj]; exact ⟨_,rfl⟩
 ·rw [if_neg hj,if_neg hj]; exact ⟨_,rfl⟩
theorem uU:dM X (.type "int") (λxs H Q=>(∃ i,xs=[.int i]/\Q (.int i) H)\/∃ k,xs=[.bl k]/\Q (.int (if k then 1 else 0)) H):=by
 intro pins s σ H xs us Q I r h
 rcases h with ⟨i,rfl,q⟩ | ⟨k,rfl,q⟩
 ·obtain ⟨u,rfl,t,rfl⟩:=eB r
  exact call_int_int ⟨.int i,H,I,⟨_,rfl⟩,q⟩
 ·obtain ⟨u,rfl,r1⟩:=eB r
  cases r1
  exact call_int_bool ⟨.int (if k then 1 else 0),H,I.tok _,⟨_,rfl⟩,q⟩
theorem Zh7:dM X (.type "str") (λxs H Q=>∃ i,xs=[.int i]/\i.natAbs.log2 < 1920/\Q (.str (toString i)) H):=by
 intro pins s σ H xs us Q I r h
 obtain ⟨i,rfl,hz,q⟩:=h
 obtain ⟨u,rfl,t,rfl⟩:=eB r
 exact PySem.P.str_of_int hz ⟨.str _,H,I.tok _,⟨_,rfl⟩,q⟩
end
structure ObjM (h:Heap) (x dx C:Addr) (mA:Ae):Prop where
 obj:h.get? x=some (PySem.W.instObj C dx)
 ns:h.Ns1 dx mA
 ne:dx≠x
theorem ZmR {h:Heap} {dx:Addr} {mA:Ae} (n:h.Ns1 dx mA):∃ od,h.get? dx=some od/\∀ name,PySem.W.lookIn name od=some (mA name):=by
 obtain ⟨o,es,ep,ho,hd,hk,_,hm⟩:=n
 refine ⟨o,ho,λname=>?_⟩
 have e:=hm name
 unfold nsFind findBy at e
 rw [<- Array.find?_toList] at e
 unfold PySem.W.lookIn
 rw [hd]
 dsimp only
 split
 ·rename_i y q
  rw [q] at e
  exact congrArg some e
 ·rename_i q
  rw [q] at e
  have a:es.toList.any (·.refKey)=false:=by
   rw [List.any_eq_false]
   intro y hy
   obtain ⟨z,t,hkey⟩:=hk y (Array.mem_toList_iff.mp hy)
   simp [DictEntry.refKey,hkey]
  have a':¬ es.toList.any (·.refKey)=true:=by rw [a]; exact wj
  rw [if_neg a']
  exact congrArg some e
theorem ObjM.look {h:Heap} {x dx C:Addr} {mA:Ae} (I:ObjM h x dx C mA):∃ od,PySem.W.InstAt h x (PySem.W.instObj C dx) C (some od)/\∀ name,PySem.W.lookIn name od=some (mA name) :=
 let ⟨od,ho,hl⟩:=ZmR I.ns
 ⟨od,⟨I.obj,rfl,rfl,ho⟩,hl⟩
theorem RelO.some_of {v:V} {o:Option Value} (r:RelO (some v) o):∃ u,o=some u/\RelV v u:=by
 cases o with
 | none=>exact (show False from r).elim
 | some u=>exact ⟨u,rfl,r⟩
section
variable {P:Program} {w:World} {H H':Hp} {h h':Heap} {a C dx:Addr} {fs fs':List (Str×V)}
theorem Znx (hok:HOk P w H h) (e:H a=some (.ins C dx fs)):∃ mA,ObjM h a dx C mA/\(∀ f,RelO (fs.lookup f) (mA f))/\PySem.Within mA (fs.map (·.1))/\fs.length<=1000/\H dx=some (.own a):=by
 obtain ⟨d,z,ne,ob,mA,n,r,q⟩:=(show ObjOk P w H h a (.ins C dx fs) from hok a _ e)
 exact ⟨mA,⟨ob,n,ne⟩,r,q,z,d⟩
end
structure Cls (K:zR) (C:Addr):Prop where
 pg:PySem.W.plainGet K C Str.empty=true
 hd:PySem.W.hasDictIn K C=true
 po:PySem.W.plainOver K C=true
 sa:PySem.W.findIn K (.ref C) "__setattr__"=some (some (.builtin "object.__setattr__"))
theorem Cls.get {K:zR} {C:Addr} (c:Cls K C) (f:Str):PySem.W.plainGet K C f=true:=c.pg
section
variable {X:Cx} {pins:List (Addr×Obj)} {σ:St} {H:Hp} {s:Shared} {A:Around} {E:z0} {Q:z0} {c:Value} {b:Bool}
inductive TyOf (K:zR) (H:Hp):V->Value->Prop where
 | non:TyOf K H .non (.type "NoneType")
 | bl (x:Bool):TyOf K H (.bl x) (.type "bool")
 | int (i:Int):TyOf K H (.int i) (.type "int")
 | str (x:Str):TyOf K H (.str x) (.type "str")
 | flt (x:UInt64):TyOf K H (.flt x) (.type "float")
 | lst {a:Addr} {xs:Ad} (e:H a=some (.lst xs)):TyOf K H (.ref a) (.type "list")
 | frz {a:Addr} {o:Obj} {xs:Ad} (e:H a=some (.frz o (.lst xs))):TyOf K H (.ref a) (.type "list")
 | tup {a:Addr} {xs:Ad} (e:H a=some (.tup xs)):TyOf K H (.ref a) (.type "tuple")
 | dK {a:Addr} {kvs:List (aM×V)} (e:H a=some (.dK kvs)):TyOf K H (.ref a) (.type "dict")
 | dT {a:Addr} {kvs:List (List aM×V)} (e:H a=some (.dT kvs)):TyOf K H (.ref a) (.type "dict")
 | frzD {a:Addr} {o:Obj} {kvs:List (aM×V)} (e:H a=some (.frz o (.dK kvs))):TyOf K H (.ref a) (.type "dict")
 | ins {a C dx:Addr} {fs:List (Str×V)} (e:H a=some (.ins C dx fs)) (cl:Cls K C) (ha:PySem.W.findIn K (.ref C) "__class__"=some (some (.builtin "object.__class__")))
   (hn:PySem.W.specialIn K (.builtin "object.__class__") "__get__"=some (some (.builtin "getset_descriptor.__get__"))) (htk:PySem.W.takesIn K (.builtin "object.__class__")=some true)
   (hm:PySem.W.mroIn K C (.type "object")=some true):TyOf K H (.ref a) (.ref C)
theorem Zno {x:V} {u t:Value} (I:Inv X pins σ H s) (rx:RelV x u) (ty:TyOf X.K H x t) (e:PySem.W.kitOne X.K t c=some b) (h:∀ tk,Q (.bool b) { s with toks:=tk }) :
  wpAny (model X.prog X.w) A (call (.builtin "isinstance") [u,c]) Q E s:=by
 cases ty with
 | non=>cases (show u=Value.none from rx); exact xc PySem.W.kitx_none I.kIn True.intro e (λz=>nomatch z) h
 | bl y=>cases (show u=Value.bool y from rx); exact xc PySem.W.kitx_bool I.kIn True.intro e (λz=>nomatch z) h
 | int i=>obtain ⟨t,q⟩:=(show ∃ t,u=Value.int i t from rx); cases q; exact xc PySem.W.kitx_int I.kIn True.intro e (λz=>nomatch z) h
 | str y=>obtain ⟨t,q⟩:=(show ∃ t,u=Value.str y t from rx); cases q; exact xc PySem.W.kitx_str I.kIn True.intro e (λz=>nomatch z) h
 | flt y=>obtain ⟨t,q⟩:=(show ∃ t,u=Value.float y t from rx); cases q; exact xc PySem.W.kitx_float I.kIn True.intro e (λz=>nomatch z) h
 | @lst a xs ea =>
  cases (show u=Value.ref a from rx)
  obtain ⟨_,_,n,_,h1⟩:=(show ObjOk X.prog X.w H s.heap a (.lst xs) from I.hok a _ ea)
  exact xc PySem.W.kitx_list I.kIn ⟨_,h1,rfl⟩ e (λz=>nomatch z) h
 | @frz a ob xs ea =>
  cases (show u=Value.ref a from rx)
  obtain ⟨_,_,_,n,_,h1⟩:=(show ObjOk X.prog X.w H s.heap a (.frz ob (.lst xs)) from I.hok a _ ea)
  exact xc PySem.W.kitx_list I.kIn ⟨_,h1,rfl⟩ e (λz=>nomatch z) h
 | @tup a xs ea =>
  cases (show u=Value.ref a from rx)
  obtain ⟨_,_,_,p⟩:=(show ObjOk X.prog X.w H s.heap a (.tup xs) from I.hok a _ ea)
  obtain ⟨o,h1,h2,_⟩:=p
  exact xc PySem.W.kitx_tuple I.kIn ⟨o,h1,h2⟩ e (λz=>nomatch z) h
 | @dK a kvs ea =>
  cases (show u=Value.ref a from rx)
  obtain ⟨_,_,vs,_,p⟩:=(show ObjOk X.prog X.w H s.heap a (.dK kvs) from I.hok a _ ea)
  obtain ⟨o,es,ep,h1,h2,_⟩:=p
  exact xc ze I.kIn ⟨o,h1,h2.1⟩ e (λz=>nomatch z) h
 | @frzD a ob kvs ea =>
  cases (show u=Value.ref a from rx)
  obtain ⟨_,_,_,vs,_,p⟩:=(show ObjOk X.prog X.w H s.heap a (.frz ob (.dK kvs)) from I.hok a _ ea)
  obtain ⟨o,es,ep,h1,h2,_⟩:=p
  exact xc ze I.kIn ⟨o,h1,h2.1⟩ e (λz=>nomatch z) h
 | @dT a kvs ea =>
  cases (show u=Value.ref a from rx)
  obtain ⟨_,_,xs,_,o,es,ep,h1,h2,_⟩:=(show ObjOk X.prog X.w H s.heap a (.dT kvs) from I.hok a _ ea)
  exact xc ze I.kIn ⟨o,h1,h2.1⟩ e (λz=>nomatch z) h
 | @ins a C dx fs ea cl ha hn htk hm =>
  cases (show u=Value.ref a from rx)
  obtain ⟨mA,O,_⟩:=Znx I.hok ea
  obtain ⟨od,J,_⟩:=O.look
  exact xc (PySem.W.kitx_own (cl.get _) cl.hd ha hn htk hm) I.kIn J e (λz=>nomatch z) h
end
structure Room (k:Nat) (A:Around):Prop where
 hd:A.handled=none
 dp:A.depth+3 * k+5 < recursionLimit
 un:A.units+16 * k+200 < cLine
 gd:A.guards=some []
theorem Room.mono {j k:Nat} {A:Around} (r:Room k A) (h:j<=k):Room j A:=⟨r.hd,by have:=r.dp; omega,by have:=r.un; omega,r.gd⟩
theorem Room.deeper {k:Nat} {A:Around} (r:Room (k+1) A) (env:Env):Room k (A.deeper env) :=
 ⟨r.hd,by have:=r.dp; show A.depth+1+3 * k+5 < _; omega,by have:=r.un; show A.units+3+16 * k+200 < _; omega,r.gd⟩
theorem Room.depth {k:Nat} {A:Around} (r:Room k A):A.depth < recursionLimit:=by have:=r.dp; omega
theorem Room.units {k:Nat} {A:Around} (r:Room k A):A.units+64 < cLine:=by have:=r.un; omega
def aY:TA:=λ_ H Q=>Q [] H
def fB (ta:TE) (tr:TA):TA:=λσ H Q=>ta σ H λx H1=>tr σ H1 λxs H2=>Q (x::xs) H2
section
variable {X:Cx} {e:Expr} {es:List Expr} {te:TE} {t:TA} {pos:Pos}
theorem cm:PA X [] aY:=λ_ _ _ _ H Q I h=>Calls.spliced_nil ⟨[],H,I,.nil,h⟩
theorem bp (ha:PE X e te) (hr:PA X es t) (hs:starEach (e::es) X.env=(false,eval e X.env)::starEach es X.env:=by rfl):PA X (e::es) (fB te t):=by
 intro pos pins s σ H Q I h
 rw [hs]
 show wpAny _ _ (spliced ((false,eval e X.env)::backTo pos (starEach es X.env))) _ _ s
 refine Calls.spliced_cons (thn (ha pins s σ H _ I h) λu s1 hz0=>?_)
 obtain ⟨x,H1,I1,r1,q1⟩:=hz0
 exact thn (hr pos pins s1 σ H1 _ I1 q1) λus s2 hz0=>by
  obtain ⟨xs,H2,I2,r2,q2⟩:=hz0
  exact ⟨x::xs,H2,I2,.cons r1 r2,q2⟩
def Zjs (t:TA):TE:=λσ H Q=>t σ H λxs H1=>xs.length<=sizeLine/\∀ p,H1 p=none->Q (.ref p) (upd H1 p (.tup xs))
def ZjD (t:TA):TE:=λσ H Q=>t σ H λxs H1=>xs.length<=sizeLine/\∀ p,H1 p=none->Q (.ref p) (upd H1 p (.lst xs))
theorem ZcL {x1} (h:PA X es t):PE X (.Tuple es x1 pos) (Zjs t):=by
 intro pins s σ H Q I hq
 refine wpAny_Tuple_spliced (thn (h pos pins s σ H _ I hq) λus s1 ⟨xs,H1,I1,r,z,q⟩=>⟨by rw [<- r.length]; exact z,?_⟩)
 have hf:H1 s1.heap.objs.size=none:=I1.hok.fresh (v4 _)
 refine ⟨.ref s1.heap.objs.size,upd H1 s1.heap.objs.size (.tup xs),I1.laid (t':=s1.toks) (λb u e=>vY _ e) (v4 _) ?_,rfl,q _ hf⟩
 exact ⟨z,us,r,⟨_,v7 _ rfl,rfl,_,rfl⟩⟩
theorem ZlG (h:PA X es t):PE X (.List es pos) (ZjD t):=by
 intro pins s σ H Q I hq
 refine wpAny_List_spliced (thn (h pos pins s σ H _ I hq) λus s1 ⟨xs,H1,I1,r,z,q⟩=>⟨by rw [<- r.length]; exact z,?_⟩)
 have hf:H1 s1.heap.objs.size=none:=I1.hok.fresh (v4 _)
 refine ⟨.ref s1.heap.objs.size,upd H1 s1.heap.objs.size (.lst xs),I1.laid (t':=s1.toks) (λb u e=>vY _ e) (v4 _) ?_,rfl,q _ hf⟩
 exact ⟨z,us,0,r,v7 _ rfl⟩
end
noncomputable abbrev Sp:=List V->Hp->VK->XK->Prop
noncomputable abbrev fx:=List Env->Hp->Shared->XK->Value->Shared->Prop
structure Env0 (P:Program) (w:World) (K:zR) (mg:Ae) (base:Heap) (A:Around) (outer:List Env) (s:Shared) (H:Hp):Prop where
 frames:A.frames=some outer
 mod:Mod K mg base
 bs:∀ b o,base.get? b=some o->s.heap.get? b=some o/\H b=none
 bsz:base.objs.size<=s.heap.objs.size
 funs:s.heap.FunFrames base outer
 frf:∀ b∈frs outer,H b=none
 hok:HOk P w H s.heap
 bare:AllBare s.gens
noncomputable def CE (outer:List Env) (P:Program) (w:World) (H:Hp) (s:Shared) (Q:VK) (u:Value) (s':Shared):Prop :=
 ∃ v H',s'.os=s.os/\AllBare s'.gens/\Un (frs outer) [] H H' s.heap s'.heap/\HOk P w H' s'.heap/\RelV v u/\Q v H'
noncomputable def CR (CX:fx) (outer:List Env) (P:Program) (w:World) (H:Hp) (s:Shared) (Q:VK) (E:XK) (r:Result) (s':Shared):Prop :=
 match r with
 | .ok (.ret u)=>CE outer P w H s Q u s'
 | .ok _=>False
 | .error e=>CX outer H s E e s'
structure FnOk (P:Program) (w:World) (K:zR) (mg:Ae) (base:Heap) (CX:fx) (k:Nat) (f:Addr) (fd:FuncData) (ps:Ac) (sp:Sp):Prop where
 len:∀ vs H Q E,sp vs H Q E->vs.length=ps.length
 run:∀ (A:Around) (outer:List Env) (s:Shared) (H:Hp) (args:Args) (us:Ab) (vs:Ad) (Q:VK) (E:XK),Room k A->Env0 P w K mg base A outer s H->BindsTo s fd args (ps.zip us)->Vals vs us->sp vs H Q E ->
  codeAny (model P w) A (.call (.ref f) args) (CR CX outer P w H s Q E) s
theorem FnOk.imp {P:Program} {w:World} {K:zR} {mg:Ae} {base:Heap} {CX:fx} {k:Nat} {f:Addr} {fd:FuncData} {ps:Ac} {sp sp':Sp} (F:FnOk P w K mg base CX k f fd ps sp)
  (h:∀ vs H Q E,sp' vs H Q E->sp vs H Q E):FnOk P w K mg base CX k f fd ps sp' :=
 ⟨λvs H Q E q=>F.len vs H Q E (h _ _ _ _ q),λA outer s H args us vs Q E hr he hb hv hs=>F.run A outer s H args us vs Q E hr he hb hv (h _ _ _ _ hs)⟩
section
variable {X:Cx} {pins:List (Addr×Obj)} {σ:St} {H:Hp} {s s':Shared}
theorem Inv.env0 (I:Inv X pins σ H s):Env0 X.prog X.w X.K X.mg X.base X.A X.stack s H :=
 ⟨I.ok.frames,I.ok.mod,I.bs,wv I.ok.bsz I.sz,I.stack,I.stkFree,I.hok,I.bare⟩
theorem Inv.after {Q:VK} {u:Value} (I:Inv X pins σ H s) (h:CE X.stack X.prog X.w H s Q u s'):EP X pins σ Q u s':=by
 obtain ⟨v,H',os,bare,un,hok,r,q⟩:=h
 obtain ⟨hh,g,d,t,os'⟩:=s'
 obtain rfl:os'=s.os:=os
 exact ⟨v,H',I.call (h':=hh) (g':=g) (d':=d) (t':=t) (ch:=[]) un hok bare (λb z=>absurd z (by simp)),r,q⟩
end
def ZaA (sp:Sp) (dvs:Ad) (E:XK) (t:TA):TE:=λσ H Q=>t σ H λvs H1=>sp (vs++dvs) H1 Q E
noncomputable def Binds (K:zR) (fd:FuncData) (ps:Ac) (ds:Ab):Prop :=
 ∀ (s:Shared) (us:Ab),K.In s.heap->(us++ds).length=ps.length->BindsTo s fd ⟨us,[]⟩ (ps.zip (us++ds))
theorem Binds.all {K:zR} {fd:FuncData} {ps:Ac} (h:∀ us:Ab,us.length=ps.length->bindArgs fd ⟨us,[]⟩=pure (ps.zip us)):Binds K fd ps []:=λs us _ hl=>by
 rw [w8] at hl ⊢
 exact .of_eq (h us hl)
def vR (CX:fx) (X:Cx) (E:XK):Prop:=∀ (pins:List (Addr×Obj)) (σ:St) (H:Hp) (s:Shared) (e:Value) (s':Shared),Inv X pins σ H s->CX X.stack H s E e s'->X.xe e s'
section
variable {X:Cx} {CX:fx} {k:Nat} {f C:Addr} {fd:FuncData} {ps:Ac} {sp:Sp} {dvs:Ad} {ds:Ab} {E:XK} {x m:Str} {p pos apos:Pos} {e o:Expr} {es:List Expr} {ta:TE} {t:TA}
theorem ZkI {pins:List (Addr×Obj)} {σ:St} {H:Hp} {s:Shared} {Q:VK} {us:Ab} {vs:Ad} (F:FnOk X.prog X.w X.K X.mg X.base CX k f fd ps sp) (hr:Room k X.A) (hb:Binds X.K fd ps ds) (hd:Vals dvs ds) (hx:vR CX X E)
  (I:Inv X pins σ H s) (r:Vals vs us) (h:sp (vs++dvs) H Q E):wpAny (model X.prog X.w) X.A (call (.ref f) us) (EP X pins σ Q) X.xe s:=by
 have r2:Vals (vs++dvs) (us++ds):=r.append hd
 have hl:(us++ds).length=ps.length:=by rw [<- r2.length]; exact F.len _ _ _ _ h
 refine wpAny_call (codeAny_mono (F.run X.A X.stack s H ⟨us,[]⟩ (us++ds) (vs++dvs) Q E hr I.env0 (hb s us I.kIn hl) r2 h) λr s' hq=>?_)
 cases r with
 | error e=>exact hx pins σ H s e s' I hq
 | ok fl =>
  cases fl with
  | ret u=>exact I.after hq
  | next=>exact False.elim hq
  | brk=>exact False.elim hq
  | cont=>exact False.elim hq
theorem ZlP (F:FnOk X.prog X.w X.K X.mg X.base CX k f fd ps sp) (hr:Room k X.A) (hg:Gl X x) (hm:X.mg x=some (.ref f)) (hk:PySem.W.keepIn X.K (.ref f)=true) (hb:Binds X.K fd ps ds) (hd:Vals dvs ds) (hx:vR CX X E)
  (ha:PA X (e::es) t) (hdb:(x == ("__debug__":Str))=false:=by decide) (he:starEach (e::es) X.env=(false,eval e X.env)::starEach es X.env:=by rfl) (hpl:(backTo pos (starEach es X.env)).any (·.1)=false:=by rfl) :
  PE X (.Call (.Name x p) (e::es) [] pos) (ZaA sp dvs E t):=by
 intro pins s σ H Q I h
 refine wpAny_Call_Name_kw (ZdG I hg hm ?_ hdb)
 refine PySem.W.callWith_K (h₀:=X.base) I.ok.mod.kin hk (thn (ha pos pins s σ H _ I h) λus s1 ⟨vs,H1,I1,r,q⟩=>⟨I1.kIn,?_⟩) he hpl
 exact ZkI F hr hb hd hx I1 r q
end
noncomputable def PK (X:Cx) (kws:List Keyword) (t:TA):Prop :=
 ∀ (pos:Pos) (pins:List (Addr×Obj)) (s:Shared) (σ:St) (H:Hp) (Q:List V->Hp->Prop),Inv X pins σ H s->t σ H Q->wpAny (model X.prog X.w) X.A (evalAll ((backToKw pos (keywordEach kws X.env)).map (·.2))) (AP X pins σ Q) X.xe s
section
variable {X:Cx} {CX:fx} {k:Nat} {f C:Addr} {fd:FuncData} {ps ks:Ac} {sp:Sp} {E:XK} {x m:Str} {p pos apos kpos:Pos} {e o:Expr} {es:List Expr} {kws:List Keyword} {te ta:TE} {t tk:TA} {nm:Option Str}
variable {g:List Value->List Value->List Value} {gV:List V->List V->List V}
end
structure FnScope (N P:Ac) (sc:Scope):Prop where
 kind:sc.kind=.function
 co:sc.isCoroutine=false
 gen:sc.isGenerator=false
 nd:N.Nodup
 pre:N.take P.length=P
 par:∀ x∈P,sc.names.lookup x=some .local\/sc.names.lookup x=some .cell
 nofree:∀ y∈sc.names,y.2≠.free
theorem Zim {kindOf:Str->Option NameKind} {x:Str}:∀ {binds:List (Str×Value)} {m:Ae},(∀ v,(x,v) ∉ binds)->bindL kindOf binds m x=m x
 | [],_,_=>rfl
 | (n,v)::r,m,h=>by
  unfold bindL
  rw [Zim λw hw=>h w (v3 _ hw)]
  split
  ·have:x≠n:=by rintro rfl; exact h v wX
   simp [this]
  ·rfl
theorem Zio {kindOf:Str->Option NameKind} {x:Str}:∀ {binds:List (Str×Value)} {m:Ae},(∀ v,(x,v) ∉ binds)->bindC kindOf binds m x=m x
 | [],_,_=>rfl
 | (n,v)::r,m,h=>by
  unfold bindC
  rw [Zio λw hw=>h w (v3 _ hw)]
  split
  ·rfl
  ·have:x≠n:=by rintro rfl; exact h v wX
   simp [this]
theorem Zin {kindOf:Str->Option NameKind} {x:Str} {v:Value}:∀ {P:Ac} {vs:Ab} {i:Nat} {m:Ae},P.Nodup->P[i]?=some x->vs[i]?=some v->kindOf x=some .local ->
  bindL kindOf (P.zip vs) m x=some v
 | [],_,_,_,_,h,_,_=>by simp at h
 | _::_,[],_,_,_,_,h,_=>by simp at h
 | p::P,w::vs,0,m,nd,h1,h2,hk=>by
  simp at h1 h2; subst h1; subst h2
  show bindL kindOf ((p,w)::P.zip vs) m p=_
  unfold bindL
  rw [Zim λv hv=>(yT.mp nd).1 (zq hv).1,if_pos hk]
  simp
 | p::P,w::vs,i+1,m,nd,h1,h2,hk=>by
  show bindL kindOf ((p,w)::P.zip vs) m x=_
  unfold bindL
  exact Zin (i:=i) (yT.mp nd).2 (by simpa using h1) (by simpa using h2) hk
theorem Zip {kindOf:Str->Option NameKind} {x:Str} {v:Value}:∀ {P:Ac} {vs:Ab} {i:Nat} {m:Ae},P.Nodup->P[i]?=some x->vs[i]?=some v->kindOf x≠some .local ->
  bindC kindOf (P.zip vs) m x=some v
 | [],_,_,_,_,h,_,_=>by simp at h
 | _::_,[],_,_,_,_,h,_=>by simp at h
 | p::P,w::vs,0,m,nd,h1,h2,hk=>by
  simp at h1 h2; subst h1; subst h2
  show bindC kindOf ((p,w)::P.zip vs) m p=_
  unfold bindC
  rw [Zio λv hv=>(yT.mp nd).1 (zq hv).1,if_neg hk]
  simp
 | p::P,w::vs,i+1,m,nd,h1,h2,hk=>by
  show bindC kindOf ((p,w)::P.zip vs) m x=_
  unfold bindC
  exact Zip (i:=i) (yT.mp nd).2 (by simpa using h1) (by simpa using h2) hk
noncomputable def start (N:Ac) (vs:Ad):St:=vs.map some++List.replicate (N.length - vs.length) none
noncomputable def iD (CX:fx) (P:Program) (w:World) (K:zR) (mg:Ae) (base:Heap) (N:Ac) (qual:Str) (scope:Scope) (f:Addr) (cd:Value) (A:Around) (outer:List Env) (s:Shared) (H:Hp) (E:XK):Cx where
 prog:=P
 w:=w
 K:=K
 mg:=mg
 base:=base
 A:=A.deeper (envOfC qual scope s.heap.objs.size f cd)
 N:=N
 s₀:=s
 H₀:=H
 env:=envOfC qual scope s.heap.objs.size f cd
 outer:=outer
 stack:=envOfC qual scope s.heap.objs.size f cd::outer
 ex:=[]
 calm:=true
 fn:=λ_=>true
 pn:=[]
 xe:=λe s'=>wpAny (model P w) (A.deeper (envOfC qual scope s.heap.objs.size f cd)) (leaving (envOfC qual scope s.heap.objs.size f cd) e) (λ_ s''=>CX outer H s E e s'') (λe' s''=>CX outer H s E e' s'') s'
theorem Zh4 {sc:Scope} {n:Nat} {x:Str} (h:sc.names.lookup x=some .cell):∃ c,(cellsFrom n sc.names []).lookup x=some c:=by
 have q:=PySem.W.cellsFrom_some sc.names n [] (.inl h)
 exact Option.isSome_iff_exists.mp q
theorem Znw {CX:fx} {P:Program} {w:World} {K:zR} {mg:Ae} {base:Heap} {N ps:Ac} {qual:Str} {scope:Scope} {f:Addr} {cd:Value} {A:Around} {outer:List Env} {s s1:Shared} {H:Hp} {E:XK} {us:Ab} {vs:Ad}
  (S:FnScope N ps scope) (hd:A.handled=none) (e0:Env0 P w K mg base A outer s H) (hl:vs.length=ps.length) (r:Vals vs us)
  (x:InCallC s s.heap.objs.size (bindL (envOfC qual scope s.heap.objs.size f cd).kindOf (ps.zip us) λ_=>none) (cellsFrom (s.heap.objs.size+1) scope.names []) (bindC (envOfC qual scope s.heap.objs.size f cd).kindOf (ps.zip us) λ_=>none) s1) :
  Inv (iD CX P w K mg base N qual scope f cd A outer s H E) [] (start N vs) H s1:=by
 have hpl:ps.length<=N.length:=by have:=congrArg List.length S.pre; rw [wE] at this; omega
 obtain ⟨h1,tk,rfl,hk⟩:=x.done
 have noA:∀ b:Addr,b ∉ (iD CX P w K mg base N qual scope f cd A outer s H E).ex:=λb z=>absurd (show b∈([]:List Addr) from z) (by simp)
 refine ⟨⟨e0.mod,S.kind,rfl,rfl,v4 _,λy z c h1 h2=>?_,λy hy=>?_,λy c _ h=>?_,λ_=>hd,Around.frames_deeper e0.frames,.inr ⟨rfl,rfl⟩,λb z=>absurd z (noA b),e0.bs,e0.bsz,λb _ _=>noA b,λb z=>absurd z (noA b),e0.funs,e0.frf⟩,
  rfl,e0.bare,Un.kept hk,⟨_,x.toInCall.ns,λi y v h1 h2 h3=>?_⟩,λy c h=>⟨_,x.cell y c h⟩,e0.hok.fresh (v4 _),λy c h=>?_,λp hp=>absurd (show p∈([]:List (Addr×Obj)) from hp) (by simp),e0.hok.kept hk,?_⟩
 ·exact name_of_addr x.apart (xj h1) (xj h2)
 ·have hy:scope.names.lookup y=some .cell\/scope.names.lookup y=some .free:=hy
  rcases hy with hy | hy
  ·exact Zh4 hy
  ·exact absurd rfl (S.nofree _ (xj hy))
 ·exact x0 (x.above y c (xj h))
 ·have hi:i < vs.length:=by
   unfold start at h2
   by_cases hi:i < vs.length
   ·exact hi
   ·rw [wL (by simpa using hi)] at h2
    rw [wJ] at h2
    split at h2 <;> cases h2
  have ha:vs[i]?=some v:=by
   unfold start at h2
   rw [wQ (by simpa using hi),v5] at h2
   cases e:vs[i]? with
   | none=>rw [e] at h2; cases h2
   | some a=>rw [e] at h2; cases h2; rfl
  obtain ⟨u,hu,rv⟩:=r.get ha
  have hp:ps[i]?=some y:=by
   rw [<- S.pre,List.getElem?_take_of_lt (by omega)]; exact h1
  have ndP:ps.Nodup:=by rw [<- S.pre]; exact S.nd.sublist (List.take_sublist _ _)
  refine ⟨u,rv,?_⟩
  rcases S.par y (xF hp) with k | k
  ·exact .inl ⟨k,Zin ndP hp hu k⟩
  ·obtain ⟨c,e⟩:=Zh4 (n:=s.heap.objs.size+1) k
   refine .inr ⟨.inl k,c,e,?_⟩
   have q:=x.cell y c e
   rw [Zip ndP hp hu (by show scope.names.lookup y≠_; rw [k]; decide)] at q
   exact q
 ·exact e0.hok.fresh (x0 (x.above y c (xj h)))
 ·unfold start
  show _=N.length
  rw [wu,vZ,yf]
  omega
theorem ZnT {CX:fx} {P:Program} {w:World} {K:zR} {mg:Ae} {base:Heap} {k:Nat} {f:Addr} {name qual:Str} {params:Arguments} {body:List Stmt} {scope:Scope} {dV kV doc pm cdv ct oc:Value} {an od:Option Addr}
  {osl:Array (Option Value)} {N ps:Ac} {sp:Sp} (lk:K.lookup f=some ⟨oc,od,.func (PySem.W.fnOf name qual params body scope dV kV doc pm an cdv ct),osl⟩) (hcd:PySem.W.codeIn K cdv qual=true) (S:FnScope N ps scope)
  (len:∀ vs H Q E,sp vs H Q E->vs.length=ps.length)
  (hbody:∀ (A:Around) (outer:List Env) (s:Shared) (H:Hp) (vs:Ad) (Q:VK) (E:XK),Room k (A.deeper (envOfC qual scope s.heap.objs.size f cdv))->sp vs H Q E ->
   ∃ t,PSs (iD CX P w K mg base N qual scope f cdv A outer s H E) body t/\t { nx:=λ_ H'=>Q .non H',rt:=Q } (start N vs) H) :
  FnOk P w K mg base CX (k+1) f (PySem.W.fnOf name qual params body scope dV kV doc pm an cdv ct) ps sp:=by
 refine ⟨len,λA outer s H args us vs Q E hr e0 hb r hsp=>?_⟩
 have hl:=len _ _ _ _ hsp
 have KX:K.In s.heap:=e0.mod.kin.keeps λb o e=>(e0.bs b o e).1
 have lim:s.heap.NoLimit:=e0.mod.nolimit.keeps λb o e=>(e0.bs b o e).1
 have hkind:∀ y∈ps.zip us,scope.names.lookup y.1=some .local\/(scope.names.lookup y.1=some .cell/\((cellsFrom (s.heap.objs.size+1) scope.names []).lookup y.1).isSome=true):=λ⟨n,v⟩ hy=>by
  rcases S.par n (zq hy).1 with q | q
  ·exact .inl q
  ·exact .inr ⟨q,PySem.W.cellsFrom_some _ _ _ (.inl q)⟩
 refine codeAny_call_function hr.depth (KX _ _ lk) rfl S.co S.gen rfl (PySem.W.codeRec_of KX hcd) (hb _ _ _ _ ?_)
 refine wpAny_newFunctionEnv_cells S.kind hkind λenv he s1 x=>?_
 subst he
 refine ⟨lim.keeps x.toInCall.keep,codeAny_func ?_⟩
 obtain ⟨t,ht,hq⟩:=hbody A outer s H vs Q E (hr.deeper _) hsp
 have I:Inv (iD CX P w K mg base N qual scope f cdv A outer s H E) [] (start N vs) H s1:=Znw S hr.hd e0 hl r x
 refine wpAny_mono (ht [] s1 (start N vs) H _ I hq) (λfl s' hs=>?_) λe s' hs=>hs
 have fin:∀ {σ':St} {H':Hp} {v:V} {u:Value},Inv (iD CX P w K mg base N qual scope f cdv A outer s H E) [] σ' H' s'->RelV v u->Q v H'->CE outer P w H s Q u s' :=
  λ{σ' H' v u} J rv q=>⟨v,H',J.os,J.bare,J.base,J.hok,rv,q⟩
 cases fl with
 | ret u =>
  obtain ⟨v,σ',H',J,rv,q⟩:=hs
  exact fin J rv q
 | next =>
  obtain ⟨σ',H',J,q⟩:=hs
  exact fin (v:=V.non) (u:=Value.none) J rfl q
 | brk =>
  obtain ⟨_,_,_,q⟩:=hs
  exact False.elim q
 | cont =>
  obtain ⟨_,_,_,q⟩:=hs
  exact False.elim q
section
variable {X:Cx} {x:Str} {p pos:Pos} {e:Expr} {es:List Expr} {t:TA} {id T:String} {r:List V->Hp->VK->Prop}
def f7 (r:List V->Hp->VK->Prop) (t:TA):TE:=λσ H Q=>t σ H λvs H1=>r vs H1 Q
theorem bc (hc:dM X (.builtin id) r) (hg:Gl X x) (hm:X.mg x=none) (hv:bootBuiltins x=some (.builtin id)) (ha:PA X (e::es) t) (hn:x≠"__name__":=by decide) (hdb:(x == ("__debug__":Str))=false:=by decide)
  (he:starEach (e::es) X.env=(false,eval e X.env)::starEach es X.env:=by rfl) (hpl:(backTo pos (starEach es X.env)).any (·.1)=false:=by rfl):PE X (.Call (.Name x p) (e::es) [] pos) (f7 r t):=by
 intro pins s σ H Q I h
 refine wpAny_Call_Name_kw (jb I hg hm hv ?_ hn hdb)
 exact PyProof.Rows.callWith_builtin1 (thn (ha pos pins s σ H _ I h) λus s1 ⟨vs,H1,I1,r1,q1⟩=>hc pins s1 σ H1 vs us Q I1 r1 q1) he hpl
theorem dP (hc:dM X (.type T) r) (hg:Gl X x) (hm:X.mg x=none) (hv:bootBuiltins x=some (.type T)) (ha:PA X (e::es) t) (hn:x≠"__name__":=by decide) (hdb:(x == ("__debug__":Str))=false:=by decide)
  (he:starEach (e::es) X.env=(false,eval e X.env)::starEach es X.env:=by rfl) (hpl:(backTo pos (starEach es X.env)).any (·.1)=false:=by rfl):PE X (.Call (.Name x p) (e::es) [] pos) (f7 r t):=by
 intro pins s σ H Q I h
 refine wpAny_Call_Name_kw (jb I hg hm hv ?_ hn hdb)
 exact xh (thn (ha pos pins s σ H _ I h) λus s1 ⟨vs,H1,I1,r1,q1⟩=>hc pins s1 σ H1 vs us Q I1 r1 q1) he hpl
end
end L2
namespace HT
noncomputable def di:List Int->List Int->Bool
 | [],[]=>false
 | [],_::_=>true
 | _::_,[]=>false
 | x::xs,y::ys=>if x=y then di xs ys else decide (x < y)
theorem Zdz (x y:Int) (xs ys:Aa):di (x::xs) (y::ys)=if x=y then di xs ys else decide (x < y):=rfl
theorem Zdy:di [] []=false:=rfl
theorem ZmX (y:Int) (ys:Aa):di [] (y::ys)=true:=rfl
theorem ZmY (x:Int) (xs:Aa):di (x::xs) []=false:=rfl
theorem Zn4 (A:Around) (s:Shared) (a:Int) (t:Tok) (c:Int) (u:Tok):∃ e,SeqAt.EqAt A s (.int a t) (.int c u) e/\(e=true ↔ a=c) :=
 ⟨(a == c),SeqAt.EqAt.int_int a t c u,by simp⟩
theorem ZkZ (A:Around) (s:Shared) (a:Int) (t:Tok) (c:Int) (u:Tok) (prog:Program) (w:World) (E:z0) (Q:z0) (h:Q (.bool (decide (a < c))) s) :
  wpAny (model prog w) A (richCompare .Lt (.int a t) (.int c u)) Q E s :=
 (PyProof.Rows.lt_int h:wpAny (model prog w) A (compareOp .Lt (.int a t) (.int c u)) Q E s)
section
open PySem.SeqAt
open PySem.AutoSeq1 (wpAny_loadPart')
open PySem.MeetsSeq PySem.MeetsSeq2 PySem.MeetsSeq3
theorem Zjh (l b:Addr) (items items2:Array Value) (n n2:Nat) (dd dd2:Option Addr) (sl fE:Array (Option Value)) (ns ms:Aa) (hi:IntsAre items.toList ns) (hj:IntsAre items2.toList ms) :
  Meets (Builtin.«tuple.__lt__» ⟨[.ref l,.ref b],[]⟩)
   (λ_ R s=>s.heap.get? l=some { cls:=.type "tuple",dict:=dd,data:=.seq items n,slots:=sl }/\s.heap.get? b=some { cls:=.type "tuple",dict:=dd2,data:=.seq items2 n2,slots:=fE } /\
    R (.ok (.ret (.bool (di ns ms)))) s) :=
 .of_wp λprog w A R s h=>by
  obtain ⟨hp,g,d,tk,os⟩:=s; obtain ⟨hl,hb,h⟩:=h
  have f2:=AutoSeq1.sub_tuple_tuple
  have z1:items.size=ns.length:=by rw [<- hi.length]; simp
  have z2:items2.size=ms.length:=by rw [<- hj.length]; simp
  wp_walk using wpAny_loadPart' hl,wpAny_loadPart' hb,wpAny_forIn_list _ (λrest b s'=>b.1=none/\s'=⟨hp,g,d,tk,os⟩/\∃ (vs ws:Ab) (ns' ms':Aa),rest=vs.zip ws /\
   IntsAre vs ns'/\IntsAre ws ms'/\ns'.length+items2.size=ms'.length+items.size/\R (.ok (.ret (.bool (di ns' ms')))) ⟨hp,g,d,tk,os⟩) _
  case turn =>
   rintro ⟨y,x⟩ rest b s' ⟨hb',rfl,vs,ws,ns',ms',hz,hvi,hwi,hlen,hR⟩
   cases hvi with
   | nil=>rw [List.zip_nil_left] at hz; cases hz
   | cons a t hvi' =>
    cases hwi with
    | nil=>rw [List.zip_nil_right] at hz; cases hz
    | cons c u hwi' =>
     rw [x9] at hz
     injection hz with hyx hrest
     injection hyx with hy hx
     subst hy hx
     rw [Zdz] at hR
     simp only [wc] at hlen
     obtain ⟨e,he,hiff⟩:=Zn4 A.in1 ⟨hp,g,d,tk,os⟩ a t c u
     refine wpAny_bind (he prog w _ _ ?_)
     cases e with
     | true =>
      rw [if_pos (hiff.mp rfl)] at hR
      wp_walk
      exact ⟨rfl,rfl,_,_,_,_,hrest,hvi',hwi',by omega,hR⟩
     | false =>
      rw [if_neg (λq=>absurd (hiff.mpr q) wj)] at hR
      have hri:=ZkZ A.in1 ⟨hp,g,d,tk,os⟩ a t c u prog w
      wp_walk using hri
      exact ⟨_,rfl,by simpa using hR⟩
  case fin =>
   rintro ⟨b1,b2⟩ s' ⟨hb',rfl,vs,ws,ns',ms',hz,hvi,hwi,hlen,hR⟩
   simp only at hb'
   subst hb'
   have hv:di ns' ms'=decide (items.size < items2.size):=by
    cases hvi with
    | nil =>
     cases hwi with
     | nil =>
      simp only [xu] at hlen
      rw [Zdy]
      exact (decide_eq_false (by omega)).symm
     | cons c u hw =>
      simp only [xu,wc] at hlen
      rw [ZmX]
      exact (decide_eq_true (by omega)).symm
    | cons a t hv =>
     cases hwi with
     | nil =>
      simp only [xu,wc] at hlen
      rw [ZmY]
      exact (decide_eq_false (by omega)).symm
     | cons c u hw =>
      rw [x9] at hz
      cases hz
   rw [hv] at hR
   wp_walk
   exact ⟨_,rfl,by simpa [Builtin.Tuple.tupleCompareSizes] using hR⟩
  case h =>
   exact ⟨rfl,rfl,items.toList,items2.toList,ns,ms,rfl,hi,hj,by omega,h⟩
end
section
variable {prog:Program} {w:World} {A:Around} {E:z0} {s:Shared}
theorem ZmL {l b:Addr} {items items2:Array Value} {ns ms:Aa} {Q:z0} (hl:IsTup s.heap l items) (hb:IsTup s.heap b items2) (hi:IntsAre items.toList ns) (hj:IntsAre items2.toList ms)
  (hu:A.units < cLine) (h:Q (.bool (di ns ms)) s):wpAny (model prog w) A (compareOp .Lt (.ref l) (.ref b)) Q E s:=by
 obtain ⟨⟨cls,dd,data,sl⟩,ho,hc,n,hd⟩:=id hl
 obtain ⟨⟨cls2,dd2,data2,fE⟩,ho2,hc2,n2,hd2⟩:=id hb
 simp only at hc hd hc2 hd2
 subst hc hd hc2 hd2
 exact richCompare_meets_room (op:=.Lt) ⟨_,ho,rfl⟩ ⟨_,ho2,rfl⟩ PySem.F.slot_tuple_lt PySem.F.entry_tuple_lt (PySem.F.args_tuple_lt_2 _ _) (Zjh l b items items2 n n2 dd dd2 sl fE ns ms hi hj)
  ⟨ho,ho2,show Value.bool (di ns ms)≠Value.notImplemented/\Q (.bool (di ns ms)) s from ⟨(λx=>nomatch x),h⟩⟩ hu
theorem Zpx {t b:Addr} {vs ws:Ab} {Q:z0} (ht:IsTup s.heap t vs.toArray) (hb:IsTup s.heap b ws.toArray) (hv:vs≠[])
  (h1:ws=[]->Q (.ref t) s) (h2:ws≠[]->Q (.ref s.heap.objs.size) { s with heap:=s.heap.push { cls:=.type "tuple",data:=.seq (vs++ws).toArray } })
  (hsz:vs.length+ws.length<=sizeLine):wpAny (model prog w) A (binaryOp .Add (.ref t) (.ref b)) Q E s:=by
 obtain ⟨⟨cls,dd,data,sl⟩,ho,hc,n,hd⟩:=id ht
 obtain ⟨⟨cls2,dd2,data2,fE⟩,ho2,hc2,n2,hd2⟩:=id hb
 simp only at hc hd hc2 hd2
 subst hc hd hc2 hd2
 have e:vs.toArray++ws.toArray=(vs++ws).toArray:=by simp
 by_cases hw:ws=[]
 ·exact concat_meets ⟨_,ho,rfl⟩ ⟨_,ho2,rfl⟩ noFill_tuple_add seq_tuple_add yP yI (yD _ _)
   (tuple_addW1 t b vs.toArray ws.toArray n n2 dd dd2 sl fE (by simpa using hv) (by simp [hw])) ⟨ho,ho2,h1 hw⟩
 ·refine concat_meets ⟨_,ho,rfl⟩ ⟨_,ho2,rfl⟩ noFill_tuple_add seq_tuple_add yP yI (yD _ _)
   (tuple_addW2 t b vs.toArray ws.toArray n n2 dd dd2 sl fE (by simpa using hv) (by simpa using hw) (by rw [wa,wa]; exact hsz)) ⟨ho,ho2,?_⟩
  rw [e]
  exact h2 hw
noncomputable def aU (n d:Nat):Option Int->Nat
 | none=>d
 | some v=>if v < 0 then (v+(n:Int)).toNat else min v.toNat n
theorem sG (n d:Nat):aU n d none=d:=rfl
theorem ky (n d k:Nat):aU n d (some (k:Int))=min k n:=by
 show (if (k:Int) < 0 then ((k:Int)+(n:Int)).toNat else min (k:Int).toNat n)=min k n
 rw [if_neg (by omega),wD]
theorem ZkC (n d:Nat) (hd:d<=n) (o:Option Int):aU n d o<=n:=by
 cases o with
 | none=>exact hd
 | some v =>
  show (if v < 0 then (v+(n:Int)).toNat else min v.toNat n)<=n
  by_cases hv:v < 0
  ·rw [if_pos hv]; omega
  ·rw [if_neg hv]; exact zj _ _
theorem Zh0 (v:Int) (n d:Nat):(if v < 0 then max (v+(n:Int)) 0 else min v (n:Int))=((aU n d (some v):Nat):Int):=by
 show (if v < 0 then max (v+(n:Int)) 0 else min v (n:Int))=(((if v < 0 then (v+(n:Int)).toNat else min v.toNat n):Nat):Int)
 by_cases hv:v < 0
 ·rw [if_pos hv,if_pos hv,Int.ofNat_toNat]
 ·rw [if_neg hv,if_neg hv]
  obtain ⟨k,rfl⟩:=xq (Int.not_lt.mp hv)
  rw [wD,<- zM]
theorem ZqF (lo hi:Option Int) (n:Nat):Builtin.Slice.sliceAdjust lo hi 1 (n:Int)=(((aU n 0 lo:Nat):Int),((aU n n hi:Nat):Int)):=by
 have h1:¬ ((1:Int) < 0):=by omega
 unfold Builtin.Slice.sliceAdjust
 simp only [h1,if_false]
 refine Prod.ext ?_ ?_
 ·cases lo with
  | none=>rfl
  | some v=>exact Zh0 v n 0
 ·cases hi with
  | none=>rfl
  | some v=>exact Zh0 v n n
theorem Zlq (i j:Nat):Builtin.Slice.slicePlaces (i:Int) (j:Int) 1=j - i:=by
 unfold Builtin.Slice.slicePlaces
 have h1:(1:Int) > 0:=by omega
 simp only [h1,if_true,Int.ediv_one]
 split <;> omega
theorem ZaW {v:Value} {o:Option Int} {Q:Option Int->Shared->Prop} (p:IsPart v o) (h:Q o s):wpAny (model prog w) A (Builtin.Slice.slicePartIndex v) Q E s:=by
 cases p with
 | none=>exact slicePart_none h
 | int i t=>exact slicePart_int h
theorem ZaY {sl:Addr} {vl vu:Value} {lo hi:Option Int} {n:Nat} {Q:Int×Int×Nat->Shared->Prop} (hs:s.heap.IsSliceOf sl vl vu .none) (pl:IsPart vl lo) (pu:IsPart vu hi)
  (h:Q (((aU n 0 lo:Nat):Int),1,aU n n hi - aU n 0 lo) s):wpAny (model prog w) A (Builtin.Slice.sliceApplied (.ref sl) (pure (n:Int))) Q E s:=by
 obtain ⟨os,hos,hcs,hds⟩:=id hs
 unfold Builtin.Slice.sliceApplied Builtin.Slice.sliceFields
 refine wpAny_bind (wpAny_bind (wpAny_field hos hds (x:=vl) rfl (wpAny_bind (wpAny_field hos hds (x:=vu) rfl (wpAny_bind (wpAny_field hos hds (x:=.none) rfl (wpAny_pure ?_)))))))
 refine wpAny_bind (slicePart_none ?_)
 show wpAny _ _ (if ((1:Int) == 0)=true then _ else _) _ _ s
 rw [if_neg (by decide)]
 refine wpAny_bind (ZaW pl (wpAny_bind (ZaW pu (wpAny_bind (wpAny_pure ?_)))))
 show wpAny _ _ (match Builtin.Slice.sliceAdjust lo hi 1 (n:Int) with | (lo,hi)=>pure (lo,(1:Int),Builtin.Slice.slicePlaces lo hi 1)) _ _ s
 rw [ZqF lo hi n]
 show wpAny _ _ (pure (((aU n 0 lo:Nat):Int),(1:Int),Builtin.Slice.slicePlaces ((aU n 0 lo:Nat):Int) ((aU n n hi:Nat):Int) 1)) _ _ s
 rw [Zlq]
 exact wpAny_pure h
theorem Zlr (xs:Array Value) (i k:Nat):((List.range k).filterMap λ(m:Nat)=>xs[((i:Int)+(m:Int) * 1).toNat]?).toArray=((xs.toList.drop i).take k).toArray:=by
 have e:(λ(m:Nat)=>xs[((i:Int)+(m:Int) * 1).toNat]?)=λm=>xs[i+m]?:=by
  funext m
  have:((i:Int)+(m:Int) * 1).toNat=i+m:=by omega
  rw [this]
 rw [e]
 have:=pick_run xs i k
 rw [List.filterMap_map] at this
 have e2:((λx=>xs[x]?) ∘ λx=>i+x)=λm=>xs[i+m]?:=rfl
 rw [e2] at this
 rw [this]
theorem ZnE {t sl:Addr} {items:Array Value} {vl vu:Value} {lo hi:Option Int} {Q:z0} (ht:IsTup s.heap t items) (hs:s.heap.IsSliceOf sl vl vu .none) (pl:IsPart vl lo) (pu:IsPart vu hi)
  (hw:¬ (aU items.size 0 lo=0/\aU items.size items.size hi=items.size))
  (h:Q (.ref s.heap.objs.size) { s with heap:=s.heap.push { cls:=.type "tuple",data:=.seq ((items.toList.drop (aU items.size 0 lo)).take (aU items.size items.size hi - aU items.size 0 lo)).toArray } })
  (hsz:items.size<=sizeLine):wpAny (model prog w) A (getItem (.ref t) (.ref sl)) Q E s:=by
 have htake:sizeOk (.seq ((items.toList.drop (aU items.size 0 lo)).take (aU items.size items.size hi - aU items.size 0 lo)).toArray):=by
  show ((items.toList.drop (aU items.size 0 lo)).take (aU items.size items.size hi - aU items.size 0 lo)).toArray.size<=sizeLine
  rw [wa,wE,xf,y9]
  exact wv (zj _ _) (wv (Nat.sub_le _ _) hsz)
 have hj:aU items.size items.size hi<=items.size:=ZkC _ _ (v4 _) hi
 obtain ⟨os,hos,hcs,hds⟩:=id hs
 have hTs:s.TypeIs (.ref sl) "slice":=⟨os,hos,hcs⟩
 unfold getItem
 try with_reducible refine wpAny_holding ?_
 first | refine wpAny_bind (wpAny_pure ?_) | skip
 refine wpAny_bind (wpAny_sequenceKey ht.typeIs (by decide) ?_)
 refine wpAny_bind (wpAny_callSpecial?_slot (name:=Str.ofString "__getitem__") ht.typeIs xI
  (wpAny_call_entry xI ht.typeIs entry_tuple_getitem ?_ (args_tuple_getitem _ _)))
 show wpAny _ _ (Builtin.Tuple.tupleItemsOf (.ref t) >>= _) _ _ s
 refine wpAny_bind (tupleItemsOf_ ht ?_)
 refine wpAny_bind (wpAny_typeOf hTs ?_)
 rw [if_pos (by decide)]
 refine wpAny_bind (ZaY hs pl pu ?_)
 have hno:¬ ((((aU items.size 0 lo:Nat):Int) == 0 && (1:Int) == 1 && (aU items.size items.size hi - aU items.size 0 lo) == items.size)=true):=by
  intro q
  rw [wl,wl] at q
  have q1:((aU items.size 0 lo:Nat):Int)=0:=eq_of_beq q.1.1
  have q2:aU items.size items.size hi - aU items.size 0 lo=items.size:=eq_of_beq q.2
  exact hw ⟨by omega,by omega⟩
 show wpAny _ _ (if (((aU items.size 0 lo:Nat):Int) == 0 && (1:Int) == 1 && (aU items.size items.size hi - aU items.size 0 lo) == items.size)=true then _ else _) _ _ s
 rw [if_neg hno,Zlr]
 first
  | exact wpAny_bind (m:=Builtin.Tuple.tupleExact _) (wpAny_newObj_type (wpAny_pure ⟨_,rfl,wpAny_pure h⟩) htake)
  | exact wpAny_bind (m:=Builtin.Tuple.tupleExact _) (wpAny_newObj_type (wpAny_bind (wpAny_pure (wpAny_pure ⟨_,rfl,wpAny_pure h⟩))) htake)
  | exact wpAny_bind (wpAny_bind (m:=Builtin.Tuple.tupleExact _) (wpAny_newObj_type (wpAny_pure (wpAny_pure ⟨_,rfl,wpAny_pure h⟩)) htake))
  | exact wpAny_bind (wpAny_bind (m:=Builtin.Tuple.tupleExact _) (wpAny_newObj_type (wpAny_pure ⟨_,rfl,wpAny_pure h⟩) htake))
end
end HT
namespace L2
noncomputable abbrev TO:=St->Hp->(Option Int->Hp->Prop)->Prop
noncomputable def PO (X:Cx) (e:Option Expr) (t:TO):Prop :=
 ∀ (pins:List (Addr×Obj)) (s:Shared) (σ:St) (H:Hp) (Q:Option Int->Hp->Prop),Inv X pins σ H s->t σ H Q ->
  wpAny (model X.prog X.w) X.A (evalPart e X.env) (λu s'=>∃ o H',Inv X pins σ H' s'/\IsPart u o/\Q o H') X.xe s
noncomputable def ZjB:TO:=λ_ H Q=>Q none H
noncomputable def Zjx (t:TE):TO:=λσ H Q=>t σ H λx H1=>∃ i,x=.int i/\Q (some i) H1
theorem ZdY {ns:Aa}:∀ {us:Ab},Vals (ns.map V.int) us->IntsAre us ns:=by
 induction ns with
 | nil=>intro us r; rw [xR] at r; cases r; exact .nil
 | cons n ns ih =>
  intro us r
  rw [v9] at r
  cases r with
  | cons r1 r2 =>
   obtain ⟨t,e⟩:=r1
   subst e
   exact .cons n t (ih r2)
section
variable {X:Cx} {e:Expr} {te:TE} {lo hi:Option Expr} {tl th:TO} {pos p2:Pos}
theorem ZcE:PO X none ZjB:=by
 intro pins s σ H Q I h
 rw [evalPart_none]
 exact wpAny_pure ⟨none,H,I,.none,h⟩
theorem ZcD (h:PE X e te):PO X (some e) (Zjx te):=by
 intro pins s σ H Q I hw
 rw [evalPart_some]
 refine thn (h pins s σ H _ I hw) λu s1 hz0=>?_
 obtain ⟨x,H1,I1,r1,q1⟩:=hz0
 obtain ⟨i,rfl,q⟩:=q1
 obtain ⟨t,rfl⟩:=r1
 exact ⟨some i,H1,I1,.int i t,q⟩
noncomputable def SlR (X:Cx) (r:V->Option Int->Option Int->Hp->VK->Prop):Prop :=
 ∀ (pins:List (Addr×Obj)) (s:Shared) (σ:St) (H:Hp) (x:V) (v vl vu:Value) (lo hi:Option Int) (sl:Addr) (Q:VK),Inv X pins σ H s->RelV x v->s.heap.IsSliceOf sl vl vu .none->IsPart vl lo->IsPart vu hi->r x lo hi H Q ->
  ∃ T id,typeLookup (.type T) "__getitem__"=pure (some (.builtin id))/\s.TypeIs v T/\wpAny (model X.prog X.w) X.A (getItem v (.ref sl)) (EP X pins σ Q) X.xe s
theorem SlR.or {r r':V->Option Int->Option Int->Hp->VK->Prop} (h:SlR X r) (h':SlR X r'):SlR X (λx lo hi H Q=>r x lo hi H Q\/r' x lo hi H Q):=by
 intro pins s σ H x v vl vu lo hi sl Q I rx hs pl pu q
 rcases q with q | q
 ·exact h pins s σ H x v vl vu lo hi sl Q I rx hs pl pu q
 ·exact h' pins s σ H x v vl vu lo hi sl Q I rx hs pl pu q
def tSl (r:V->Option Int->Option Int->Hp->VK->Prop) (te:TE) (tl th:TO):TE:=λσ H Q=>te σ H λx H1=>tl σ H1 λl H2=>th σ H2 λu H3=>r x l u H3 Q
theorem ZcM {r:V->Option Int->Option Int->Hp->VK->Prop} (hr:SlR X r) (he:PE X e te) (hl:PO X lo tl) (hu:PO X hi th):PE X (.Subscript e (.Slice lo hi none p2) pos) (tSl r te tl th):=by
 intro pins s σ H Q I h
 refine Subscript_ (thn (he pins s σ H _ I h) λv s1 hz0=>?_)
 obtain ⟨x,H1,I1,r1,q1⟩:=hz0
 refine wpAny_Slice (thn (hl pins s1 σ H1 _ I1 q1) λvl s2 ⟨l,H2,I2,pl,q2⟩=>thn (hu pins s2 σ H2 _ I2 q2) λvu s3 hz0=>?_)
 obtain ⟨u,H3,I3,pu,q3⟩:=hz0
 rw [evalPart_none]
 refine wpAny_pure ?_
 have I4:Inv X pins σ H3 { s3 with heap:=s3.heap.push { cls:=.type "slice",data:=.fields #[vl,vu,.none] } }:=I3.kept (t':=s3.toks) λb ob q=>vY _ q
 obtain ⟨T,id,hT,ht,hg⟩:=hr pins { s3 with heap:=s3.heap.push { cls:=.type "slice",data:=.fields #[vl,vu,.none] } } σ H3 x v vl vu l u s3.heap.objs.size Q I4 r1 (Heap.IsSliceOf.new ..) pl pu q3
 show wpAny (model X.prog X.w) X.A (subscriptTail e (.Slice lo hi none p2) v (.ref s3.heap.objs.size)) (EP X pins σ Q) X.xe { s3 with heap:=s3.heap.push { cls:=.type "slice",data:=.fields #[vl,vu,.none] } }
 exact tail_any (ops:=[.ref s3.heap.objs.size,v]) ht hT hg (by with_unfolding_all rfl)
noncomputable def fP (xs:Ad) (lo hi:Option Int):Ad:=(xs.drop (HT.aU xs.length 0 lo)).take (HT.aU xs.length xs.length hi - HT.aU xs.length 0 lo)
theorem ZhW (xs:Ad) (lo hi:Option Int):(fP xs lo hi).length<=xs.length:=by
 unfold fP
 rw [wE,xf]
 exact wv (zj _ _) (Nat.sub_le _ _)
noncomputable def Zcf (K:zR):V->Option Int->Option Int->Hp->VK->Prop:=λx lo hi H Q=>∃ a xs,x=.ref a/\SqT K H a xs /\
 ¬ (HT.aU xs.length 0 lo=0/\HT.aU xs.length xs.length hi=xs.length)/\∀ p,H p=none->Q (.ref p) (upd H p (.tup (fP xs lo hi)))
theorem Zj9:SlR X (Zcf X.K):=by
 intro pins s σ H x v vl vu lo hi sl Q I rx hs pl pu h
 obtain ⟨a,xs,rfl,hx,hw,q⟩:=h
 cases rx
 obtain ⟨its,r,ht,hz⟩:=I.tuple hx
 have hlen:its.toArray.size=xs.length:=by rw [wa]; exact r.length.symm
 refine ⟨"tuple",_,PyProof.Rows.slot_tuple_getitem.lookup,ht.typeIs,?_⟩
 refine HT.ZnE ht hs pl pu (by rw [hlen]; exact hw) ?_ (by rw [hlen]; exact hz)
 rw [hlen]
 refine ⟨.ref s.heap.objs.size,_,I.laid (t':=s.toks) (o:=.tup (fP xs lo hi)) (λb ob q=>vY _ q) (v4 _) ?_,rfl,q _ (I.hok.fresh (v4 _))⟩
 exact ⟨wv (ZhW xs lo hi) hz,_,(r.drop (HT.aU xs.length 0 lo)).take (HT.aU xs.length xs.length hi - HT.aU xs.length 0 lo),IsTup.new _ _⟩
noncomputable def Zcu (K:zR):R2:=λx y H Q=>∃ a b xs ys,x=.ref a/\y=.ref b/\SqT K H a xs/\SqT K H b ys/\xs≠[]/\xs.length+ys.length<=sizeLine /\
 (ys=[]->Q (.ref a) H)/\(ys≠[]->∀ p,H p=none->Q (.ref p) (upd H p (.tup (xs++ys))))
theorem Vals.nil_iff {xs:Ad} {us:Ab} (r:Vals xs us):us=[] ↔ xs=[]:=by
 cases r with
 | nil=>simp
 | cons _ _=>simp
theorem Zl4:OpR X (binaryOp .Add) (Zcu X.K):=by
 intro pins s σ H x y v u Q I rx ry h
 obtain ⟨a,b,xs,ys,rfl,rfl,ha,hb,hx,hz,q1,q2⟩:=h
 cases rx
 cases ry
 obtain ⟨its,r1,p1,_⟩:=I.tuple ha
 obtain ⟨its2,r2,p2,_⟩:=I.tuple hb
 refine HT.Zpx p1 p2 (λz=>hx (r1.nil_iff.mp z)) (λz=>⟨.ref a,H,I,rfl,q1 (r2.nil_iff.mp z)⟩) (λz=>?_) (by rw [<- r1.length,<- r2.length]; exact hz)
 refine ⟨.ref s.heap.objs.size,_,I.laid (t':=s.toks) (o:=.tup (xs++ys)) (λb ob q=>vY _ q) (v4 _) ?_,rfl,q2 (λw=>z (r2.nil_iff.mpr w)) _ (I.hok.fresh (v4 _))⟩
 exact ⟨by rw [wu]; exact hz,_,r1.append r2,IsTup.new _ _⟩
end
noncomputable def de (n:Nat) (i:Int):Option Nat:=if 0<=i then (if i < n then some i.toNat else none) else if -(n:Int)<=i then some (i+n).toNat else none
noncomputable def bf {α:Type} (xs:List α) (i:Int):Option α:=(de xs.length i).bind λj=>xs[j]?
theorem ZdQ {n:Nat} {i:Int} {j:Nat} (h:de n i=some j):seqIndex? i n=some j/\j < n/\-(n:Int)<=i/\i < n:=by
 unfold de at h
 by_cases h0:0<=i
 ·rw [if_pos h0] at h
  by_cases h1:i < n
  ·rw [if_pos h1] at h
   have e:i.toNat=j:=wG h
   exact ⟨by rw [seqIndex_of h0 h1,e],by omega,by omega,h1⟩
  ·rw [if_neg h1] at h; cases h
 ·rw [if_neg h0] at h
  by_cases h1:-(n:Int)<=i
  ·rw [if_pos h1] at h
   have e:(i+n).toNat=j:=wG h
   exact ⟨by rw [seqIndex_neg (by omega) h1,e],by omega,h1,by omega⟩
  ·rw [if_neg h1] at h; cases h
theorem qr {α:Type} {xs:List α} {i:Int} {v:α} (h:bf xs i=some v):∃ j,seqIndex? i xs.length=some j/\xs[j]?=some v/\j < xs.length/\-(xs.length:Int)<=i/\i < xs.length:=by
 unfold bf at h
 cases e:de xs.length i with
 | none=>rw [e] at h; cases h
 | some j =>
  rw [e] at h
  obtain ⟨h1,h2,h3,h4⟩:=ZdQ e
  exact ⟨j,h1,h,h2,h3,h4⟩
theorem gu {α:Type} {xs:List α} {j:Nat} {v:α} (h:xs[j]?=some v):bf xs (j:Int)=some v:=by
 have hj:j < xs.length:=(v8.mp h).1
 have e:de xs.length (j:Int)=some j:=by
  unfold de
  rw [if_pos (by omega),if_pos (by omega)]; simp
 unfold bf; rw [e]; exact h
def qO (b:Expr):Prop:=∀ o i,subscripted b false o i=operate [o,i] (getItem o i)
noncomputable def IxR (X:Cx) (r:R2):Prop :=
 ∀ (value slice:Expr) (pins:List (Addr×Obj)) (s:Shared) (σ:St) (H:Hp) (x y:V) (v u:Value) (Q:VK),Inv X pins σ H s->RelV x v->RelV y u->r x y H Q ->
  subscripted slice false v u=operate [v,u] (getItem v u)->wpAny (model X.prog X.w) X.A (subscriptTail value slice v u) (EP X pins σ Q) X.xe s
noncomputable def MtR (X:Cx) (id:String) (r:V->List V->Hp->VK->Prop):Prop :=
 ∀ (pins:List (Addr×Obj)) (s:Shared) (σ:St) (H:Hp) (x:V) (xs:Ad) (v:Value) (us:Ab) (Q:VK),Inv X pins σ H s->RelV x v->Vals xs us->r x xs H Q ->
  wpAny (model X.prog X.w) X.A (call (.builtin id) (v::us)) (EP X pins σ Q) X.xe s
section
variable {X:Cx} {a b:Expr} {ta tb:TE} {pos:Pos}
theorem IxR.or {r r':R2} (h:IxR X r) (h':IxR X r'):IxR X (λx y H Q=>r x y H Q\/r' x y H Q):=by
 intro value slice pins s σ H x y v u Q I rx ry q hs
 rcases q with q | q
 ·exact h value slice pins s σ H x y v u Q I rx ry q hs
 ·exact h' value slice pins s σ H x y v u Q I rx ry q hs
theorem oF {r:R2} (hr:IxR X r) (ha:PE X a ta) (hb:PE X b tb) (hs:qO b):PE X (.Subscript a b pos) (jz r ta tb):=by
 intro pins s σ H Q I h
 exact Subscript_ (u7 ha hb I h λv u s2 x y H2 I2 rx ry q=>hr a b pins s2 σ H2 x y v u Q I2 rx ry q (hs _ _))
noncomputable def sR (K:zR):R2:=λx y H Q=>∃ p xs i v,x=.ref p/\y=.int i/\SqL K H p xs/\bf xs i=some v/\Q v H
noncomputable def Zco (K:zR):R2:=λx y H Q=>∃ p xs i v,x=.ref p/\y=.int i/\SqT K H p xs/\bf xs i=some v/\Q v H
noncomputable def Zcp:R2:=λx y H Q=>∃ z i c,x=.str z/\y=.int i/\z.length<=sizeLine/\bf z.cps.toList i=some c/\Q (.str ⟨#[c]⟩) H
theorem ue:IxR X (sR X.K):=by
 intro value slice pins s σ H x y v u Q I rx ry h hs
 obtain ⟨p,xs,i,z,rfl,rfl,hq,he,q⟩:=h
 cases rx
 obtain ⟨t,rfl⟩:=ry
 obtain ⟨its,r,pl,hz⟩:=I.list hq
 obtain ⟨j,h1,h2,h3,h4,h5⟩:=qr he
 obtain ⟨w,ew,rw'⟩:=r.get h2
 have hl:=r.length
 have hn:=i8
 have fin:EP X pins σ Q w s:=⟨z,H,I,rw',q⟩
 by_cases h0:0<=i
 ·have hj:i.toNat=j:=by
   rw [seqIndex_of h0 h5] at h1
   exact wG h1
  exact item_listR pl.isList h0 (by omega) (by rw [hj]; simpa using ew) fin hs
 ·have hj:(i+(its.toArray.size:Int)).toNat=j:=by
   rw [seqIndex_neg (by omega) h4] at h1
   rw [wa,<- hl]
   exact wG h1
  exact subscriptTail_builtinR (x:=w) pl.isList.typeIs slot_list_getitem.lookup
   (wpAny_getItem_list_neg (Q:=λr s'=>r=w/\EP X pins σ Q r s') pl.isList (by omega) (by rw [wa] <;> omega) (by omega) (by rw [hj]; simpa using ew) ⟨rfl,fin⟩) hs
theorem ZdP:IxR X (Zco X.K):=by
 intro value slice pins s σ H x y v u Q I rx ry h hs
 obtain ⟨p,xs,i,z,rfl,rfl,hq,he,q⟩:=h
 cases rx
 obtain ⟨t,rfl⟩:=ry
 obtain ⟨its,r,pl,hz⟩:=I.tuple hq
 obtain ⟨j,h1,h2,h3,h4,h5⟩:=qr he
 obtain ⟨w,ew,rw'⟩:=r.get h2
 have hl:=r.length
 have hn:=i8
 have fin:EP X pins σ Q w s:=⟨z,H,I,rw',q⟩
 exact subscriptTail_builtinR (x:=w) pl.typeIs slot_tuple_getitem.lookup
  (getItem_tuple (j:=j) (Q:=λr s'=>r=w/\EP X pins σ Q r s') pl (by omega) (by omega) (by rw [wa,<- hl]; exact h1) (by simpa using ew) ⟨rfl,fin⟩) hs
theorem Znn:IxR X Zcp:=by
 intro value slice pins s σ H x y v u Q I rx ry h hs
 obtain ⟨z,i,c,rfl,rfl,hz,he,q⟩:=h
 obtain ⟨t,rfl⟩:=rx
 obtain ⟨t',rfl⟩:=ry
 obtain ⟨j,h1,h2,h3,h4,h5⟩:=qr he
 have hl:z.cps.toList.length=z.length:=by simp [Str.length]
 rw [hl] at h1 h4 h5
 have hn:=i8
 exact tail_any (typeIs_str s z t) slot_str_getitem.lookup (getItem_str (c:=c) (by
  have e1:decide (i < -(2 ^ 63:Int))=false:=decide_eq_false (by omega)
  have e2:decide (i ≥ 2 ^ 63)=false:=decide_eq_false (by omega)
  rw [e1,e2,Bool.or_false]) (by rw [h1]; simpa using h2) ⟨.str ⟨#[c]⟩,H,I.tok _,⟨_,rfl⟩,q⟩) hs
noncomputable def rIx (K:zR):R2:=λx y H Q=>sR K x y H Q\/Zco K x y H Q\/Zcp x y H Q
theorem aF:IxR X (rIx X.K):=ue.or (ZdP.or Znn)
theorem ZmK (its:Ab) (n j:Nat) (u:Value):Obj.mapSeq (·.setIfInBounds j u) { cls:=.type "list",data:=.seq its.toArray n }={ cls:=.type "list",data:=.seq (its.set j u).toArray n }:=by
 simp [Obj.mapSeq]
theorem Inv.lst {pins:List (Addr×Obj)} {σ:St} {H:Hp} {s:Shared} {p:Addr} {xs:Ad} (I:Inv X pins σ H s) (h:H p=some (.lst xs)) :
  ∃ (its:Ab) (n:Nat),Vals xs its/\s.heap.get? p=some { cls:=.type "list",data:=.seq its.toArray n }/\xs.length<=sizeLine:=by
 obtain ⟨z,its,n,r,e⟩:=I.hok p _ h
 exact ⟨its,n,r,e,z⟩
theorem Inv.lstUpd {pins:List (Addr×Obj)} {σ:St} {H:Hp} {s:Shared} {p:Addr} {xs ys:Ad} {its its':Ab} {n n':Nat} {f:Obj->Obj} (I:Inv X pins σ H s) (h:H p=some (.lst xs))
  (ho:s.heap.get? p=some { cls:=.type "list",data:=.seq its.toArray n }) (hf:f { cls:=.type "list",data:=.seq its.toArray n }={ cls:=.type "list",data:=.seq its'.toArray n' }) (r:Vals ys its') (hz:ys.length<=sizeLine) (t:Nat) :
  Inv X pins σ (upd H p (.lst ys)) { s with heap:=s.heap.update p f,toks:=t }:=by
 have e:(s.heap.update p f).get? p=some { cls:=.type "list",data:=.seq its'.toArray n' }:=by
  rw [xL f ho (by rw [hf] <;> rfl),hf]
 refine I.write (x:=p) (e:=p) (by rw [h]; trivial) (.inl rfl) (λb u hb q=>(wY _ _ (Ne.symm hb)).trans q) ⟨_,e⟩ ?_
 exact ⟨hz,its',n',r,e⟩
noncomputable def sP:V->V->V->Hp->(Hp->Prop)->Prop:=λo i v H Q=>∃ p xs k j,o=.ref p/\i=.int k/\H p=some (.lst xs)/\de xs.length k=some j/\Q (upd H p (.lst (xs.set j v)))
theorem lS:vS X sP:=by
 intro pins s σ H o i v ov iv u Q I ro ri rv h
 obtain ⟨p,xs,k,j,rfl,rfl,hp,hj,q⟩:=h
 cases ro
 obtain ⟨t,rfl⟩:=ri
 obtain ⟨its,n,r,ho,hz⟩:=I.lst hp
 obtain ⟨h1,h2,h3,h4⟩:=ZdQ hj
 have hl:=r.length
 have hn:=i8
 have I':Inv X pins σ (upd H p (.lst (xs.set j v))) { s with heap:=s.heap.update p (Obj.mapSeq (·.setIfInBounds j u)) } :=
  I.lstUpd hp ho (ZmK its n j u) (r.set rv j) (by rw [wx]; exact hz) s.toks
 by_cases h0:0<=k
 ·have hk:k.toNat=j:=by
   rw [seqIndex_of h0 h4] at h1
   exact wG h1
  exact PySem.W.ki_setAt ho h0 (by omega) (by rw [wa,<- hl]; exact h4) (by rw [hk]; exact ⟨_,I',q⟩)
 ·have hk:(k+(its.toArray.size:Int)).toNat=j:=by
   rw [seqIndex_neg (by omega) h3] at h1
   rw [wa,<- hl]
   exact wG h1
  exact PySem.W.ki_setBack ho (by omega) (by rw [wa,<- hl]; exact h3) (by omega) (by rw [hk]; exact ⟨_,I',q⟩)
theorem ZhU {n:Nat} {i:Int} (h:i < 0):max 0 (min (i+(n:Int)) n)=(((i+n).toNat:Nat):Int):=by
 rw [Int.min_eq_left (by omega),Int.ofNat_toNat,Int.max_comm]
theorem ZhV {n:Nat} {i:Int} (h:¬ i < 0):max 0 (min i (n:Int))=((min i.toNat n:Nat):Int):=by
 obtain ⟨k,rfl⟩:=xq (Int.not_lt.mp h)
 rw [wD,<- zM]
 exact Int.max_eq_right (xC _)
theorem Zj6 (lo hi:Option Int) (n:Nat):(sliceBounds lo hi none n).1=((HT.aU n 0 lo:Nat):Int)/\(sliceBounds lo hi none n).2.1=((HT.aU n n hi:Nat):Int)/\(sliceBounds lo hi none n).2.2=1:=by
 refine ⟨?_,?_,rfl⟩
 ·cases lo with
  | none=>simp [sliceBounds,HT.aU]
  | some i =>
   simp only [sliceBounds,HT.aU,Option.getD_none,show (1:Int) > 0 by decide,if_true]
   by_cases h:i < 0
   ·simp only [h,if_true]
    exact ZhU h
   ·simp only [h,if_false]
    exact ZhV h
 ·cases hi with
  | none=>simp [sliceBounds,HT.aU]
  | some i =>
   simp only [sliceBounds,HT.aU,Option.getD_none,show (1:Int) > 0 by decide,if_true]
   by_cases h:i < 0
   ·simp only [h,if_true]
    exact ZhU h
   ·simp only [h,if_false]
    exact ZhV h
theorem Zj7 (its:Ab) (lo hi:Option Int):slicePick its.toArray lo hi none=((its.drop (HT.aU its.length 0 lo)).take (HT.aU its.length its.length hi - HT.aU its.length 0 lo)).toArray:=by
 obtain ⟨h1,h2,h3⟩:=Zj6 lo hi its.toArray.size
 unfold slicePick
 rw [h1,h2,h3]
 simp only [sliceRange_one,pick_run,wa] <;> rfl
noncomputable def Zcg (K:zR):V->Option Int->Option Int->Hp->VK->Prop:=λx lo hi H Q=>∃ a xs,x=.ref a/\SqL K H a xs/\∀ p,H p=none->Q (.ref p) (upd H p (.lst (fP xs lo hi)))
theorem ZaZ:SlR X (Zcg X.K):=by
 intro pins s σ H x v vl vu lo hi sl Q I rx hs pl pu h
 obtain ⟨a,xs,rfl,hx,q⟩:=h
 cases rx
 obtain ⟨its,r,ht,hz⟩:=I.list hx
 have hlen:=r.length
 refine ⟨"list",_,slot_list_getitem.lookup,ht.isList.typeIs,?_⟩
 refine wpAny_getItem_list_slice ht.isList hs pl pu .none (by simp) ?_ (by rw [wa] <;> omega)
 rw [Zj7,<- hlen]
 refine ⟨.ref s.heap.objs.size,_,I.laid (t':=s.toks) (o:=.lst (fP xs lo hi)) (λb ob q=>vY _ q) (v4 _) ?_,rfl,q _ (I.hok.fresh (v4 _))⟩
 exact ⟨wv (ZhW xs lo hi) hz,_,0,(r.drop (HT.aU xs.length 0 lo)).take (HT.aU xs.length xs.length hi - HT.aU xs.length 0 lo),v7 _ rfl⟩
theorem c6:dM X (.builtin "len") (λxs H Q=>∃ p ys,xs=[.ref p]/\(SqL X.K H p ys\/SqT X.K H p ys)/\Q (.int ys.length) H):=by
 intro pins s σ H xs us Q I r h
 obtain ⟨p,ys,rfl,hq,q⟩:=h
 obtain ⟨u,rfl,rx⟩:=eB r
 cases rx
 have hn:=i8
 rcases hq with hq | hq
 ·obtain ⟨its,r',pl,hz⟩:=I.list hq
  have hlen:=r'.length
  exact Calls.call_len_list pl.isList (by simp only [wa] <;> omega) ⟨.int ys.length,H,I.tok _,⟨s.toks+1,by rw [wa,hlen]⟩,q⟩
 ·obtain ⟨its,r',pl,hz⟩:=I.tuple hq
  have hlen:=r'.length
  exact len_tuple pl (by simp only [wa] <;> omega) ⟨.int ys.length,H,I.tok _,⟨s.toks+1,by rw [wa,hlen]⟩,q⟩
theorem qd:dM X (.type "list") (λxs H Q=>∃ p ys,xs=[.ref p]/\(SqL X.K H p ys\/SqT X.K H p ys)/\∀ l,H l=none->Q (.ref l) (upd H l (.lst ys))):=by
 intro pins s σ H xs us Q I r h
 obtain ⟨p,ys,rfl,hq,q⟩:=h
 obtain ⟨u,rfl,rx⟩:=eB r
 cases rx
 have fin:∀ (its:Ab),Vals ys its->ys.length<=sizeLine->∀ (h':Heap) (c':Nat),(∀ b o',s.heap.get? b=some o'->h'.get? b=some o') ->
   h'.get? s.heap.objs.size=some { cls:=.type "list",dict:=none,data:=.seq its.toArray c',slots:=#[] }->EP X pins σ Q (.ref s.heap.objs.size) { s with heap:=h' }:=λits r' hz h' c' kp e =>
  ⟨.ref s.heap.objs.size,_,I.laid (t':=s.toks) kp (v4 _) (show ObjOk X.prog X.w _ h' _ (.lst ys) from ⟨hz,its,c',r',e⟩),rfl,q _ (I.hok.fresh (v4 _))⟩
 rcases hq with hq | hq
 ·obtain ⟨its,r',pl,hz⟩:=I.list hq
  have hlen:=r'.length
  obtain ⟨o,ho,hc,n,hd⟩:=pl.isList
  exact call_list_seq p (.inl rfl) ho hc hd (λh' c' kp e=>fin its r' hz h' c' kp e) (by simp only [wa] <;> omega)
 ·obtain ⟨its,r',pl,hz⟩:=I.tuple hq
  have hlen:=r'.length
  obtain ⟨o,ho,hc,n,hd⟩:=pl
  exact call_list_seq p (.inr rfl) ho hc hd (λh' c' kp e=>fin its r' hz h' c' kp e) (by simp only [wa] <;> omega)
theorem nj:dM X (.type "tuple") (λxs H Q=>∃ p ys,xs=[.ref p]/\((SqL X.K H p ys/\∀ l,H l=none->Q (.ref l) (upd H l (.tup ys)))\/(SqT X.K H p ys/\Q (.ref p) H))):=by
 intro pins s σ H xs us Q I r h
 obtain ⟨p,ys,rfl,h⟩:=h
 obtain ⟨u,rfl,rx⟩:=eB r
 cases rx
 rcases h with ⟨hq,q⟩ | ⟨hq,q⟩
 ·obtain ⟨its,r',pl,hz⟩:=I.list hq
  have hlen:=r'.length
  refine call_tuple_list pl.isList (λh' kp=>?_) (by simp only [wa] <;> omega)
  have I1:Inv X pins σ H { s with heap:=h' }:=I.kept (t':=s.toks) kp
  have I2:Inv X pins σ (upd H h'.objs.size (.tup ys)) { s with heap:=h'.push { cls:=.type "tuple",data:=.seq its.toArray } } :=
   I1.laid (t':=s.toks) (λb o e=>vY _ e) (v4 _) (show ObjOk X.prog X.w _ _ _ (.tup ys) from ⟨hz,its,r',IsTup.new _ _⟩)
  exact ⟨.ref h'.objs.size,_,I2,rfl,q _ (I1.hok.fresh (v4 _))⟩
 ·obtain ⟨its,r',pl,hz⟩:=I.tuple hq
  exact call_tuple_same pl ⟨.ref p,H,I,rfl,q⟩
def rp (K:zR) (T:String) (x:V) (H:Hp):Prop:=match x with
 | .str _=>T="str"
 | .int _=>T="int"
 | .ref p=>(T="list"/\∃ xs,SqL K H p xs)\/(T="tuple"/\∃ o,K.lookup p=some o/\o.cls=.type "tuple"/\o.dict=none) \/
   (T="dict"/\((∃ kvs,H p=some (.dK kvs))\/∃ kvs,H p=some (.dT kvs)))\/(T="set"/\∃ S n,H p=some (.set S n))
 | _=>False
theorem Zap {pins:List (Addr×Obj)} {σ:St} {H:Hp} {s:Shared} {T:String} {x:V} {v:Value} (I:Inv X pins σ H s) (r:RelV x v) (ty:rp X.K T x H) :
  s.TypeIs v T/\∀ a,v=.ref a->∃ ob,s.heap.get? a=some ob/\ob.dict=none:=by
 cases x with
 | str z =>
  obtain ⟨t,rfl⟩:=r
  cases (show T="str" from ty)
  exact ⟨typeIs_str s z t,λ_ e=>nomatch e⟩
 | int i =>
  obtain ⟨t,rfl⟩:=r
  cases (show T="int" from ty)
  exact ⟨typeIs_int s i t,λ_ e=>nomatch e⟩
 | ref p =>
  cases r
  rcases ty with ⟨rfl,xs,hq⟩ | ⟨rfl,o,hk,hc,hd⟩ | ⟨rfl,hk⟩ | ⟨rfl,S,n,hk⟩
  ·obtain ⟨its,_,pl,_⟩:=I.list hq
   refine ⟨pl.isList.typeIs,λa e=>?_⟩
   cases e
   obtain ⟨o,n,e,c,hd,_⟩:=pl
   exact ⟨o,e,hd⟩
  ·refine ⟨⟨o,I.kIn p o hk,hc⟩,λa e=>?_⟩
   cases e
   exact ⟨o,I.kIn _ o hk,hd⟩
  ·have z:∃ o,s.heap.get? p=some o/\o.ExactDict:=by
    rcases hk with ⟨kvs,hk⟩ | ⟨kvs,hk⟩
    ·obtain ⟨_,_,_,_,o,_,_,e,ex,_⟩:=I.hok p _ hk
     exact ⟨o,e,ex⟩
    ·obtain ⟨_,_,_,_,o,_,_,e,ex,_⟩:=I.hok p _ hk
     exact ⟨o,e,ex⟩
   obtain ⟨o,e,ex⟩:=z
   refine ⟨⟨o,e,ex.1⟩,λa e2=>?_⟩
   cases e2
   exact ⟨o,e,ex.2.1⟩
  ·obtain ⟨o,_,_,_,e,ex,_⟩:=I.hok p _ hk
   refine ⟨⟨o,e,ex.1⟩,λa e2=>?_⟩
   cases e2
   exact ⟨o,e,ex.2.1⟩
 | _=>exact False.elim ty
def ZaB (K:zR) (T:String) (r:V->List V->Hp->VK->Prop) (to:TE):TE:=λσ H Q=>to σ H λx H1=>rp K T x H1/\r x [] H1 Q
def tBM (K:zR) (T:String) (r:V->List V->Hp->VK->Prop) (to:TE) (t:TA):TE:=λσ H Q=>to σ H λx H1=>rp K T x H1/\t σ H1 λxs H2=>r x xs H2 Q
variable {o e:Expr} {es:List Expr} {to:TE} {t:TA} {name:Str} {apos cpos:Pos} {T id:String} {r:V->List V->Hp->VK->Prop}
theorem ZlQ (pa:PlainAttrs T) (slot:Slot T name id) (hty:typeOf (.builtin id)=pure (.type "method_descriptor")) (hm:MtR X id r) (ho:PE X o to)
  (hbase:attributeBase o name X.env (eval o X.env)=eval o X.env:=by rfl) (hline:(apos.endLine == cpos.line)=true:=by rfl):PE X (.Call (.Attribute o name apos) [] [] cpos) (ZaB X.K T r to):=by
 intro pins s σ H Q I h
 refine wpAny_Call_method0_late hbase hline (thn (ho pins s σ H _ I h) λv s1 hz0=>?_)
 obtain ⟨x,H1,I1,r1,ty,q1⟩:=hz0
 obtain ⟨h1,h2⟩:=Zap I1 r1 ty
 exact ⟨T,id,pa,slot,hty,h1,h2,Calls.callWith_builtin rfl (PySem.evalArgs_none (hm pins s1 σ H1 x [] v [] Q I1 r1 .nil q1))⟩
theorem mo (pa:PlainAttrs T) (slot:Slot T name id) (hty:typeOf (.builtin id)=pure (.type "method_descriptor")) (hm:MtR X id r) (ho:PE X o to) (ha:PA X (e::es) t)
  (hbase:attributeBase o name X.env (eval o X.env)=eval o X.env:=by rfl)
  (hfew:((backTo cpos (starEach (e::es) X.env)).all (λx=>!x.1) && (backToKw cpos (keywordEach [] X.env)).all (λx=>x.1.isSome)
   && decide ((e::es).length+([]:List Keyword).length+(if ([]:List Keyword).isEmpty then 0 else 1) < 30))=true:=by rfl)
  (hline:(apos.endLine == cpos.line)=true:=by rfl) (hs:starEach (e::es) X.env=(false,eval e X.env)::starEach es X.env:=by rfl) (hplain:(backTo cpos (starEach es X.env)).any (·.1)=false:=by rfl) :
  PE X (.Call (.Attribute o name apos) (e::es) [] cpos) (tBM X.K T r to t):=by
 intro pins s σ H Q I h
 refine wpAny_Call_method_late hbase hfew hline rfl (thn (ho pins s σ H _ I h) λv s1 hz0=>?_)
 obtain ⟨x,H1,I1,r1,ty,q1⟩:=hz0
 obtain ⟨h1,h2⟩:=Zap I1 r1 ty
 refine ⟨T,id,pa,slot,hty,h1,h2,?_⟩
 have hA:=ha cpos pins s1 σ H1 _ I1 q1
 rw [hs] at hA ⊢
 refine Calls.callWith_builtin (by show (false || (backTo cpos (starEach es X.env)).any (·.1))=false; rw [hplain] <;> rfl) (Calls.evalArgs_plain ?_)
 exact thn hA λus s2 hz0=>by
  obtain ⟨vs,H2,I2,r2,q2⟩:=hz0
  exact hm pins s2 σ H2 x vs v us Q I2 r1 r2 q2
end
noncomputable def MtM (X:Cx) (id:String) (r:V->List V->Hp->VK->Prop):Prop :=
 ∀ (pins:List (Addr×Obj)) (s:Shared) (σ:St) (H:Hp) (x:V) (xs:Ad) (v:Value) (us:Ab) (Q:VK),Inv X pins σ H s->RelV x v->Vals xs us->r x xs H Q ->
  wpAny (model X.prog X.w) X.A (call (.builtin id) (v::us)) (EP X pins σ Q) X.xe s
theorem Vals.one {x:V} {us:Ab} (h:Vals [x] us):∃ u,us=[u]/\RelV x u:=by
 cases h with
 | cons r t=>cases t; exact ⟨_,rfl,r⟩
theorem Vals.zero:∀ {us:Ab},Vals [] us->us=[]
 | _,.nil=>rfl
theorem Vals.reverse {xs:Ad} {us:Ab} (h:Vals xs us):Vals xs.reverse us.reverse:=by
 induction h with
 | nil=>exact .nil
 | cons r t ih=>rw [yF,yF]; exact Vals.append ih (.cons r .nil)
theorem Vals.rep {xs:Ad} {us:Ab} (h:Vals xs us):∀ k:Nat,Vals (List.replicate k xs).flatten (List.replicate k us).flatten
 | 0=>.nil
 | k+1=>by
  rw [wI,wI,xa,xa]
  exact Vals.append h (Vals.rep h k)
theorem Zes (its:Ab):∀ (k:Nat) (acc:Ab),
  List.foldl (λx1 x2=>x1++x2) acc.toArray (List.replicate k its.toArray)=(acc++(List.replicate k its).flatten).toArray
 | 0,acc=>by simp
 | k+1,acc=>by
  have e:acc.toArray++its.toArray=(acc++its).toArray:=by simp
  have e2:(acc++its)++(List.replicate k its).flatten=acc++(List.replicate (k+1) its).flatten:=by
   rw [wI,xa,xk]
  rw [<- e2,<- Zes its k (acc++its),<- e,wI,zr]
section
variable {X:Cx} {pins:List (Addr×Obj)} {σ:St} {H:Hp} {s:Shared} {l b:Addr} {xs ys zs:Ad}
theorem Inv.lset {its its':Ab} {n:Nat} {f:Array Value->Array Value} {t':Nat} (I:Inv X pins σ H s) (hH:H l=some (.lst xs))
  (e:s.heap.get? l=some { cls:=.type "list",data:=.seq its.toArray n }) (hf:f its.toArray=its'.toArray) (hv:Vals ys its') (hz:ys.length<=sizeLine) :
  Inv X pins σ (upd H l (.lst ys)) { s with heap:=s.heap.update l (Obj.mapSeq f),toks:=t' }:=by
 have q:=PySem.IsL.update e f
 rw [hf] at q
 refine I.write (x:=l) (e:=l) (by rw [hH]; exact trivial) (.inl rfl) (λb' u hb hu=>(wY s.heap (Obj.mapSeq f) (Ne.symm hb)).trans hu) ⟨_,q⟩ ?_
 exact ⟨hz,its',_,hv,q⟩
theorem Inv.lnew {its:Ab} {t':Nat} (I:Inv X pins σ H s) (hv:Vals ys its) (hz:ys.length<=sizeLine) :
  Inv X pins σ (upd H s.heap.objs.size (.lst ys)) { s with heap:=s.heap.push { cls:=.type "list",data:=.seq its.toArray },toks:=t' } :=
 I.laid (λ_ _ q=>vY _ q) (v4 _) ⟨hz,its,0,hv,v7 _ rfl⟩
theorem Inv.fresh (I:Inv X pins σ H s):H s.heap.objs.size=none:=I.hok.fresh (v4 _)
theorem Inv.lstM (I:Inv X pins σ H s) (hH:H l=some (.lst xs)):xs.length<=sizeLine/\∃ (its:Ab) (n:Nat),Vals xs its/\xs.length=its.length/\s.heap.get? l=some { cls:=.type "list",data:=.seq its.toArray n }:=by
 obtain ⟨z,its,n,r,e⟩:=I.hok l _ hH
 exact ⟨z,its,n,r,r.length,e⟩
theorem Zml {n:Nat} (h:n<=sizeLine):Builtin.List.listTooLong n=false:=by
 unfold Builtin.List.listTooLong
 exact decide_eq_false (by omega)
end
section
variable {X:Cx}
noncomputable def Zcx:V->List V->Hp->VK->Prop:=λx vs H Q=>∃ l xs y,x=.ref l/\vs=[y]/\H l=some (.lst xs)/\xs.length < sizeLine/\Q .non (upd H l (.lst (xs++[y])))
theorem mC:MtM X "list.append" Zcx:=by
 intro pins s σ H x vs v us Q I rx rv h
 obtain ⟨l,xs,y,rfl,rfl,hH,hz,q⟩:=h
 cases rx
 obtain ⟨u,rfl,ru⟩:=rv.one
 obtain ⟨z,its,n,r,hl,e⟩:=I.lstM hH
 refine call_meets F.slot_list_append ⟨_,e,rfl⟩ F.entry_list_append (F.args_list_append_2 _ _) (PySem.list_append l its.toArray n u (by rw [wa]; omega)) ⟨e,?_⟩
 refine ⟨.non,_,I.lset (its':=its++[u]) hH e (by simp) (r.append (.cons ru .nil)) ?_,rfl,q⟩
 rw [wu,List.length_singleton]
 omega
noncomputable def Zch:V->List V->Hp->VK->Prop:=λx vs H Q=>∃ l xs,x=.ref l/\vs=[]/\H l=some (.lst xs)/\Q .non (upd H l (.lst xs.reverse))
theorem Zmx:MtM X "list.reverse" Zch:=by
 intro pins s σ H x vs v us Q I rx rv h
 obtain ⟨l,xs,rfl,rfl,hH,q⟩:=h
 cases rx
 have hus:=rv.zero
 subst hus
 obtain ⟨z,its,n,r,hl,e⟩:=I.lstM hH
 refine call_meets F.slot_list_reverse ⟨_,e,rfl⟩ F.entry_list_reverse (F.args_list_reverse_1 _) (AutoSeq1.list_reverse_list_0 l its.toArray n (by rw [wa]; omega)) ⟨e,?_⟩
 refine ⟨.non,_,I.lset (its':=its.reverse) hH e (by simp) r.reverse ?_,rfl,q⟩
 rw [xY]
 omega
noncomputable def Zcw:R2:=λx y H Q=>∃ l b xs zs,x=.ref l/\y=.ref b/\H l=some (.lst xs)/\H b=some (.lst zs)/\xs.length+zs.length<=sizeLine/\∀ p,H p=none->Q (.ref p) (upd H p (.lst (xs++zs)))
theorem Zl6:OpR X (binaryOp .Add) Zcw:=by
 intro pins s σ H x y v u Q I rx ry h
 obtain ⟨l,b,xs,zs,rfl,rfl,hH,hB,hz,q⟩:=h
 cases rx
 cases ry
 obtain ⟨z,its,n,r,hl,e⟩:=I.lstM hH
 obtain ⟨z2,its2,n2,r2,hl2,e2⟩:=I.lstM hB
 refine PySem.P.add_list e e2 ?_ (by rw [wa,wa]; omega)
 have ea:its.toArray++its2.toArray=(its++its2).toArray:=by simp
 rw [ea]
 exact ⟨.ref _,_,I.lnew (t':=s.toks) (r.append r2) (by rw [wu]; omega),rfl,q _ I.fresh⟩
noncomputable def sQ:R2:=λx y H Q=>∃ l k xs,x=.ref l/\y=.int k/\H l=some (.lst xs)/\-(2 ^ 63)<=k/\k < 2 ^ 63/\xs.length * k.toNat<=sizeLine /\
 ∀ p,H p=none->Q (.ref p) (upd H p (.lst (List.replicate k.toNat xs).flatten))
theorem Zm1 {α:Type} (xs:List α) (k:Nat):(List.replicate k xs).flatten.length=k * xs.length:=by
 induction k with
 | zero=>simp
 | succ k ih=>rw [wI,xa,wu,ih,xP,yx]
theorem ZcV:OpR X (binaryOp .Mult) sQ:=by
 intro pins s σ H x y v u Q I rx ry h
 obtain ⟨l,k,xs,rfl,rfl,hH,h1,h2,hz,q⟩:=h
 cases rx
 obtain ⟨t,rfl⟩:=ry
 obtain ⟨z,its,n,r,hl,e⟩:=I.lstM hH
 have hlen:its.toArray.size * k.toNat<=sizeLine:=by rw [wa,<- hl]; exact hz
 have hcap:¬ its.toArray.size * k.toNat > (2 ^ 63 - 1) / 8:=by
  have:(sizeLine:Nat)<=(2 ^ 63 - 1) / 8:=by decide
  omega
 have hfit:¬ (!Builtin.List.listFitsIndex k)=true:=by
  rw [fitsIndex_both h1 h2]
  exact wj
 have hlong:¬ Builtin.List.listTooLong (its.toArray.size * k.toNat)=true:=by
  rw [Zml hlen]
  exact wj
 have hnew:List.foldl (λx1 x2=>x1++x2) #[] (List.replicate (if its.toArray.isEmpty=true then 0 else k.toNat) its.toArray)=(List.replicate k.toNat its).flatten.toArray:=by
  have f0:∀ m:Nat,List.foldl (λx1 x2=>x1++x2) #[] (List.replicate m its.toArray)=(List.replicate m its).flatten.toArray:=λm=>by
   have:=Zes its m []
   rw [yq] at this
   exact this
  rw [f0]
  cases its with
  | nil=>simp
  | cons a r'=>rw [if_neg (by simp)]
 refine wpAny_binaryOp_repeat_ref (T:="list") (U:="int") (by decide) ⟨_,e,rfl⟩ (λs'=>typeIs_int s' k t) noFill_list_mul F.fills_int_mul F.slot_int_rmul repeat_list F.slot_int_index.lookup
  (call_meets F.slot_int_rmul (typeIs_int s k t) F.entry_int_rmul (F.args_int_rmul_2 _ _) (int___rmul___int_list k t l its.toArray n)
   ⟨e,rfl,⟨_,e,rfl⟩,call_meets F.slot_list_mul ⟨_,e,rfl⟩ F.entry_list_mul (F.args_list_mul_2 _ _) (AutoListH.list___mul___list_int_3 l its.toArray n k t hfit hcap hlong) ⟨e,?_⟩⟩)
 rw [hnew]
 exact ⟨.ref _,_,I.lnew (t':=s.toks) (r.rep k.toNat) (by rw [Zm1,Nat.mul_comm]; exact hz),rfl,q _ I.fresh⟩
end
section
variable {κ:Type} [DecidableEq κ]
noncomputable def eS (kvs:List (κ×V)) (k:κ):Option V:=(kvs.find? λkv=>decide (kv.1=k)).map (·.2)
noncomputable def dB (kvs:List (κ×V)) (k:κ) (v:V):List (κ×V) :=
 if (kvs.any λkv=>decide (kv.1=k))=true then kvs.map (λkv=>if kv.1=k then (kv.1,v) else kv) else kvs++[(k,v)]
theorem ki {p:κ×V} {r:List (κ×V)} {k:κ} (e:p.1=k):eS (p::r) k=some p.2:=by simp [eS,ya,e]
theorem kj {p:κ×V} {r:List (κ×V)} {k:κ} (e:¬ p.1=k):eS (p::r) k=eS r k:=by simp [eS,ya,e]
theorem nY (k:κ):∀ kvs:List (κ×V),(kvs.any λkv=>decide (kv.1=k))=(eS kvs k).isSome
 | []=>rfl
 | p::r=>by
  rw [zP]
  by_cases e:p.1=k
  ·simp only [ki e,decide_eq_true e,Bool.true_or,Option.isSome_some]
  ·rw [kj e,decide_eq_false e,Bool.false_or]; exact nY k r
theorem tV (kvs:List (κ×V)) (k:κ) (v:V):(dB kvs k v).length<=kvs.length+1:=by
 unfold dB
 split
 ·rw [vZ]; omega
 ·rw [wu,wc,xu]; omega
theorem RelO.isSome_eq {o:Option V} {u:Option Value} (r:RelO o u):o.isSome=u.isSome:=by
 cases o with
 | none=>cases u with
  | none=>rfl
  | some _=>exact (show False from r).elim
 | some _=>cases u with
  | none=>exact (show False from r).elim
  | some _=>rfl
theorem KV.val {kvs:List (κ×V)} {vs:List (κ×Value)} (r:KV kvs vs) (k:κ):RelO (eS kvs k) (valueAt vs k):=by
 unfold KV at r
 induction r with
 | nil=>exact True.intro
 | @cons p q ps qs h t ih =>
  obtain ⟨h1,h2⟩:=h
  by_cases e:p.1=k
  ·have e':q.1=k:=h1.symm.trans e
   have b:valueAt (q::qs) k=some q.2:=by simp [valueAt,ya,e']
   rw [ki e,b]; exact h2
  ·have e':¬ q.1=k:=λz=>e (h1.trans z)
   have b:valueAt (q::qs) k=valueAt qs k:=by simp [valueAt,ya,e']
   rw [kj e,b]; exact ih
theorem KV.any {kvs:List (κ×V)} {vs:List (κ×Value)} (r:KV kvs vs) (k:κ):(kvs.any λkv=>decide (kv.1=k))=vs.any λkv=>decide (kv.1=k):=by
 unfold KV at r
 induction r with
 | nil=>rfl
 | cons h t ih=>rw [zP,zP,ih,h.1]
theorem KV.repl {kvs:List (κ×V)} {vs:List (κ×Value)} (r:KV kvs vs) (k:κ) {y:V} {u:Value} (ry:RelV y u) :
  KV (kvs.map λkv=>if kv.1=k then (kv.1,y) else kv) (vs.map λkv=>if kv.1=k then (kv.1,u) else kv):=by
 unfold KV at r ⊢
 induction r with
 | nil=>exact .nil
 | @cons p q ps qs h t ih =>
  rw [v9,v9]
  refine .cons ?_ ih
  obtain ⟨h1,h2⟩:=h
  by_cases e:p.1=k
  ·rw [if_pos e,if_pos (h1.symm.trans e)]; exact ⟨h1,ry⟩
  ·rw [if_neg e,if_neg (λz=>e (h1.trans z))]; exact ⟨h1,h2⟩
theorem KV.put {kvs:List (κ×V)} {vs:List (κ×Value)} (r:KV kvs vs) (k:κ) {y:V} {u:Value} (ry:RelV y u):KV (dB kvs k y) (stored vs k u):=by
 unfold dB stored
 rw [r.any k]
 by_cases e:(vs.any λkv=>decide (kv.1=k))=true
 ·rw [if_pos e,if_pos e]; exact r.repl k ry
 ·rw [if_neg e,if_neg e]; exact Paired.snoc r ⟨rfl,ry⟩
theorem KV.length {kvs:List (κ×V)} {vs:List (κ×Value)} (r:KV kvs vs):kvs.length=vs.length:=zp r
end
theorem pM {P:Program} {w:World} {k:aM} {u:Value} (r:RelV (kV k) u):(dH P w).is k u=true:=by
 cases k with
 | inl i=>obtain ⟨t,e⟩:=(show ∃ t,u=Value.int i t from r); subst e; exact Zmz P w i t
 | inr x=>obtain ⟨t,e⟩:=(show ∃ t,u=Value.str x t from r); subst e; exact Zmy P w x t
theorem ZdR {P:Program} {w:World}:∀ {ks:List aM} {us:Ab},Vals (ks.map kV) us->ItemsAre (dH P w) ks us
 | [],_,r=>by rw [xR] at r; cases r; exact .nil
 | k::ks,_,r=>by
  rw [v9] at r
  cases r with
  | cons h t=>exact .cons (pM h) (ZdR t)
noncomputable abbrev KT (H:Hp):List (List aM×V)->List (List aM×Addr×Value)->Prop:=Paired λp q=>p.1=q.1/\H q.2.1=some (.tup (p.1.map kV))/\RelV p.2 q.2.2
theorem KT.val {H:Hp} {kvs:List (List aM×V)} {xs:List (List aM×Addr×Value)} (r:KT H kvs xs) (k:List aM):RelO (eS kvs k) ((atKey xs k).map (·.2)):=by
 induction r with
 | nil=>exact True.intro
 | @cons p q ps qs h t ih =>
  obtain ⟨h1,_,h2⟩:=h
  by_cases e:p.1=k
  ·have e':q.1=k:=h1.symm.trans e
   have b:atKey (q::qs) k=some q.2:=by simp [atKey,ya,e']
   rw [ki e,b]; exact h2
  ·have e':¬ q.1=k:=λz=>e (h1.trans z)
   have b:atKey (q::qs) k=atKey qs k:=by simp [atKey,ya,e']
   rw [kj e,b]; exact ih
theorem KT.repl {H:Hp} {kvs:List (List aM×V)} {xs:List (List aM×Addr×Value)} (r:KT H kvs xs) (k:List aM) {y:V} {u:Value} (ry:RelV y u) :
  KT H (kvs.map λkv=>if kv.1=k then (kv.1,y) else kv) (xs.map (putAt k u)):=by
 induction r with
 | nil=>exact .nil
 | @cons p q ps qs h t ih =>
  rw [v9,v9]
  refine .cons ?_ ih
  obtain ⟨h1,h2,h3⟩:=h
  unfold putAt
  by_cases e:p.1=k
  ·rw [if_pos e,if_pos (h1.symm.trans e)]; exact ⟨h1,h2,ry⟩
  ·rw [if_neg e,if_neg (λz=>e (h1.trans z))]; exact ⟨h1,h2,h3⟩
theorem KT.put {H:Hp} {kvs:List (List aM×V)} {xs:List (List aM×Addr×Value)} (r:KT H kvs xs) (k:List aM) {b:Addr} {y:V} {u:Value} (hb:H b=some (.tup (k.map kV))) (ry:RelV y u) :
  KT H (dB kvs k y) (storedH xs k b u):=by
 have e:(kvs.any λkv=>decide (kv.1=k))=(atKey xs k).isSome:=by
  rw [nY,(r.val k).isSome_eq,Option.isSome_map]
 unfold dB storedH
 rw [e]
 by_cases q:(atKey xs k).isSome=true
 ·rw [if_pos q,if_pos q]; exact r.repl k ry
 ·rw [if_neg q,if_neg q]; exact Paired.snoc r ⟨rfl,hb,ry⟩
theorem KT.keeps {H H':Hp} {kvs:List (List aM×V)} {xs:List (List aM×Addr×Value)} (r:KT H kvs xs) (ht:∀ b ys,H b=some (.tup ys)->H' b=some (.tup ys)):KT H' kvs xs :=
 Paired.mapP r λ_ _ z=>⟨z.1,ht _ _ z.2.1,z.2.2⟩
section
variable {P:Program} {w:World} {H:Hp} {h:Heap} {a:Addr}
theorem Zcb {u:HO} (ok:HOk P w H h) (e:Rd H a u):ObjOk P w H h a u:=e.ok ok
theorem uK {kvs:List (aM×V)} (ok:HOk P w H h) (e:Rd H a (.dK kvs)):kvs.length<=sizeLine/\(a == sysModules)=false/\∃ vs,KV kvs vs/\h.DictOf (dH P w) a vs :=
 show ObjOk P w H h a (.dK kvs) from Zcb ok e
theorem ZhL {kvs:List (aM×V)} (ok:HOk P w H h) (e:H a=some (.dK kvs)):kvs.length<=sizeLine/\(a == sysModules)=false/\∃ vs,KV kvs vs/\h.DictOf (dH P w) a vs:=uK ok (.inl e)
theorem ud {ks:List aM} (ok:HOk P w H h) (e:H a=some (.tup (ks.map kV))):(tupleKind (dH P w)).is h ks a:=by
 obtain ⟨_,its,r,o,h1,h2,n,h3⟩:=(show ObjOk P w H h a (.tup (ks.map kV)) from ok a _ e)
 exact ⟨o,its.toArray,n,h1,h2,h3,by simpa using ZdR r⟩
theorem uJ {kvs:List (List aM×V)} (ok:HOk P w H h) (e:Rd H a (.dT kvs)):kvs.length<=sizeLine/\(a == sysModules)=false /\
  ∃ xs,KT H kvs xs/\h.DictOfH (tupleKind (dH P w)) a xs:=by
 obtain ⟨z,y,xs,r,o,es,ep,h1,h2,h3,h4,h5⟩:=(show ObjOk P w H h a (.dT kvs) from Zcb ok e)
 refine ⟨z,y,xs,r,o,es,ep,h1,h2,h3,h4,λx hx=>?_,h5⟩
 have all:∀ {l:List (List aM×V)} {m:List (List aM×Addr×Value)},KT H l m->∀ x∈m,(tupleKind (dH P w)).is h x.1 x.2.1:=by
  intro l m q
  induction q with
  | nil=>intro x hx; exact nomatch hx
  | @cons p q ps qs hq t ih =>
   intro x hx
   rcases wo.mp hx with e | hx
   ·subst e
    exact ud ok (by rw [<- hq.1]; exact hq.2.1)
   ·exact ih x hx
 exact all r x hx
theorem Zos {kvs:List (List aM×V)} (ok:HOk P w H h) (e:H a=some (.dT kvs)):kvs.length<=sizeLine/\(a == sysModules)=false /\
  ∃ xs,KT H kvs xs/\h.DictOfH (tupleKind (dH P w)) a xs:=uJ ok (.inl e)
end
noncomputable def DGet (H:Hp) (a:Addr) (y:V) (r:Option V):Prop :=
 (∃ kvs k,Rd H a (.dK kvs)/\y=kV k/\r=eS kvs k)\/∃ kvs k b,Rd H a (.dT kvs)/\y=.ref b/\H b=some (.tup (k.map kV))/\r=eS kvs k
noncomputable def DPut (H:Hp) (a:Addr) (y v:V) (H':Hp):Prop :=
 (∃ kvs k,H a=some (.dK kvs)/\y=kV k/\kvs.length < sizeLine/\H'=upd H a (.dK (dB kvs k v))) \/
 ∃ kvs k b,H a=some (.dT kvs)/\y=.ref b/\H b=some (.tup (k.map kV))/\kvs.length < sizeLine/\H'=upd H a (.dT (dB kvs k v))
theorem DGet.k {H:Hp} {a:Addr} {kvs:List (aM×V)} {k:aM} (e:H a=some (.dK kvs)):DGet H a (kV k) (eS kvs k):=.inl ⟨kvs,k,.inl e,rfl,rfl⟩
theorem DPut.k {H:Hp} {a:Addr} {kvs:List (aM×V)} {k:aM} {v:V} (e:H a=some (.dK kvs)) (hl:kvs.length < sizeLine):DPut H a (kV k) v (upd H a (.dK (dB kvs k v))):=.inl ⟨kvs,k,e,rfl,hl,rfl⟩
section
variable {X:Cx} {pins:List (Addr×Obj)} {σ:St} {H:Hp} {s:Shared} {a:Addr} {y v:V} {u r:Value} {o:Option V} {A:Around} {E:z0}
theorem Inv.big (I:Inv X pins σ H s):sysModules < s.heap.objs.size:=by
 have h:mainGlobals < s.heap.objs.size:=(I.mod.glob.keeps I.bk).lt
 exact Nat.lt_trans (by decide) h
theorem ZoX {Q:z0} (hu:A.units+1 < cLine) (I:Inv X pins σ H s) (g:DGet H a y (some v)) (ry:RelV y u) (h:∀ w' s',Inv X pins σ H s'->RelV v w'->Q w' s') :
  wpAny (model X.prog X.w) A (getItem (.ref a) u) Q E s:=by
 rcases g with ⟨kvs,k,e,ey,l⟩ | ⟨kvs,k,b,e,ey,eb,l⟩
 ·subst ey
  obtain ⟨z,hd,vs,rel,dd⟩:=uK I.hok e
  obtain ⟨w',hw,rw'⟩:=RelO.some_of (v:=v) (o:=valueAt vs k) (by rw [l]; exact rel.val k)
  exact wpAny_getItem_of (pM ry) dd.mapOf hw (h w' _ (I.tok _) rw')
 ·subst ey
  cases (show u=Value.ref b from ry)
  obtain ⟨z,hd,xs,rel,dd⟩:=uJ I.hok e
  obtain ⟨w',hw,rw'⟩:=RelO.some_of (v:=v) (o:=(atKey xs k).map (·.2)) (by rw [l]; exact rel.val k)
  obtain ⟨p,hp,hp2⟩:=yQ.mp hw
  refine wpAny_getItem_heap (tupleKind_room_in1 hu) (ud I.hok eb) dd hp ?_
  rw [hp2]
  exact h w' _ (I.tok _) rw'
theorem uN {h':Heap} {t':Nat} {ob:HO} (I:Inv X pins σ H s) (mu:nM (H a)) (hs:Heap.SameBut a s.heap h') (he:∃ q,h'.get? a=some q) (new:ObjOk X.prog X.w (upd H a ob) h' a ob) :
  Inv X pins σ (upd H a ob) { s with heap:=h',toks:=t' } :=
 I.write (x:=a) (e:=a) mu (.inl rfl) (λb q hb z=>(hs.2 b hb).trans z) he new
theorem ZhM {P:Program} {w:World} {H':Hp} {h':Heap} {kvs:List (aM×V)} {vs:List (aM×Value)} (z:kvs.length<=sizeLine) (hd:(a == sysModules)=false) (rel:KV kvs vs) (dd:h'.DictOf (dH P w) a vs) :
  ObjOk P w H' h' a (.dK kvs):=⟨z,hd,vs,rel,dd⟩
theorem ZoE {H':Hp} {Q:Unit->Shared->Prop} (hu:A.units+1 < cLine) (I:Inv X pins σ H s) (g:DPut H a y v H') (ry:RelV y u) (rv:RelV v r) (h:∀ s',Inv X pins σ H' s'->Q () s') :
  wpAny (model X.prog X.w) A (setItem (.ref a) u r) Q E s:=by
 rcases g with ⟨kvs,k,e,ey,l,eH⟩ | ⟨kvs,k,b,e,ey,eb,l,eH⟩
 ·subst ey eH
  obtain ⟨z,hd,vs,rel,dd⟩:=ZhL I.hok e
  have hz:vs.length<=sizeLine:=by rw [<- rel.length]; exact z
  have hl:(dB kvs k v).length<=sizeLine:=by have:=tV kvs k v; omega
  refine wpAny_setItem_pairs (hsz:=hz) (pM ry) dd λh' dd' hs=>h _ ?_
  have he:∃ q,h'.get? a=some q:=let ⟨q,_,_,hq,_⟩:=dd'; ⟨q,hq⟩
  exact uN I (by rw [e]; exact True.intro) hs he (ZhM hl hd (rel.put k rv) dd')
 ·subst ey eH
  cases (show u=Value.ref b from ry)
  obtain ⟨z,hd,xs,rel,dd⟩:=Zos I.hok e
  have hz:xs.length<=sizeLine:=by rw [<- zp rel]; exact z
  have hl:(dB kvs k v).length<=sizeLine:=by have:=tV kvs k v; omega
  refine wpAny_setItem_heap (hsz:=hz) (tupleKind_room_in1 hu) (ud I.hok eb) dd λh' dd' hs=>h _ ?_
  obtain ⟨q,es,ep,hq,h2,h3,h4,_,h5⟩:=dd'
  refine uN I (by rw [e]; exact True.intro) hs ⟨q,hq⟩ ⟨hl,hd,_,(rel.put k eb rv).keeps λc ys ec=>?_,q,es,ep,hq,h2,h3,h4,h5⟩
  rw [a9 (mw ec e (λz=>nomatch z))]
  exact ec
end
def ZiK (i:Expr):Prop:=∀ ov iv,subscripted i false ov iv=operate [ov,iv] (getItem ov iv)
theorem ZjZ {prog:Program} {w:World} {A:Around} {E:z0} {s:Shared} {env:Env} {value slice:Expr} {pos:Pos} {T id:String} {Q:z0}
  (hl:typeLookup (.type T) "__getitem__"=pure (some (.builtin id))) (hs:ZiK slice)
  (h:wpAny (model prog w) A (eval value env) (λo s₁=>wpAny (model prog w) A (eval slice env) (λi s₂=>s₂.TypeIs o T/\wpAny (model prog w) A (getItem o i) Q E s₂) E s₁) E s) :
  wpAny (model prog w) A (eval (.Subscript value slice pos) env) Q E s:=by
 refine Subscript_ (wpAny_mono h (λo s₁ h₁=>wpAny_mono h₁ (λi s₂ h₂=>?_) λ_ _ x=>x) λ_ _ x=>x)
 obtain ⟨hT,h₂⟩:=h₂
 unfold subscriptTail
 refine wpAny_bind ?_
 rw [getitemInPython_of_ne hT.not_modules]
 refine wpAny_bind (wpAny_specialOf hT hl ?_)
 have fin:wpAny (model prog w) A (subscripted slice false o i) (λr s₃=>wpAny (model prog w) A (letTemporaryGo value o r >>= λ_=>pure r) Q E s₃) E s₂:=by
  rw [hs o i]
  exact wpAny_operating (wpAny_mono h₂ (λr s₃ h₃=>wpAny_bind (wpAny_letTemporaryGo (wpAny_pure h₃))) λ_ _ x=>x)
 first
  | exact wpAny_pure (wpAny_bind fin)
  | exact wpAny_bind (wpAny_pure (wpAny_bind fin))
  | exact wpAny_bind fin
theorem Zow {X:Cx} {pins:List (Addr×Obj)} {σ:St} {H:Hp} {s:Shared} {a:Addr} {y:V} {o:Option V} (I:Inv X pins σ H s) (g:DGet H a y o):s.TypeIs (.ref a) "dict":=by
 rcases g with ⟨kvs,k,e,_,_⟩ | ⟨kvs,k,b,e,_,_,_⟩
 ·obtain ⟨_,_,vs,_,dd⟩:=uK I.hok e
  exact dd.typeIs
 ·obtain ⟨_,_,xs,_,dd⟩:=uJ I.hok e
  exact dd.typeIs
def ZjL (td ty:TE):TE:=λσ H Q=>td σ H λx H1=>ty σ H1 λy H2=>∃ a v,x=.ref a/\DGet H2 a y (some v)/\Q v H2
def ZkD (td ty tv:TE):TS:=λD σ H=>tv σ H λv H1=>td σ H1 λx H2=>ty σ H2 λy H3=>∃ a H4,x=.ref a/\DPut H3 a y v H4/\D.nx σ H4
section
variable {X:Cx} {o i e value:Expr} {pos pos' tpos:Pos} {td ty tv:TE}
theorem iW (hu:X.A.units+1 < cLine) (ho:PE X o td) (hi:PE X i ty) (hs:ZiK i):PE X (.Subscript o i pos) (ZjL td ty):=by
 intro pins s σ H Q I h
 refine ZjZ PySem.F.slot_dict_getitem.lookup hs (thn (ho pins s σ H _ I h) λu s1 ⟨x,H1,I1,rx,q1⟩=>thn (hi pins s1 σ H1 _ I1 q1) λiv s2 hz0=>?_)
 obtain ⟨y,H2,I2,ry,a,v,ex,g,q2⟩:=hz0
 subst ex
 obtain rfl:u=Value.ref a:=rx
 exact ⟨Zow I2 g,ZoX hu I2 g ry λw' s3 I3 rw'=>⟨v,H2,I3,rw',q2⟩⟩
theorem tq (hu:X.A.units+1 < cLine) (ho:PE X o td) (hi:PE X i ty) (hv:PE X value tv) (hs:swapsWith value (some (.Subscript o i pos')) pos.line X.env=pure false) :
  PS X (.Assign [.Subscript o i pos'] value pos) (ZkD td ty tv):=by
 intro pins s σ H D I h
 refine wpAny_Assign_Subscript (thn (hv pins s σ H _ I h) λr s1 ⟨v,H1,I1,rv,q1⟩=>thn (ho pins s1 σ H1 _ I1 q1) λu s2 ⟨x,H2,I2,rx,q2⟩=>thn (hi pins s2 σ H2 _ I2 q2) λiv s3 hz0=>?_) hs
 obtain ⟨y,H3,I3,ry,a,H4,ex,g,q3⟩:=hz0
 subst ex
 obtain rfl:u=Value.ref a:=rx
 exact ZoE hu I3 g ry rv λs4 I4=>⟨σ,H4,I4,q3⟩
end
theorem ZhN {P:Program} {w:World} {H:Hp} (h:Heap) (hb:sysModules < h.objs.size):ObjOk P w H (h.push { cls:=.type "dict",data:=.dict #[] }) h.objs.size (.dK []) :=
 ⟨wS _,beq_eq_false_iff_ne.mpr (Ne.symm (wy hb)),[],.nil,Heap.DictOf.new h⟩
def ZjK:TE:=λ_ H Q=>∀ p,H p=none->Q (.ref p) (upd H p (.dK []))
section
variable {X:Cx} {pos:Pos}
theorem ZlL:PE X (.Dict [] [] pos) ZjK:=λpins s σ H Q I h =>
 wpAny_Dict_empty ⟨.ref s.heap.objs.size,_,I.laid (a:=s.heap.objs.size) (o:=.dK []) (t':=s.toks) (λ_ _ q=>vY _ q) (v4 _) (ZhN s.heap I.big),rfl,h _ (I.hok.fresh (v4 _))⟩
end
noncomputable def rD:List (TE×TE)->St->Hp->(List (V×V)->Hp->Prop)->Prop
 | [],_,H,Q=>Q [] H
 | (tk,tv)::r,σ,H,Q=>tk σ H λx H1=>tv σ H1 λy H2=>rD r σ H2 λps H3=>Q ((x,y)::ps) H3
noncomputable abbrev VV:List (V×V)->List (Value×Value)->Prop:=Paired λp q=>RelV p.1 q.1/\RelV p.2 q.2
noncomputable def qP (X:Cx) (pos:Pos) (keys:List (Option Expr)) (values:List Expr) (trs:List (TE×TE)):Prop :=
 ∀ (pins:List (Addr×Obj)) (s:Shared) (σ:St) (H:Hp) (Q:List (V×V)->Hp->Prop),Inv X pins σ H s->rD trs σ H Q ->
  wpAny (model X.prog X.w) X.A (evalPairs (pairTrees keys values X.env pos)) (λvs s'=>∃ ps H',Inv X pins σ H' s'/\VV ps vs/\Q ps H') X.xe s
theorem Zlo {X:Cx} {pos:Pos}:qP X pos [] [] []:=λpins s σ H Q I h=>pairTrees_nil_walk ⟨[],H,I,.nil,h⟩
theorem tt {X:Cx} {pos:Pos} {k v:Expr} {ks:List (Option Expr)} {vs:List Expr} {tk tv:TE} {trs:List (TE×TE)} (hk:PE X k tk) (hv:PE X v tv) (hr:qP X pos ks vs trs) :
  qP X pos (some k::ks) (v::vs) ((tk,tv)::trs):=λpins s σ H Q I h =>
 pairTrees_cons_walk (thn (hk pins s σ H _ I h) λu s1 ⟨x,H1,I1,rx,q1⟩=>thn (hv pins s1 σ H1 _ I1 q1) λw2 s2 ⟨y,H2,I2,ry,q2⟩ =>
  thn (hr pins s2 σ H2 _ I2 q2) λws s3 ⟨ps,H3,I3,rel,q3⟩=>⟨(x,y)::ps,H3,I3,.cons ⟨rx,ry⟩ rel,q3⟩)
noncomputable def mD (kvs more:List (aM×V)):List (aM×V):=more.foldl (λacc kv=>dB acc kv.1 kv.2) kvs
theorem KV.merge:∀ {more:List (aM×V)} {rs:List (aM×Value)} {kvs:List (aM×V)} {vs:List (aM×Value)},KV more rs->KV kvs vs->KV (mD kvs more) (merged vs rs):=by
 intro more rs kvs vs r
 unfold KV at r
 induction r generalizing kvs vs with
 | nil=>intro q; exact q
 | @cons p q ps qs h t ih =>
  intro r0
  have e:KV (dB kvs p.1 p.2) (stored vs q.1 q.2):=by
   have:=r0.put p.1 h.2
   rw [<- h.1]; exact this
  exact ih e
theorem ZdB:∀ (more kvs:List (aM×V)),(mD kvs more).length<=kvs.length+more.length
 | [],kvs=>by show kvs.length<=kvs.length+0; omega
 | p::r,kvs=>by
  have h1:=ZdB r (dB kvs p.1 p.2)
  have h2:=tV kvs p.1 p.2
  show (mD (dB kvs p.1 p.2) r).length<=_
  rw [wc]; omega
theorem Zh6 {P:Program} {w:World}:∀ {kvs:List (aM×V)} {ws:List (Value×Value)},VV (kvs.map λkv=>(kV kv.1,kv.2)) ws->∃ rs,Carries (dH P w) ws rs/\KV kvs rs
 | [],_,r=>by rw [xR] at r; cases r; exact ⟨[],True.intro,.nil⟩
 | p::kvs,_,r=>by
  rw [v9] at r
  cases r with
  | @cons a b as bs h t =>
   obtain ⟨rs,c,q⟩:=Zh6 (P:=P) (w:=w) t
   obtain ⟨b1,b2⟩:=b
   exact ⟨(p.1,b2)::rs,⟨pM h.1,rfl,c⟩,.cons ⟨rfl,h.2⟩ q⟩
def ZjJ (trs:List (TE×TE)):TE:=λσ H Q=>∀ p,H p=none->rD trs σ (upd H p (.dK [])) λps H2=>H2 p=some (.dK [])/\∃ kvs:List (aM×V),ps=kvs.map (λkv=>(kV kv.1,kv.2))/\kvs.length<=15/\Q (.ref p) (upd H2 p (.dK (mD [] kvs)))
theorem ZlM {X:Cx} {pos:Pos} {keys:List (Option Expr)} {values:List Expr} {trs:List (TE×TE)} (h:qP X pos keys values trs) (hall:keys.all (·.isSome)=true) (hl:keys.length=values.length) (h0:keys≠[])
  (h15:keys.length<=15):PE X (.Dict keys values pos) (ZjJ trs):=by
 intro pins s σ H Q I q
 have hn:=I.hok.fresh (v4 s.heap.objs.size)
 have I1:=I.laid (a:=s.heap.objs.size) (o:=.dK []) (h':=s.heap.push { cls:=.type "dict",data:=.dict #[] }) (t':=s.toks) (λ_ _ q=>vY _ q) (v4 _) (ZhN s.heap I.big)
 refine wpAny_Dict_walk (knd:=dH X.prog X.w) hall hl h0 h15 (thn (h pins _ σ _ _ I1 (q _ hn)) λws s2 hz0=>?_)
 obtain ⟨ps,H2,I2,rel,e,kvs,ep,lk,q2⟩:=hz0
 subst ep
 obtain ⟨rs,c,rk⟩:=Zh6 (P:=X.prog) (w:=X.w) rel
 obtain ⟨z,hd,vs0,r0,dd⟩:=ZhL I2.hok e
 cases r0
 refine ⟨rs,c,dd,λh' dd' hs=>⟨.ref s.heap.objs.size,_,?_,rfl,q2⟩⟩
 have hz:(mD [] kvs).length<=sizeLine:=by
  have h1:=ZdB kvs []
  rw [xu] at h1
  rw [sizeLine_eq]; omega
 have he:∃ q,h'.get? s.heap.objs.size=some q:=let ⟨q,_,_,hq,_⟩:=dd'; ⟨q,hq⟩
 exact uN I2 (by rw [e]; exact True.intro) hs he (ZhM hz hd (rk.merge .nil) dd')
end L2
namespace Att
open PySem.W PySem.Calls
theorem ints_of_wellAll {P:Params} {h:Heap}:∀ (ns:Aa) (vs:Ab),WellAll P h vs (ns.map WData.int)->IntsAre vs ns:=by
 intro ns
 induction ns with
 | nil =>
  intro vs w
  rw [xR] at w
  cases w
  exact .nil
 | cons n ns ih =>
  intro vs w
  rw [v9] at w
  cases w with
  | cons a b =>
   cases a
   exact .cons _ _ (ih _ b)
theorem script_of {l:OpenLaw} {n:Nat} (hn:l.most=some n) {P:Params} {h:Heap} {args:List WData} {vals:Ab}
  (hpre:l.row.toRowW.claim.pre args=true) (hwl:WellAll P h vals args) :
  ∃ a vs ns,vals=[Value.ref a]/\args=[WData.list (ns.map WData.int)]/\h.get? a=some { cls:=.type "list",data:=.seq vs.toArray }/\IntsAre vs ns/\ns.length<=n:=by
 have hsh:WShape.hasAll [] args [.list .int]=true:=(pre_splitW hpre).1
 have hc:l.pre.holds [] { args:=args }=true:=(pre_splitW hpre).2
 obtain ⟨d,r,rfl,h1,h2⟩:=hasAllW_cons hsh
 obtain rfl:=hasAllW_nil h2
 obtain ⟨xs,rfl,h3⟩:=hasW_list h1
 obtain ⟨ns,rfl⟩:=items_int h3
 have hlen:ns.length<=n:=by
  unfold OpenLaw.pre at hc
  have h4:(WTm.not (.lt (.lit (.int (n:Int))) (.len (.arg 0)))).holds [] { args:=[.list (ns.map .int)] }=true:=by
   have h4:=(holds_andW hc).1
   rw [hn] at h4
   exact h4
  have h5:=condW_of h4 (w_not (w_lt w_lit (w_len_list (w_arg rfl))))
  rw [vZ] at h5
  refine yi λq=>?_
  have q':(n:Int) < ((ns.length:Nat):Int):=by omega
  first
   | (rw [decide_eq_true q'] at h5; exact absurd h5 (by decide))
   | (simp at h5; omega)
 cases hwl with
 | cons w1 w2 =>
  cases w2
  cases w1 with
  | list ho hall=>exact ⟨_,_,ns,rfl,rfl,ho,ints_of_wellAll ns _ hall,hlen⟩
theorem post_true (l:OpenLaw) (args:List WData):l.row.toRowW.claim.post args (.bool true) args=true :=
 postW_of (r:=l.row.toRowW) (X:=(true == true))
  (show WShape.has [] (.bool true) .bool=true by first | rfl | decide | simp [WShape.has,WShape.arms,WShape.armsAll])
  (show (WTm.eq .res (.lit (.bool true))).value [] { args:=args,res:=some (.bool true),after:=args }=some (.bool (true == true)) from w_eq_bool (w_res rfl) w_lit) rfl
theorem attach_call {l:OpenLaw} {n:Nat} {q:Program} {loose:Ac} {XP:Ae->Heap->Prop} {YP:World->Heap->Prop} {d:DefRec}
  (hn:l.most=some n) (hdf:d.params.defaults=[])
  (call:∀ (w:World) (s₀ s₁:Shared) (mg mb:Ae) (fa:Addr) (o:Obj) (pm cd doc:Value) (a:Addr) (vs:Ab) (ns:Aa),
   Ground q loose [] XP w s₀ mg mb s₁.heap->YP w s₁.heap ->
   s₁.heap.get? fa=some o->o.data=.func (docDef d.name d.params d.body d.scope pm cd doc)->s₁.heap.CodeRec cd d.name->mg d.name=some (.ref fa) ->
   s₁.heap.get? a=some { cls:=.type "list",data:=.seq vs.toArray }->IntsAre vs ns->ns.length<=n->s₁.gens=#[] ->
   codeAny (model l.prog w) callerA (.call (.ref fa) ⟨[.ref a],[]⟩) (λr s'=>r=.ok (.ret (.bool true))/\OldK s₁.heap s'.heap/\s'.os=s₁.os/\AllBare s'.gens) s₁) :
  WalkO q loose XP YP l.row.toRowW d [] (λf vs=>PySem.call f vs):=by
 intro w s₀ s₁ mg mb G Y fa o pm cd doc dV kV ho hd hcd hD hmg hg args vals as hpre hlay hrd hwl hlo
 obtain rfl:dV=.none:=Dflts.none hD hdf
 obtain rfl:kV=.none:=Dflts.noKw hD
 obtain ⟨a,vs,ns,rfl,rfl,hobj,hints,hlen⟩:=script_of hn hpre hwl
 refine enter_call (codeAny_mono (call w s₀ s₁ mg mb fa o pm cd doc a vs ns G Y ho (fd_plain hd) hcd hmg hobj hints hlen hg) λr s' hq=>?_)
 obtain ⟨rfl,h2,h3,h4⟩:=hq
 exact ⟨.inl ⟨.bool true,.bool true,[],rfl,λ_=>rfl,.bool true,post_true l _,λ_=>⟨List.Pairwise.nil,λ_ hm=>(nomatch hm)⟩⟩,h2,h3,h4⟩
end Att
namespace L2
theorem Zi7 {vs:Ab} {ns:Aa} (h:IntsAre vs ns):Vals (ns.map V.int) vs:=by
 induction h with
 | nil=>exact .nil
 | cons n t h ih=>exact .cons ⟨t,rfl⟩ ih
def qR (H:Hp):Prop:=∀ b,H b=none\/∃ o xs,H b=some (.frz o (.lst xs))
theorem Zm7 {P:Program} {w:World} {K:zR} {mg mb:Ae} {CX:fx} {k:Nat} {fa a:Addr} {fd:FuncData} {x:Str} {sp:Sp} {s₁:Shared} {vs:Ab} {ns:Aa}
  (KX:K.In s₁.heap) (hns:s₁.heap.Ns mainGlobals mg) (hb:s₁.heap.Ns builtinsNs mb) (hbb:∀ x:Str,x≠"__name__"->mb x=bootBuiltins x) (hlim:s₁.heap.NoLimit) (hdig:s₁.heap.NoDigits) (hg:s₁.gens=#[])
  (ha:s₁.heap.get? a=some { cls:=.type "list",data:=.seq vs.toArray }) (hi:IntsAre vs ns) (hl:ns.length<=sizeLine) (hr:Room k callerA)
  (F:∀ base:Heap,K.In base->base.Ns mainGlobals mg->FnOk P w K mg base CX k fa fd [x] sp) (hbind:∀ (s:Shared) (u:Value),BindsTo s fd ⟨[u],[]⟩ [(x,u)])
  (hsp:∀ H:Hp,qR H->SqL K H a (ns.map V.int)->sp [.ref a] H (λv _=>v=.bl true) λ_ _ _=>False)
  (hCX:∀ H e s',CX [] H s₁ (λ_ _ _=>False) e s'->False) :
  codeAny (model P w) callerA (.call (.ref fa) ⟨[.ref a],[]⟩) (λr s'=>r=.ok (.ret (.bool true))/\OldK s₁.heap s'.heap/\s'.os=s₁.os/\AllBare s'.gens) s₁:=by
 have rv:=Zi7 hi
 have lenV:=hi.length
 -- from an abstract heap in which nothing but the script may be tracked
 have core:∀ H:Hp,qR H->SqL K H a (ns.map V.int)->HOk P w H s₁.heap->(∀ b,H b≠none->b=a)->(H a≠none->K.lookup a=none) ->
   codeAny (model P w) callerA (.call (.ref fa) ⟨[.ref a],[]⟩) (λr s'=>r=.ok (.ret (.bool true))/\OldK s₁.heap s'.heap/\s'.os=s₁.os/\AllBare s'.gens) s₁:=by
  intro H hO hS hok hA hK
  have base_of:∀ {b:Addr} {o:Obj},s₁.heap.get? b=some o->H b=none->(iy s₁.heap H).get? b=some o:=λe n=>Znz e n
  have noA:∀ {b:Addr} {o:Obj} {es:Array DictEntry} {ep:Nat},s₁.heap.get? b=some o->o.data=.dict es ep->H b=none:=λ{b o es ep} e d=>by
   cases q:H b with
   | none=>rfl
   | some u =>
    have e':b=a:=hA b (by rw [q]; simp)
    subst e'
    rw [ha] at e; cases e
    have d':Data.seq vs.toArray _=Data.dict es ep:=d
    cases d'
  have nsK:∀ {b:Addr} {m:Ae},s₁.heap.Ns b m->(iy s₁.heap H).Ns b m:=λ{b m} hz0=>by
   obtain ⟨o,es,ep,e,d,r⟩:=hz0
   exact ⟨o,es,ep,base_of e (noA e d),d,r⟩
  have hKb:K.In (iy s₁.heap H):=λb o e=>base_of (KX b o e) (by
   cases q:H b with
   | none=>rfl
   | some u =>
    have e':b=a:=hA b (by rw [q]; simp)
    subst e'
    rw [hK (by rw [q]; simp)] at e; cases e)
  have hM:Mod K mg (iy s₁.heap H):=⟨hKb,nsK hns,⟨mb,nsK hb,hbb⟩,let ⟨mc,h1,h2⟩:=hlim; ⟨mc,nsK h1,h2⟩,let ⟨mc,h1,h2⟩:=hdig; ⟨mc,nsK h1,h2⟩⟩
  have e0:Env0 P w K mg (iy s₁.heap H) callerA [] s₁ H:=⟨rfl,hM,λb o e=>Zmg e,Nat.le_of_eq (Zny _ _),trivial,λb hb=>absurd (show b∈([]:List Addr) from hb) (by simp),hok,.of_eq hg⟩
  refine codeAny_mono ((F _ hKb (nsK hns)).run callerA [] s₁ H ⟨[.ref a],[]⟩ [.ref a] [.ref a] _ _ hr e0 (hbind s₁ (.ref a)) (.cons rfl .nil) (hsp H hO hS)) λr s' h=>?_
  cases r with
  | error e=>exact (hCX H e s' h).elim
  | ok fl =>
   cases fl with
   | next=>exact False.elim h
   | brk=>exact False.elim h
   | cont=>exact False.elim h
   | ret u =>
    obtain ⟨v,H',os,bare,un,hok',r',q⟩:=h
    have q':v=.bl true:=q
    subst q'
    obtain rfl:u=Value.bool true:=r'
    refine ⟨rfl,OldK.of_keep λb o e=>?_,os,bare⟩
    cases q:H b with
    | none=>exact un.keep b o e q (by intro z; exact absurd (show b∈([]:List Addr) from z) (by simp)) (by simp)
    | some u =>
     rcases hO b with z | ⟨ob,xs,z⟩
     ·rw [q] at z; cases z
     ·have z2:=un.frzs b ob _ z
      obtain ⟨e1,_⟩:=hok b _ z
      obtain ⟨e2,_⟩:=hok' b _ z2
      rw [e] at e1; cases e1
      exact e2
 cases hk:K.lookup a with
 | some o =>
  -- the script is one of the module's own objects
  have e:=KX a o hk
  rw [ha] at e
  cases e
  refine core (λ_=>none) (λ_=>.inl rfl) (.inr ⟨_,vs.toArray,_,hk,rfl,rfl,rfl,by rw [wa,lenV]; exact hl,by simpa using rv⟩) (λb u z=>by have z':(none:Option HO)=some u:=z; cases z') (λb z=>absurd rfl z) λz=>absurd rfl z
 | none =>
  refine core (λb=>if b=a then some (.frz { cls:=.type "list",data:=.seq vs.toArray } (.lst (ns.map V.int))) else none) (λb=>?_) (.inl (.inr ⟨{ cls:=.type "list",data:=.seq vs.toArray },if_pos rfl⟩)) (λb u z=>?_) (λb z=>?_) λ_=>hk
  ·by_cases hb:b=a
   ·exact .inr ⟨_,_,if_pos hb⟩
   ·exact .inl (if_neg hb)
  ·by_cases hb:b=a
   ·have z':=(if_pos hb).symm.trans z
    cases z'
    subst hb
    exact ⟨ha,by rw [vZ]; exact hl,vs,_,rv,ha⟩
   ·have z':=(if_neg hb).symm.trans z
    cases z'
  ·by_cases hb:b=a
   ·exact hb
   ·exact absurd (if_neg hb) z
noncomputable abbrev KOf {K:zR} {h:Heap} (_:K.In h):zR:=K
theorem ZiY {l:PySem.W.OpenLaw} {n k:Nat} {q:Program} {loose:Ac} {XP:Ae->Heap->Prop} {YP:World->Heap->Prop} {d:DefRec} {K:Params->zR} {CX:World->fx} {sp:World->Sp} {x:Str}
  (hn:l.most=some n) (hn2:n<=sizeLine) (hdf:d.params.defaults=[]) (hr:Room k callerA)
  (hY:∀ (w:World) (h:Heap),YP w h->(K w.params).In h)
  (F:∀ (w:World) (mg:Ae) (fa:Addr) (h:Heap),(K w.params).In h->h.Ns mainGlobals mg->mg d.name=some (.ref fa) ->
   ∃ fd:FuncData,(∀ (s:Shared) (u:Value),BindsTo s fd ⟨[u],[]⟩ [(x,u)]) /\
    ∀ base:Heap,(K w.params).In base->base.Ns mainGlobals mg->FnOk l.prog w (K w.params) mg base (CX w) k fa fd [x] (sp w))
  (hsp:∀ (w:World) (H:Hp) (a:Addr) (ns:Aa),ns.length<=n->qR H->SqL (K w.params) H a (ns.map V.int)->sp w [.ref a] H (λv _=>v=.bl true) λ_ _ _=>False)
  (hCX:∀ (w:World) (H:Hp) (s:Shared) (e:Value) (s':Shared),CX w [] H s (λ_ _ _=>False) e s'->False) :
  PySem.W.WalkO q loose XP YP l.row.toRowW d [] (λf vs=>PySem.call f vs):=by
 refine Att.attach_call hn hdf λw s₀ s₁ mg mb fa o pm cd doc a vs ns G Y ho hd hcd hmg hobj hints hlen hg=>?_
 have KX:=hY w _ Y
 obtain ⟨fd,hb,hF⟩:=F w mg fa _ KX G.T.g hmg
 exact Zm7 KX G.T.g G.T.b G.T.builtins G.T.nolimit G.T.nodigits hg hobj hints (wv hlen hn2) hr hF hb (λH hO hS=>hsp w H a ns hlen hO hS) λH e s'=>hCX w H s₁ e s'
theorem ZiX {l:PySem.W.OpenLaw} {n k:Nat} {q:Program} {loose:Ac} {XP:Ae->Heap->Prop} {YP:World->Heap->Prop} {d:DefRec} {K:Params->zR} {CX:fx} {sp:zR->Sp} {x:Str}
  (hn:l.most=some n) (hn2:n<=sizeLine) (hdf:d.params.defaults=[]) (hr:Room k callerA)
  (hY:∀ (w:World) (h:Heap),YP w h->(K w.params).In h)
  (F:∀ (w:World) (mg:Ae) (fa:Addr) (h:Heap),(K w.params).In h->h.Ns mainGlobals mg->mg d.name=some (.ref fa) ->
   ∃ fd:FuncData,(∀ (s:Shared) (u:Value),BindsTo s fd ⟨[u],[]⟩ [(x,u)]) /\
    ∀ base:Heap,(K w.params).In base->base.Ns mainGlobals mg->FnOk l.prog w (K w.params) mg base CX k fa fd [x] (sp (K w.params)))
  (hsp:∀ (K:zR) (H:Hp) (a:Addr) (ns:Aa),ns.length<=n->qR H->SqL K H a (ns.map V.int)->sp K [.ref a] H (λv _=>v=.bl true) λ_ _ _=>False)
  (hCX:∀ (H:Hp) (s:Shared) (e:Value) (s':Shared),CX [] H s (λ_ _ _=>False) e s'->False) :
  PySem.W.WalkO q loose XP YP l.row.toRowW d [] (λf vs=>PySem.call f vs) :=
 ZiY (K:=K) (CX:=λ_=>CX) (sp:=λw=>sp (K w.params)) hn hn2 hdf hr hY F (λw H a ns h1 h2 h3=>hsp (K w.params) H a ns h1 h2 h3) λ_ H s e s'=>hCX H s e s'
noncomputable def lg (s:Stmt):Arguments:=match s with
 | .FunctionDef _ a _ _ _ _ _ _ _ _=>a
 | _=>{ posonlyargs:=[],args:=[],vararg:=none,kwonlyargs:=[],kw_defaults:=[],kwarg:=none,defaults:=[] }
noncomputable def gN (s:Stmt):List Stmt:=match s with
 | .FunctionDef _ _ b _ _ _ _ _ _ _=>b
 | _=>[]
noncomputable def aO (s:Stmt):Scope:=match s with
 | .FunctionDef _ _ _ _ _ _ sc _ _ _=>sc
 | _=>{ kind:=.function,names:=[],isGenerator:=false,isCoroutine:=false }
noncomputable abbrev iL:fx:=λ_ _ _ _ _ _=>False
noncomputable abbrev E0:XK:=λ_ _ _=>False
theorem ZlU {X:Cx}:vR iL X E0:=λ_ _ _ _ _ _ _ h=>h.elim
structure Fun (K:zR) (x qual:Str) (st:Stmt) (f:Addr) (fd:FuncData):Prop where
 ex:∃ (oc:Value) (od:Option Addr) (kV doc pm:Value) (an:Option Addr) (cdv ct:Value) (osl:Array (Option Value)),
  fd=PySem.W.fnOf x qual (lg st) (gN st) (aO st) .none kV doc pm an cdv ct/\K.lookup f=some ⟨oc,od,.func fd,osl⟩/\PySem.W.codeIn K cdv qual=true
 kp:PySem.W.keepIn K (.ref f)=true
section
variable {P:Program} {w:World} {K:zR} {mg:Ae} {base:Heap}
theorem Fun.ok {x qual:Str} {st:Stmt} {f:Addr} {fd:FuncData} {N ps:Ac} {k:Nat} {sp:Sp} (F:Fun K x qual st f fd) (S:FnScope N ps (aO st)) (len:∀ vs H Q E,sp vs H Q E->vs.length=ps.length)
  (hbody:∀ (cdv:Value) (A:Around) (outer:List Env) (s:Shared) (H:Hp) (vs:Ad) (Q:VK) (E:XK),Room k (A.deeper (envOfC qual (aO st) s.heap.objs.size f cdv))->sp vs H Q E ->
   ∃ t,PSs (iD iL P w K mg base N qual (aO st) f cdv A outer s H E).nox (gN st) t/\t { nx:=λ_ H'=>Q .non H',rt:=Q } (start N vs) H):FnOk P w K mg base iL (k+1) f fd ps sp:=by
 obtain ⟨oc,od,kV,doc,pm,an,cdv,ct,osl,rfl,lk,hcd⟩:=F.ex
 refine ZnT lk hcd S len λA outer s H vs Q E hr hsp=>?_
 obtain ⟨t,h,q⟩:=hbody cdv A outer s H vs Q E hr hsp
 exact ⟨t,h.nox,q⟩
theorem Fun.binds {x qual:Str} {st:Stmt} {f:Addr} {fd:FuncData} {ps:Ac} (F:Fun K x qual st f fd)
  (h:∀ (kV doc pm:Value) (an:Option Addr) (cdv ct:Value) (us:Ab),us.length=ps.length->bindArgs (PySem.W.fnOf x qual (lg st) (gN st) (aO st) .none kV doc pm an cdv ct) ⟨us,[]⟩=pure (ps.zip us)):Binds K fd ps []:=by
 obtain ⟨oc,od,kV,doc,pm,an,cdv,ct,osl,rfl,lk,hcd⟩:=F.ex
 exact .all (h kV doc pm an cdv ct)
theorem ZnS {x qual:Str} {st:Stmt} {f:Addr} {oc:Value} {od an:Option Addr} {osl:Array (Option Value)} {kV doc pm cdv ct:Value} (l:K.lookup f=some ⟨oc,od,.func (PySem.W.fnOf x qual (lg st) (gN st) (aO st) .none kV doc pm an cdv ct),osl⟩)
  (c:PySem.W.codeIn K cdv qual=true) (k:PySem.W.keepIn K (.ref f)=true):Fun K x qual st f (PySem.W.fnOf x qual (lg st) (gN st) (aO st) .none kV doc pm an cdv ct):=⟨⟨oc,od,kV,doc,pm,an,cdv,ct,osl,rfl,l,c⟩,k⟩
end
theorem pP {A:Around} {k:Nat} (hr:Room k A):A.units+1 < cLine:=xz (Nat.add_le_add_left (by decide:1<=64) _) hr.units
section
variable {X:Cx}
theorem pv (i:Nat) {x:Str} {pos:Pos} (hN:X.N[i]?=some x:=by rfl) (hv:qL X.env.scope x:=by first | exact Or.inl rfl | exact Or.inr (.inl rfl) | exact Or.inr (.inr rfl)) (hd:(x == ("__debug__":Str))=false:=by decide)
  (hcd:(x == ("__classdict__":Str))=false:=by decide):PE X (.Name x pos) (fA i):=ZlB hN hv hd hcd
end
theorem pN {c A B:Prop} [Decidable c] (h1:c->A) (h2:¬ c->B):if c then A else B:=by
 by_cases h:c
 ·rw [if_pos h]
  exact h1 h
 ·rw [if_neg h]
  exact h2 h
def Same (H H':Hp):Prop:=∀ b o,H b=some o->H' b=some o
theorem Same.refl (H:Hp):Same H H:=λ_ _ h=>h
theorem Same.seq {K:zR} {H H':Hp} {a:Addr} {xs:Ad} (e:Same H H') (h:SqL K H a xs):SqL K H' a xs:=by
 rcases h with (h | ⟨o,h⟩) | h
 ·exact .inl (.inl (e _ _ h))
 ·exact .inl (.inr ⟨o,e _ _ h⟩)
 ·exact .inr h
structure Blk where
 cl:List (Str×Addr)
 C:Addr
 s:Shared
 H:Hp
 fp:List Addr
 pn:List (Addr×Obj)
noncomputable def cg (X:Cx) (N:Ac) (scope:Scope) (b:Blk):Cx where
 prog:=X.prog
 w:=X.w
 K:=X.K
 mg:=X.mg
 base:=X.base
 A:=X.A
 N:=N
 s₀:=b.s
 H₀:=b.H
 env:=compEnvC scope b.cl b.C X.env
 outer:=X.stack
 stack:=X.stack
 ex:=b.fp
 fn:=λx=>scope.names.lookup x == some .cell
 calm:=X.calm
 pn:=b.pn
 xe:=λ_ _=>False
def bN (Nx ts:Ac) (ix:List Nat):Ac:=ts++ix.map λj=>(Nx[j]?).getD Str.empty
noncomputable def dS (n:Nat) (ix:List Nat) (σ:St):St:=List.replicate n none++ix.map λj=>(σ[j]?).getD none
structure BlkOk (Nx:Ac) (sc scope:Scope) (ix:List Nat):Prop where
 kind:scope.kind=.function
 cells:∀ y∈scope.names,y.2=.cell->scope.names.lookup y.1=some .cell
 locs:∀ y∈scope.names,y.2=.local->scope.names.lookup y.1=some .local
 frees:∀ y∈scope.names,y.2=.free->sc.names.lookup y.1=some .cell\/sc.names.lookup y.1=some .free
 caps:∀ j∈ix,j < Nx.length/\scope.names.lookup ((Nx[j]?).getD Str.empty)=some .free
theorem ut {env:Env} {f:Str×NameKind->List (Str×Addr)->Sem (ForInStep (List (Str×Addr)))}
  (h1:∀ n k r,k≠NameKind.free->f (n,k) r=pure (.yield r)) (h2:∀ n r c,env.cells.lookup n=some c->f (n,NameKind.free) r=pure (.yield ((n,c)::r))) :
  ∀ (names:List (Str×NameKind)) (acc:List (Str×Addr)),(∀ y∈names,y.2=.free->∃ c,env.cells.lookup y.1=some c)->(∀ x c,acc.lookup x=some c->env.cells.lookup x=some c) ->
   ∃ cl,forIn names acc f=pure cl/\(∀ x c,cl.lookup x=some c->env.cells.lookup x=some c)/\(∀ y∈names,y.2=.free->∃ c,cl.lookup y.1=some c)/\∀ x c,acc.lookup x=some c->∃ c',cl.lookup x=some c'
 | [],acc,_,ha=>⟨acc,rfl,ha,(λ_ h=>nomatch h),λx c h=>⟨c,h⟩⟩
 | (n,k)::names,acc,hn,ha=>by
  have hn':∀ y∈names,y.2=.free->∃ c,env.cells.lookup y.1=some c:=λy hy=>hn y (v3 _ hy)
  by_cases hk:k=.free
  ·subst hk
   obtain ⟨c,hc⟩:=hn (n,.free) wX rfl
   have ha':∀ x d,((n,c)::acc).lookup x=some d->env.cells.lookup x=some d:=λx d e=>by
    rw [wM] at e
    cases hx:x == n with
    | true =>
     rw [hx] at e
     have hxn:x=n:=by simpa using hx
     subst hxn
     cases e
     exact hc
    | false =>
     rw [hx] at e
     exact ha x d e
   obtain ⟨cl,e,p1,p2,p3⟩:=ut h1 h2 names ((n,c)::acc) hn' ha'
   refine ⟨cl,?_,p1,λy hy hf=>?_,λx d hx=>?_⟩
   ·rw [yV,h2 n acc c hc,pure_bind]
    exact e
   ·rcases wo.mp hy with rfl | hy
    ·exact p3 n c (by simp)
    ·exact p2 y hy hf
   ·by_cases e1:x=n
    ·subst e1
     exact p3 x c (by simp)
    ·exact p3 x d (by rw [wM,beq_false_of_ne e1]; exact hx)
  ·obtain ⟨cl,e,p1,p2,p3⟩:=ut h1 h2 names acc hn' ha
   refine ⟨cl,?_,p1,λy hy hf=>?_,p3⟩
   ·rw [yV,h1 n k acc hk,pure_bind]
    exact e
   ·rcases wo.mp hy with rfl | hy
    ·exact absurd hf hk
    ·exact p2 y hy hf
theorem uR {scope:Scope} {env:Env} (hn:∀ y∈scope.names,y.2=.free->∃ c,env.cells.lookup y.1=some c) :
  ∃ cl,closureFor scope env=pure cl/\(∀ x c,cl.lookup x=some c->env.cells.lookup x=some c)/\∀ y∈scope.names,y.2=.free->∃ c,cl.lookup y.1=some c:=by
 unfold closureFor
 have key:=ut (env:=env) (f:=λ(x:Str×NameKind) (r:List (Str×Addr))=>match x with
  | (name,kind)=>if (kind == NameKind.free)=true then (do let a <- cellOf env name; pure (ForInStep.yield ((name,a)::r))) else pure (ForInStep.yield r))
  (λn k r hk=>by
   have hb:(k == NameKind.free)=false:=by simpa using hk
   show (if (k == NameKind.free)=true then _ else _)=_
   rw [hb]
   rfl)
  (λn r c hc=>by
   show (do let a <- cellOf env n; pure (ForInStep.yield ((n,a)::r)))=_
   unfold cellOf
   rw [hc]
   rfl) scope.names [] hn (λx c h=>by simp at h)
 obtain ⟨cl,e,p1,p2,_⟩:=key
 refine ⟨cl,?_,p1,p2⟩
 show (forIn scope.names [] _ >>= λr=>pure r)=pure cl
 exact (congrArg (λt=>t >>= λr=>pure r) e).trans (pure_bind _ _)
section
variable {X:Cx} {pins:List (Addr×Obj)} {σ:St} {H:Hp} {s:Shared}
theorem ZkX {scope:Scope} {env:Env} {x:Str} (h:scope.names.lookup x=some .free):(relabel scope env).names.lookup x=some .cell\/(relabel scope env).names.lookup x=some .free:=by
 unfold relabel
 show List.lookup x (scope.names.map _)=_\/List.lookup x (scope.names.map _)=_
 generalize scope.names=l at h
 induction l with
 | nil=>simp at h
 | cons p r ih =>
  obtain ⟨n,k⟩:=p
  rw [v9]
  cases hx:x == n with
  | true =>
   rw [wM,hx] at h
   have hk:k=.free:=by simpa using h
   subst hk
   by_cases hc:(NameKind.free == NameKind.free && env.scope.kind == .function && env.kindOf n == some .cell)=true
   ·refine .inl ?_
    show List.lookup x ((if (NameKind.free == NameKind.free && env.scope.kind == .function && env.kindOf n == some .cell)=true then (n,NameKind.cell) else (n,NameKind.free))::_)=_
    rw [if_pos hc,wM,hx]
   ·refine .inr ?_
    show List.lookup x ((if (NameKind.free == NameKind.free && env.scope.kind == .function && env.kindOf n == some .cell)=true then (n,NameKind.cell) else (n,NameKind.free))::_)=_
    rw [if_neg hc,wM,hx]
  | false =>
   rw [wM,hx] at h
   have key:∀ q:Str×NameKind,(q=(n,NameKind.cell)\/q=(n,k))->∀ l',List.lookup x (q::l')=List.lookup x l':=λq hq l'=>by
    rcases hq with rfl | rfl <;> rw [wM,hx]
   have hq:(if (k == NameKind.free && env.scope.kind == .function && env.kindOf n == some .cell)=true then (n,NameKind.cell) else (n,k))=(n,NameKind.cell)\/(if (k == NameKind.free && env.scope.kind == .function && env.kindOf n == some .cell)=true then (n,NameKind.cell) else (n,k))=(n,k):=by
    split
    ·exact .inl rfl
    ·exact .inr rfl
   rcases ih h with z | z
   ·exact .inl ((key _ hq _).trans z)
   ·exact .inr ((key _ hq _).trans z)
theorem ZkY {scope:Scope} {env:Env} {x:Str} (h:(relabel scope env).names.lookup x=some .cell\/(relabel scope env).names.lookup x=some .free):∃ y∈scope.names,y.1=x/\(y.2=.free\/y.2=.cell):=by
 unfold relabel at h
 have h':List.lookup x (scope.names.map λ(n,k)=>if (k == .free && env.scope.kind == .function && env.kindOf n == some .cell) then (n,NameKind.cell) else (n,k))=some .cell\/List.lookup x (scope.names.map λ(n,k)=>if (k == .free && env.scope.kind == .function && env.kindOf n == some .cell) then (n,NameKind.cell) else (n,k))=some .free:=h
 clear h
 generalize scope.names=l at h'
 induction l with
 | nil=>simp at h'
 | cons p r ih =>
  obtain ⟨n,k⟩:=p
  rw [v9] at h'
  cases hx:x == n with
  | true =>
   have hxn:x=n:=by simpa using hx
   by_cases hk:k=.free
   ·exact ⟨(n,k),wX,hxn.symm,.inl hk⟩
   ·
    have hb:(k == NameKind.free)=false:=by simpa using hk
    have e:(if (k == NameKind.free && env.scope.kind == .function && env.kindOf n == some .cell)=true then (n,NameKind.cell) else (n,k))=(n,k):=by
     rw [hb]
     rfl
    have h2:List.lookup x ((n,k)::r.map λ(n,k)=>if (k == .free && env.scope.kind == .function && env.kindOf n == some .cell) then (n,NameKind.cell) else (n,k))=some .cell\/List.lookup x ((n,k)::r.map λ(n,k)=>if (k == .free && env.scope.kind == .function && env.kindOf n == some .cell) then (n,NameKind.cell) else (n,k))=some .free:=by
     rw [<- e]
     exact h'
    rw [wM,hx] at h2
    rcases h2 with z | z
    ·exact ⟨(n,k),wX,hxn.symm,.inr (wG z)⟩
    ·exact absurd (wG z) hk
  | false =>
   have hq:∀ q:Str×NameKind,(q=(n,NameKind.cell)\/q=(n,k))->∀ l',List.lookup x (q::l')=List.lookup x l':=λq hq l'=>by
    rcases hq with rfl | rfl <;> rw [wM,hx]
   have hqq:(if (k == NameKind.free && env.scope.kind == .function && env.kindOf n == some .cell)=true then (n,NameKind.cell) else (n,k))=(n,NameKind.cell)\/(if (k == NameKind.free && env.scope.kind == .function && env.kindOf n == some .cell)=true then (n,NameKind.cell) else (n,k))=(n,k):=by
    split
    ·exact .inl rfl
    ·exact .inr rfl
   obtain ⟨y,hy,e⟩:=ih (by
    rcases h' with z | z
    ·exact .inl ((hq _ hqq _).symm.trans z)
    ·exact .inr ((hq _ hqq _).symm.trans z))
   exact ⟨y,v3 _ hy,e⟩
theorem Zh3:∀ (names:List (Str×NameKind)) (h:Heap) (acc:List (Str×Addr)),
  (∀ x c,(cellsFrom h.objs.size names acc).lookup x=some c->acc.lookup x=some c\/(h.objs.size<=c/\(pushCells h names).IsCell c none/\(x,NameKind.cell)∈names)) /\
  (∀ x,((x,NameKind.cell)∈names\/∃ c,acc.lookup x=some c)->∃ c,(cellsFrom h.objs.size names acc).lookup x=some c) /\
  (∀ x c,(x,NameKind.cell)∈names->(cellsFrom h.objs.size names acc).lookup x=some c->h.objs.size<=c) /\
  ((∀ x c,acc.lookup x=some c->c < h.objs.size)->(∀ x y c,acc.lookup x=some c->acc.lookup y=some c->x=y)->∀ x y c,(cellsFrom h.objs.size names acc).lookup x=some c->(cellsFrom h.objs.size names acc).lookup y=some c->x=y):=by
 intro names
 induction names with
 | nil=>intro h acc; exact ⟨λx c e=>.inl e,λx e=>by rcases e with e | e; cases e; exact e,λx c e=>(by cases e),λ_ i=>i⟩
 | cons p r ih =>
  obtain ⟨name,kind⟩:=p
  intro h acc
  unfold cellsFrom pushCells
  by_cases hk:kind=.cell
  ·subst hk
   have hk':((NameKind.cell == NameKind.cell)=true):=rfl
   rw [if_pos hk',if_pos hk']
   have ih':=ih (h.push { cls:=.type "cell",data:=.cell none }) ((name,h.objs.size)::acc)
   rw [wT] at ih'
   obtain ⟨i1,i2,i4,i3⟩:=ih'
   refine ⟨λx c e=>?_,λx e=>?_,λx c e1 e2=>?_,λhb hi=>i3 (λx c e=>?_) λx y c e1 e2=>?_⟩
   ·rcases i1 x c e with z | ⟨z1,z2,z3⟩
    ·rw [wM] at z
     cases hx:x == name with
     | true =>
      rw [hx] at z
      have hxn:x=name:=by simpa using hx
      cases z
      exact .inr ⟨v4 _,⟨_,pushCells_keeps _ _ _ _ (v7 _ rfl),rfl⟩,by rw [hxn]; exact wX⟩
     | false=>rw [hx] at z; exact .inl z
    ·exact .inr ⟨by omega,z2,v3 _ z3⟩
   ·refine i2 x ?_
    by_cases hx:x=name
    ·exact .inr ⟨h.objs.size,by rw [wM,hx]; simp⟩
    ·rcases e with e | ⟨c,e⟩
     ·rcases wo.mp e with q | q
      ·exact absurd (congrArg Prod.fst q) hx
      ·exact .inl q
     ·exact .inr ⟨c,by rw [wM,beq_false_of_ne hx]; exact e⟩
   ·rcases i1 x c e2 with z | ⟨z,_,_⟩
    ·rw [wM] at z
     cases hx:x == name with
     | true=>rw [hx] at z; cases z; exact v4 _
     | false =>
      have hxn:x≠name:=by simpa using hx
      rcases wo.mp e1 with q | q
      ·exact absurd (congrArg Prod.fst q) hxn
      ·exact yE (i4 x c q e2)
    ·exact yE z
   ·rw [wM] at e
    cases hx:x == name with
    | true=>rw [hx] at e; cases e; exact yh _
    | false=>rw [hx] at e; exact xU (hb x c e)
   ·rw [wM] at e1 e2
    cases hx:x == name with
    | true =>
     have hxn:x=name:=by simpa using hx
     rw [hx] at e1
     cases e1
     cases hy:y == name with
     | true =>
      have hyn:y=name:=by simpa using hy
      rw [hxn,hyn]
     | false=>rw [hy] at e2; exact absurd (hb y _ e2) (wF _)
    | false =>
     rw [hx] at e1
     cases hy:y == name with
     | true=>rw [hy] at e2; cases e2; exact absurd (hb x _ e1) (wF _)
     | false=>rw [hy] at e2; exact hi x y c e1 e2
  ·have hk':¬ ((kind == NameKind.cell)=true):=by simpa using hk
   rw [if_neg hk',if_neg hk']
   obtain ⟨i1,i2,i4,i3⟩:=ih h acc
   refine ⟨λx c e=>?_,λx e=>i2 x ?_,λx c e1 e2=>?_,i3⟩
   ·rcases i1 x c e with z | ⟨z1,z2,z3⟩
    ·exact .inl z
    ·exact .inr ⟨z1,z2,v3 _ z3⟩
   ·rcases e with e | e
    ·rcases wo.mp e with q | q
     ·exact absurd (congrArg Prod.snd q).symm hk
     ·exact .inl q
    ·exact .inr e
   ·rcases wo.mp e1 with q | q
    ·exact absurd (congrArg Prod.snd q).symm hk
    ·exact i4 x c q e2
theorem Zai {M:Model} {A:Around} {E:z0} {s:Shared} {scope:Scope} {globals:Addr} {cl:List (Str×Addr)} {qual:Str} {outer:Env} {Q:Env->Shared->Prop}
  (h:Q { scope:=scope,locals:=s.heap.objs.size,globals:=globals,cells:=cellsFrom (s.heap.objs.size+1) scope.names cl,qual:=qual,func:=none,code:=outer.code,frame:=outer.frame,builtins:=outer.builtins } { s with heap:=pushCells (s.heap.push { cls:=.type "dict",data:=.dict #[] }) scope.names }) :
  wpAny M A (newFunctionEnv scope globals cl [] qual none .none (some outer)) Q E s:=by
 simp only [newFunctionEnv,Option.isSome_some,if_true]
 refine wpAny_bind (wpAny_alloc ?_)
 refine wpAny_bind (wpAny_layCells _ (λname kind cells=>by cases hkc:kind == NameKind.cell <;> simp [hkc]) _ _ _ _ ?_)
 rw [show ({ s with heap:=s.heap.push { cls:=.type "dict",data:=.dict #[] } }:Shared).heap.objs.size=s.heap.objs.size+1 from wT ..]
 rw [zJ]
 exact wpAny_bind (wpAny_pure (wpAny_pure h))
theorem Zqg {Nx ts:Ac} {ix:List Nat} {i:Nat} {x:Str} (h:(bN Nx ts ix)[i]?=some x) (hi:ts.length<=i):∃ j,ix[i - ts.length]?=some j/\x=(Nx[j]?).getD Str.empty:=by
 unfold bN at h
 rw [wL hi,v5] at h
 cases e:ix[i - ts.length]? with
 | none=>rw [e] at h; cases h
 | some j=>rw [e] at h; exact ⟨j,rfl,(wG h).symm⟩
theorem ZdW {scope:Scope} {cl:List (Str×Addr)} {fp:List Addr} {C:Addr} {h3:Heap} {tk:Nat} {m:Ae} {Nx ts:Ac} {ix:List Nat}
  (I:Inv X pins σ H s) (hNx:X.N=Nx) (ok:BlkOk Nx X.env.scope scope ix) (cs1:∀ x c,cl.lookup x=some c->X.env.cells.lookup x=some c\/(C < c/\h3.IsCell c none/\(x,NameKind.cell)∈scope.names)) (csI:∀ x y c,cl.lookup x=some c->cl.lookup y=some c->x=y) (cl2:∀ y∈scope.names,(y.2=.free\/y.2=.cell)->∃ c,cl.lookup y.1=some c) (csA:∀ x c,(x,NameKind.cell)∈scope.names->cl.lookup x=some c->C<=c)
  (hf:∀ b∈fp,gx X pins H b) (hfs:∀ b∈fp,b < s.heap.objs.size) (hC:s.heap.objs.size<=C) (kp:∀ b o,s.heap.get? b=some o->h3.get? b=some o) (hns:h3.Ns C m) :
  Inv (cg X (bN Nx ts ix) scope ⟨cl,C,s,H,fp,X.pn++pins⟩) [] (dS ts.length ix σ) H { s with heap:=h3,toks:=tk }:=by
 have below:∀ {b:Addr},b < s.heap.objs.size->b≠C:=λhb=>wy (wb hb hC)
 have nstk:∀ b,b≠X.env.locals->b ∉ X.fs->b ∉ frs X.stack:=λb h1 h2 hb=>by
  rcases wo.mp (I.stkSub b hb) with z | z
  ·exact h1 z
  ·exact h2 z
 refine ⟨⟨I.ok.mod,?_,I.ok.glob,I.ok.blt,hC,csI,λx hx=>?_,λx c hfn e=>wv hC (csA x c (xj (eq_of_beq hfn)) e),I.ok.hd,I.ok.frames,.inl rfl,λb hb=>⟨below (hfs b hb),λx c e=>by
  rcases cs1 x c e with z | ⟨z,_,_⟩
  ·exact (hf b hb).2.2.2.2.1 x c z
  ·exact wZ (wb (hfs b hb) (wv hC (x0 z)))⟩,I.bs,wv I.ok.bsz I.sz,λb o e hb=>?_,λb hb=>nstk b (hf b hb).2.1 (hf b hb).2.2.1,I.stack,I.stkFree⟩,
  rfl,I.bare,Un.kept kp,⟨m,hns,λi x v h1 h2 h3'=>?_⟩,λx c e=>?_,I.hok.fresh hC,λx c e=>by
  rcases cs1 x c e with z | ⟨z,_,_⟩
  ·exact I.freeC x c z
  ·exact I.hok.fresh (wv hC (x0 z)),λp hp=>?_,I.hok.kept kp,?_⟩
 ·exact ok.kind
 ·have hx':(relabel scope X.env).names.lookup x=some .cell\/(relabel scope X.env).names.lookup x=some .free:=hx
  obtain ⟨y,hy,e1,e2⟩:=ZkY hx'
  obtain ⟨c,hc⟩:=cl2 y hy e2
  exact ⟨c,by rw [<- e1]; exact hc⟩
 ·rcases (hf b hb).2.2.2.1 with z | z
  ·exact I.ok.noex b o e z
  ·exact absurd (wb (wk e) (wv I.ok.bsz z)) (wF _)
 ·have hi:ts.length<=i:=by
   rcases Nat.lt_or_ge i ts.length with z | z
   ·exfalso
    have h2':(dS ts.length ix σ)[i]?=some (some v):=h2
    unfold dS at h2'
    rw [wQ (by simpa using z),wJ] at h2'
    split at h2' <;> cases h2'
   ·exact z
  obtain ⟨j,hj,ex⟩:=Zqg h1 hi
  have h2':(dS ts.length ix σ)[i]?=some (some v):=h2
  unfold dS at h2'
  rw [wL (by simpa using hi),v5,yf,hj] at h2'
  have hσ:σ[j]?=some (some v):=by
   have q:(σ[j]?).getD none=some v:=wG h2'
   cases e:σ[j]? with
   | none=>rw [e] at q; cases q
   | some w=>rw [e] at q; exact congrArg some q
  obtain ⟨hjl,hfree⟩:=ok.caps j (xF hj)
  have hNj:X.N[j]?=some x:=by
   rw [hNx,ex,v6 hjl]
   rfl
  rw [<- ex] at hfree
  obtain ⟨c,hc⟩:=cl2 (x,.free) (xj hfree) (.inl rfl)
  have cl1:X.env.cells.lookup x=some c:=by
   rcases cs1 x c hc with z | ⟨_,_,z⟩
   ·exact z
   ·have:=ok.cells _ z rfl
    rw [hfree] at this
    cases this
  have kx:=ok.frees (x,.free) (xj hfree) rfl
  obtain ⟨m0,hn0,hl0⟩:=I.loc
  obtain ⟨u,ru,look⟩:=hl0 j x v hNj hσ (by rcases kx with z | z; exact .inr (.inl z); exact .inr (.inr z))
  refine ⟨u,ru,.inr ⟨ZkX hfree,c,hc,?_⟩⟩
  rcases look with ⟨k1,_⟩ | ⟨_,c',hc',z⟩
  ·have k1':X.env.scope.names.lookup x=some .local:=k1
   rcases kx with z | z
   ·rw [k1'] at z; cases z
   ·rw [k1'] at z; cases z
  ·have e:=cl1
   rw [hc'] at e
   cases e
   obtain ⟨o,ho,hd⟩:=z
   exact ⟨o,kp _ _ ho,hd⟩
 ·rcases cs1 x c e with z | ⟨_,z,_⟩
  ·obtain ⟨v,o,ho,hd⟩:=I.cell x c z
   exact ⟨v,o,kp _ _ ho,hd⟩
  ·exact ⟨_,z⟩
 ·have hp':p∈X.pn++pins:=by simpa [cg] using hp
  obtain ⟨e,n,ne,nf,d⟩:=I.pin p hp'
  exact ⟨kp _ _ e,n,below (wk e),nstk _ ne nf,d⟩
 ·show (dS ts.length ix σ).length=(bN Nx ts ix).length
  unfold dS bN
  simp
theorem Inv.track {D:Addr} {ys:Ad} {its:Ab} {n:Nat} (I:Inv X pins σ H s) (hD:H D=none) (ho:s.heap.get? D=some { cls:=.type "list",data:=.seq its.toArray n }) (r:Vals ys its) (hz:ys.length<=sizeLine)
  (hL:D≠X.env.locals) (hs0:X.s₀.heap.objs.size<=D) (hc:∀ x c,X.env.cells.lookup x=some c->c≠D) (hp:∀ p∈X.pn++pins,p.1≠D):Inv X pins σ (upd H D (.lst ys)) s:=by
 have ne:∀ {b:Addr} {o:HO},H b=some o->b≠D:=λe=>dh e hD
 refine I.step (g':=s.gens) (d':=s.drawn) (t':=s.toks) (h':=s.heap) (ch:=[D]) (λb hb=>?_) (λb o _ _ _ e _=>e) (λb o _ _ _ e _=>⟨o.slots,e⟩) (λb o hb e n=>?_) (λb o _ e=>⟨o,e⟩)
  (λb xs e=>by rw [a9 (ne e)]; exact e) (λb o u e=>by rw [a9 (ne e)]; exact e) (λb ps e=>⟨#[],by rw [a9 (ne e),e]; simp⟩) (λm hm=>hm) (λb u e=>?_) I.bare
 ·have e:b=D:=by simpa using hb
  subst e
  exact ⟨.inr hs0,hL,hc,hp⟩
 ·have hb':b≠D:=by simpa using hb
  rw [a9 hb']
  exact n
 ·by_cases hb:b=D
  ·subst hb
   rw [cA] at e
   cases e
   exact ⟨hz,its,n,r,ho⟩
  ·rw [a9 hb] at e
   exact (I.hok b u e).stay (λc v _ q=>q) (λc q=>by rw [a9 (ne q)]; exact q) λc xs q=>by rw [a9 (ne q)]; exact q
end
theorem Zps {prog:Program} {w:World} {A:Around} {R:Result->Shared->Prop} {s:Shared} {elt target iter:Expr} {scope:Scope} {pos:Pos} {it acc:Value} {env:Env} (J:Nat->Shared->Prop)
  (step:∀ k s0,J k s0->wpAny (model prog w) A (pyNext it) (λgot s1=>match got with
   | none=>R (.ok .next) s1
   | some v=>wpAny (model prog w) A (letOwnedTupleGo target it v) (λ_ s2=>wpAny (model prog w) A (assign target env v) (λ_ s3=>wpAny (model prog w) A (eval elt env) (λy s4 =>
     wpAny (model prog w) A (call (.builtin "list.append") [acc,y]) (λ_ s5=>∃ j,j < k/\J j s5) (λ_ _=>False) s4) (λ_ _=>False) s3) (λ_ _=>False) s2) (λ_ _=>False) s1) (λ_ _=>False) s0)
  (k:Nat) (h:J k s):codeAny (model prog w) A (.compLoop (.ListComp elt [⟨target,iter,[],0⟩] scope pos) 0 it acc env) R s:=by
 refine codeAny_loop rfl J (λk0 s0 hJ=>?_) k h
 show wpAny _ _ ((compTurn (.ListComp elt [⟨target,iter,[],0⟩] scope pos) 0 it acc env).onRaise (λx=>do noteFrame x env; theTreesLotGoes x)) _ _ s0
 apply wpAny_noted
 rw [compTurn_list1]
 refine wpAny_bind (wpAny_standAt (wpAny_bind (wpAny_mono (step k0 s0 hJ) (λgot s1 h1=>?_) λ_ _ z=>z.elim)))
 cases got with
 | none=>exact wpAny_pure h1
 | some v =>
  refine wpAny_bind (wpAny_mono h1 (λ_ s2 h2=>?_) λ_ _ z=>z.elim)
  refine wpAny_bind (wpAny_mono h2 (λ_ s3 h3=>?_) λ_ _ z=>z.elim)
  refine wpAny_bind (wpAny_bind (wpAny_mono h3 (λy s4 h4=>?_) λ_ _ z=>z.elim))
  exact wpAny_bind (wpAny_mono h4 (λ_ s5 h5=>wpAny_pure (wpAny_pure ⟨rfl,h5⟩)) λ_ _ z=>z.elim)
def lM (wi:TI) (n:Nat) (ix:List Nat) (g:Blk->TG) (te:Blk->TE):TE:=λσ H Q=>wi σ H λJ H1=>∀ b:Blk,∃ W:Nat->Nat->St->List V->Hp->Prop,(∃ m,W 0 m (dS n ix σ) [] H1)/\∀ i m τ ys H2,W i m τ ys H2 ->
 (J.stop i H2/\∀ p v H',H2 p=none->v=V.ref p->H'=upd H2 p (.lst ys)->Q v H') \/
 (J.go i H2/\ys.length < sizeLine/\∀ x H3,J.yld i H2 x H3->g b x τ H3 λτ2 H4=>te b τ2 H4 λy H5=>∃ m',m' < m/\W (i+1) m' τ2 (ys++[y]) H5)
section
variable {X:Cx} {pins:List (Addr×Obj)} {σ:St} {H:Hp} {s:Shared}
theorem ZdI {elt target iter:Expr} {scope:Scope} {pos:Pos} {Nx ts:Ac} {ix:List Nat} {g:Blk->TG} {te:Blk->TE} {cl:List (Str×Addr)} {s2:Shared} {itv:Value} {R:Value->Addr->Result->Shared->Prop}
  {E:z0} {Q:VK}
  (hc:X.calm=true) (hg:∀ b,PG (cg X (bN Nx ts ix) scope b) target (g b)) (he:∀ b,PE (cg X (bN Nx ts ix) scope b) elt (te b))
  (hNx:X.N=Nx) (ok:BlkOk Nx X.env.scope scope ix) (cl1:∀ x c,cl.lookup x=some c->X.env.cells.lookup x=some c) (cl2:∀ y∈scope.names,y.2=.free->∃ c,cl.lookup y.1=some c)
  (h2:qQ X pins σ target (λJ H1=>∀ b:Blk,∃ W:Nat->Nat->St->List V->Hp->Prop,(∃ m,W 0 m (dS ts.length ix σ) [] H1)/\∀ i m τ ys H2,W i m τ ys H2 ->
   (J.stop i H2/\∀ p v H',H2 p=none->v=V.ref p->H'=upd H2 p (.lst ys)->Q v H') \/
   (J.go i H2/\ys.length < sizeLine/\∀ x H3,J.yld i H2 x H3->g b x τ H3 λτ2 H4=>te b τ2 H4 λy H5=>∃ m',m' < m/\W (i+1) m' τ2 (ys++[y]) H5)) itv s2)
  (hR:∀ (D C:Addr) (H':Hp) (s':Shared) (v:V),Inv X pins σ H' s'->v=.ref D->Q v H'->(∃ m,s'.heap.Ns C m)->H' C=none->C≠X.env.locals->X.s₀.heap.objs.size<=C->(∀ x c,X.env.cells.lookup x=some c->c≠C)->(∀ p∈X.pn++pins,p.1≠C) ->
   R (.ref D) C (.ok .next) s') :
  wpAny (model X.prog X.w) X.A (newList []) (λacc s₃=>wpAny (model X.prog X.w) X.A (newFunctionEnv scope X.env.globals cl [] X.env.qual none .none (some X.env)) (λcenv s₄ =>
   codeAny (model X.prog X.w) X.A (.compStart (.ListComp elt [⟨target,iter,[],0⟩] scope pos) 0 itv acc { cenv with scope:=relabel scope X.env }) (R acc cenv.locals) s₄) E s₃) E s2:=by
 obtain ⟨it,fp,tn,J,H1,e,I2,T,st2,f2,q2⟩:=h2
 subst e
 refine wpAny_newObj_type (Zai ?_)
 dsimp only
 generalize hG:s2.heap.push { cls:=.type "list",dict:=none,data:=.seq ([]:Ab).toArray }=G
 have hGs:G.objs.size=s2.heap.objs.size+1:=by rw [<- hG,wT]
 have hfs:∀ b∈fp,b < s2.heap.objs.size:=λb hb=>let ⟨o,e,_⟩:=T.obj _ _ st2 b hb; wk e
 have kpG:∀ b o,G.get? b=some o->(pushCells (G.push { cls:=.type "dict",data:=.dict #[] }) scope.names).get? b=some o:=λb o e=>pushCells_keeps _ _ _ _ (vY _ e)
 have hns3:(pushCells (G.push { cls:=.type "dict",data:=.dict #[] }) scope.names).Ns G.objs.size (λ_=>none):=(Heap.Ns.new G (.type "dict")).keeps (pushCells_keeps _ _)
 obtain ⟨sp1,sp2,sp4,sp3⟩:=Zh3 scope.names (G.push { cls:=.type "dict",data:=.dict #[] }) cl
 rw [wT] at sp1 sp2 sp3 sp4
 generalize hh3:pushCells (G.push { cls:=.type "dict",data:=.dict #[] }) scope.names=h3 at kpG hns3 sp1 ⊢
 have kp:∀ b o,s2.heap.get? b=some o->h3.get? b=some o:=λb o e=>kpG b o (by rw [<- hG]; exact vY _ e)
 have hD3:h3.get? s2.heap.objs.size=some { cls:=.type "list",data:=.seq ([]:Ab).toArray }:=kpG _ _ (by rw [<- hG]; exact v7 _ rfl)
 have clB:∀ x c,cl.lookup x=some c->c < G.objs.size+1:=λx c e=>by
  obtain ⟨v,q⟩:=I2.cell x c (cl1 x c e)
  exact xU (wb q.lt (by rw [hGs]; exact Nat.le_succ _))
 have csI:=sp3 clB λx y c e1 e2=>I2.ok.inj x y c (cl1 x c e1) (cl1 y c e2)
 have cs1:∀ x c,(cellsFrom (G.objs.size+1) scope.names cl).lookup x=some c->X.env.cells.lookup x=some c\/(G.objs.size < c/\h3.IsCell c none/\(x,NameKind.cell)∈scope.names):=λx c e=>by
  rcases sp1 x c e with z | ⟨z1,z2,z3⟩
  ·exact .inl (cl1 x c z)
  ·exact .inr ⟨by omega,z2,z3⟩
 have cs2:∀ y∈scope.names,(y.2=.free\/y.2=.cell)->∃ c,(cellsFrom (G.objs.size+1) scope.names cl).lookup y.1=some c:=λy hy hk=>by
  refine sp2 y.1 ?_
  rcases hk with z | z
  ·exact .inr (cl2 y hy z)
  ·exact .inl (by rw [<- z]; exact hy)
 have csA:∀ x c,(x,NameKind.cell)∈scope.names->(cellsFrom (G.objs.size+1) scope.names cl).lookup x=some c->G.objs.size<=c:=λx c e1 e2=>yE (sp4 x c e1 e2)
 generalize hcs:cellsFrom (G.objs.size+1) scope.names cl=cs at csI cs1 cs2 csA ⊢
 generalize hCe:G.objs.size=C at hns3 cs1 csA ⊢
 have hC:s2.heap.objs.size<=C:=by omega
 have hDC:s2.heap.objs.size≠C:=by omega
 let B:Blk:=⟨cs,C,s2,H1,fp,X.pn++pins⟩
 have I3:Inv (cg X (bN Nx ts ix) scope B) [] (dS ts.length ix σ) H1 { s2 with heap:=h3 }:=ZdW I2 hNx ok cs1 csI cs2 csA f2 hfs hC kp hns3
 have fC:H1 s2.heap.objs.size=none:=I2.hok.fresh (v4 _)
 have cellIn:∀ x c,cs.lookup x=some c->c≠s2.heap.objs.size:=λx c e=>by
  rcases cs1 x c e with z | ⟨z,_,_⟩
  ·obtain ⟨v,q⟩:=I2.cell x c z
   exact wy q.lt
  ·exact wZ (xz hC z)
 have pinIn:∀ p∈X.pn++pins,p.1 < s2.heap.objs.size:=λp hp=>wk (I2.pin p hp).1
 have nofrs:s2.heap.objs.size ∉ frs X.stack:=λhb=>by
  rcases wo.mp (I2.stkSub _ hb) with z | z
  ·exact absurd I2.lt (by rw [<- z]; exact wF _)
  ·exact I2.nofs (v4 _) z
 -- a state with the list at its place,pinned
 have pinD:∀ {τ:St} {H':Hp} {s':Shared} {ob:Obj},Inv (cg X (bN Nx ts ix) scope B) [] τ H' s'->s'.heap.get? s2.heap.objs.size=some ob->H' s2.heap.objs.size=none->(∀ v,ob.data≠.cell v)->Inv (cg X (bN Nx ts ix) scope B) [(s2.heap.objs.size,ob)] τ H' s' :=
  λ{τ H' s' ob} I' ho hn hd=>I'.pins_of λp hp=>by
   have e:p=(s2.heap.objs.size,ob):=by simpa using hp
   subst e
   exact ⟨ho,hn,hDC,nofrs,hd⟩
 obtain ⟨W,⟨m0,w0⟩,turn⟩:=q2 B
 have stat:∀ {H':Hp} {ob:Obj},(∀ b∈fp,H' b=none)->∀ b∈fp,gx (cg X (bN Nx ts ix) scope B) [(s2.heap.objs.size,ob)] H' b:=λ{H' ob} hn b hb=>by
  refine ⟨hn b hb,wy (wb (hfs b hb) hC),λz=>?_,.inl hb,λx c e=>by
   rcases cs1 x c e with z | ⟨z,_,_⟩
   ·exact (f2 b hb).2.2.2.2.1 x c z
   ·exact wZ (wb (hfs b hb) (wv hC (x0 z))),λp hp=>?_⟩
  ·rcases wo.mp (I2.stkSub _ z) with q | q
   ·exact (f2 b hb).2.1 q
   ·exact (f2 b hb).2.2.1 q
  ·rcases wU.mp hp with z | z
   ·exact (f2 b hb).2.2.2.2.2 p z
   ·have e:p=(s2.heap.objs.size,ob):=by simpa using z
    subst e
    exact wZ (hfs b hb)
 have loop:∀ s4:Shared,s4={ s2 with heap:=h3 } ->
   codeAny (model X.prog X.w) X.A (.compLoop (.ListComp elt [⟨target,iter,[],0⟩] scope pos) 0 (.ref it) (.ref s2.heap.objs.size) (compEnvC scope cs C X.env)) (R (.ref s2.heap.objs.size) C) s4:=by
  rintro s4 rfl
  refine Zps (λk s'=>∃ i τ ys its n H',Inv (cg X (bN Nx ts ix) scope B) [(s2.heap.objs.size,({ cls:=.type "list",data:=.seq (List.toArray its) n }:Obj))] τ H' s'/\tn i s'.heap/\(∀ b∈fp,H' b=none)/\Vals ys its/\ys.length<=sizeLine/\W i k τ ys H') ?_ m0
   ⟨0,_,[],[],_,H1,pinD I3 hD3 fC (λv z=>by cases z),T.keep _ _ _ st2 λb hb o e=>kp b o e,λb hb=>(f2 b hb).1,.nil,wS _,w0⟩
  rintro k s5 ⟨i,τ,ys,its,n,H5,I5,st5,fr5,rv,hz,w5⟩
  rcases turn i k τ ys H5 w5 with ⟨stop,qn⟩ | ⟨go,hlt,step⟩
  ·refine thn (T.done (cg X (bN Nx ts ix) scope B) rfl rfl rfl hc i _ s5 τ H5 _ I5 (stat fr5) st5 stop) λgot s6 hz0=>?_
   obtain ⟨hr,I6⟩:=hz0
   subst hr
   obtain ⟨ho,hn,_,_,_⟩:=I6.pin (s2.heap.objs.size,({ cls:=.type "list",data:=.seq (List.toArray its) n }:Obj)) (wf _ (by simp))
   have I7:Inv X pins σ H5 s6:=I2.call' (ch:=fp) (H':=H5) (by exact I6.os) I6.base I6.hok I6.bare λb hb=>⟨(f2 b hb).2.2.2.1,(f2 b hb).2.1,(f2 b hb).2.2.2.2.1,(f2 b hb).2.2.2.2.2⟩
   have hs0:X.s₀.heap.objs.size<=s2.heap.objs.size:=I2.sz
   have I8:=I7.track hn ho rv hz (wZ I2.lt) hs0 (λx c e z=>by
    obtain ⟨v,q⟩:=I2.cell x c e
    exact absurd q.lt (by rw [z]; exact wF _)) (λp hp=>wy (pinIn p hp))
   obtain ⟨m6,hm6,_⟩:=I6.loc
   refine hR _ C _ s6 _ I8 rfl (qn _ _ _ hn rfl rfl) ⟨m6,hm6⟩ ?_ (λz=>?_) (wv hs0 hC) (λx c e z=>?_) λp hp=>wy (wb (pinIn p hp) hC)
   ·rw [a9 (Ne.symm hDC)]
    exact I6.free
   ·exact absurd (wb I2.lt hC) (by rw [z]; exact wF _)
   ·obtain ⟨v,q⟩:=I2.cell x c e
    exact absurd (wb q.lt hC) (by rw [z]; exact wF _)
  ·refine thn (T.item (cg X (bN Nx ts ix) scope B) rfl rfl rfl hc i _ s5 τ H5 _ I5 (stat fr5) st5 go) λgot s6 hz0=>?_
   obtain ⟨u,hr,h6⟩:=hz0
   subst hr
   refine thn h6 λ_ s7 hz0=>?_
   obtain ⟨x,H7,I7,r7,y7,st7,fr7⟩:=hz0
   have I7':=I7.pinned (stat fr7) (T.obj _ _ st7)
   refine thn (hg B _ s7 τ H7 x u _ I7' r7 (step x H7 y7)) λ_ s8 hz0=>?_
   obtain ⟨τ8,H8,I8,q8⟩:=hz0
   refine thn (he B _ s8 τ8 H8 _ I8 q8) λy s9 hz0=>?_
   obtain ⟨vy,H9,I9,r9,m',hm',w9⟩:=hz0
   obtain ⟨ho,hn,_,_,_⟩:=I9.pin (s2.heap.objs.size,({ cls:=.type "list",data:=.seq (List.toArray its) n }:Obj)) (wf _ (xX _ (by simp)))
   have lenv:=rv.length
   refine wpAny_list_append_plain (l:=s2.heap.objs.size) ⟨n,ho⟩ (λh' hpl hsb=>?_) (by rw [wa]; omega)
   obtain ⟨n',ho'⟩:=hpl
   have eobj:(its.toArray.push y)=List.toArray (its++[y]):=by simp
   rw [eobj] at ho'
   have I9':Inv (cg X (bN Nx ts ix) scope B) [] τ8 H9 s9:=I9.pins_of λp hp=>absurd hp (by simp)
   have I10:Inv (cg X (bN Nx ts ix) scope B) [] τ8 H9 { s9 with heap:=h' }:=I9'.turned (it:=s2.heap.objs.size) (t':=s9.toks) (λb o hb e=>(hsb.2 b hb).trans e) hn hDC (.inr (v4 _)) cellIn (λp hp=>by
    have hp':p∈(X.pn++pins)++[]:=hp
    rw [w8] at hp'
    exact wy (pinIn p hp'))
   refine ⟨m',hm',i+1,τ8,ys++[vy],its++[y],n',H9,pinD I10 ho' hn (λv z=>by cases z),?_,λb hb=>?_,rv.append (.cons r9 .nil),by rw [wu]; show ys.length+1<=_; omega,w9⟩
   ·refine T.keep _ _ _ st7 λb hb o e=>?_
    have q:=(I9.pin (b,o) (wf _ (wf _ (i6 hb e)))).1
    exact (hsb.2 b (wy (hfs b hb))).trans q
   ·obtain ⟨o,e,d⟩:=T.obj _ _ st7 b hb
    exact (I9.pin (b,o) (wf _ (wf _ (i6 hb e)))).2.1
 exact codeAny_compStart_list (loop _ rfl) (T.self X.A 0 _ _ _ (T.keep _ _ _ st2 λb hb o e=>kp b o e) (loop _ rfl))
theorem fI {elt target iter:Expr} {scope:Scope} {pos:Pos} {wi:TI} {g:Blk->TG} {te:Blk->TE} (Nx:Ac) (ts:Ac) (ix:List Nat)
  (hc:X.calm=true) (hi:PI X target iter wi) (hg:∀ b,PG (cg X (bN Nx ts ix) scope b) target (g b)) (he:∀ b,PE (cg X (bN Nx ts ix) scope b) elt (te b))
  (hNx:X.N=Nx) (ok:BlkOk Nx X.env.scope scope ix) (hs:∀ x,foldedSetIterable iter X.env x=pure x:=by intro _; rfl) :
  PE X (.ListComp elt [⟨target,iter,[],0⟩] scope pos) (lM wi ts.length ix g te):=by
 intro pins s σ H Q I h
 obtain ⟨cl,hcl,cl1,cl2⟩:=uR (scope:=scope) (env:=X.env) λy hy hf=>I.ok.has y.1 (ok.frees y hy hf)
 rw [eval_ListComp]
 refine wpAny_comprehension_free (use:=none) rfl hs hcl ok.kind ok.locs (thn (hi pins s σ H _ I h) λv s1 h1=>thn h1 λitv s2 h2=>?_)
 refine ZdI (R:=λacc C=>compPost (model X.prog X.w) X.A X.xe none (EP X pins σ Q) acc C) hc hg he hNx ok cl1 cl2 h2 ?_
 rintro D C H' s' v I' rfl q ⟨m,hm⟩ hn hL h0 hcl' hp
 exact ⟨m,hm,λh' hsb=>⟨.ref D,H',I'.turned (it:=C) (t':=s'.toks) (λb o hb e=>(hsb.2 b hb).trans e) hn hL (.inr h0) hcl' hp,rfl,q⟩⟩
theorem tj {elt target iter:Expr} {scope:Scope} {pos pos' spos:Pos} {wi:TI} {g:Blk->TG} {te:Blk->TE} {i:Nat} {x:Str} (Nx:Ac) (ts:Ac) (ix:List Nat)
  (hc:X.calm=true) (hN:X.N.Nodup) (hix:X.N[i]?=some x) (hx:X.env.scope.names.lookup x=some .local) (hi:PI X target iter wi) (hg:∀ b,PG (cg X (bN Nx ts ix) scope b) target (g b)) (he:∀ b,PE (cg X (bN Nx ts ix) scope b) elt (te b))
  (hNx:X.N=Nx) (ok:BlkOk Nx X.env.scope scope ix) (hsw:swapsWith (.ListComp elt [⟨target,iter,[],0⟩] scope pos) (some (.Name x pos')) spos.line X.env=pure true) (hs:∀ x,foldedSetIterable iter X.env x=pure x:=by intro _; rfl) :
  PS X (.Assign [.Name x pos'] (.ListComp elt [⟨target,iter,[],0⟩] scope pos) spos) (f8 (lM wi ts.length ix g te) (gL i)):=by
 intro pins s σ H D0 I h
 obtain ⟨cl,hcl,cl1,cl2⟩:=uR (scope:=scope) (env:=X.env) λy hy hf=>I.ok.has y.1 (ok.frees y hy hf)
 rw [exec_Assign_Name_used _ _ _ _ hsw]
 refine wpAny_bind (wpAny_standAt (wpAny_bind ?_))
 show wpAny _ X.A (do let _ <- comprehension (.ListComp elt [⟨target,iter,[],0⟩] scope pos) scope X.env _ (newList []) false (eval iter X.env) (some (assign (.Name x pos') X.env))) _ _ s
 refine wpAny_bind (thn (wpAny_comprehension_free (use:=some (assign (.Name x pos') X.env)) (Q:=λ_ s'=>SP X pins D0 .next s') rfl hs hcl ok.kind ok.locs (thn (hi pins s σ H _ I h) λv s1 h1=>thn h1 λitv s2 h2=>?_)) λ_ s' hq=>wpAny_pure (wpAny_pure hq))
 refine ZdI (R:=λacc C=>compPost (model X.prog X.w) X.A X.xe (some (assign (.Name x pos') X.env)) (λ_ s'=>SP X pins D0 .next s') acc C) (Q:=λx H1=>gL i x σ H1 D0.nx) hc hg he hNx ok cl1 cl2 h2 ?_
 rintro D C H' s' v I' rfl q ⟨m,hm⟩ hn hL h0 hcl' hp
 show wpAny _ X.A (assign (.Name x pos') X.env (.ref D)) _ _ _
 refine wpAny_assign_Name (ZaQ I' hN hix (.inl hx) (show RelV (.ref D) (.ref D) from rfl) (λs'' I'' hch=>?_) (.inr hx))
 obtain ⟨a,hsb,ha⟩:=hch
 have haC:C≠a:=by
  rcases ha with z | z
  ·rw [z]; exact hL
  ·exact λe=>hcl' _ _ z e.symm
 exact ⟨m,hm.sameBut hsb haC,λh'' hs''=>⟨_,H',I''.turned (it:=C) (t':=s''.toks) (λb o hb e=>(hs''.2 b hb).trans e) hn hL (.inr h0) hcl' hp,q⟩⟩
end
mutual
/-- the value bears the datum -/
inductive Dn (H:Hp):V->PyData->Prop
 | non:Dn H .non .none
 | bl (b:Bool):Dn H (.bl b) (.bool b)
 | int (i:Int):Dn H (.int i) (.int i)
 | str (x:Str):Dn H (.str x) (.str x)
 | tup {a:Addr} {xs:Ad} {ds:z9}:H a=some (.tup xs)->DnAll H xs ds->Dn H (.ref a) (.tuple ds)
 | lst {a:Addr} {xs:Ad} {ds:z9}:H a=some (.lst xs)->DnAll H xs ds->Dn H (.ref a) (.list ds)
 | dct {a:Addr} {ks:List (aM×V)} {ds:z9}:Rd H a (.dK ks)->DnAll H (ks.map (·.2)) ds->Dn H (.ref a) (.dict ((ks.map λk=>match k.1 with | .inl i=>PyData.int i | .inr x=>PyData.str x).zip ds))
inductive DnAll (H:Hp):List V->List PyData->Prop
 | nil:DnAll H [] []
 | cons {v:V} {vs:Ad} {d:PyData} {ds:z9}:Dn H v d->DnAll H vs ds->DnAll H (v::vs) (d::ds)
end
mutual
theorem Dn.mono {H H':Hp} (e:∀ b o,H b=some o->H' b=some o):∀ {v:V} {d:PyData},Dn H v d->Dn H' v d
 | _,_,.non=>.non
 | _,_,.bl b=>.bl b
 | _,_,.int i=>.int i
 | _,_,.str x=>.str x
 | _,_,.tup h r=>.tup (e _ _ h) (DnAll.mono e r)
 | _,_,.lst h r=>.lst (e _ _ h) (DnAll.mono e r)
 | _,_,.dct h r=>.dct (h.imp (e _ _) λ⟨o,h⟩=>⟨o,e _ _ h⟩) (DnAll.mono e r)
theorem DnAll.mono {H H':Hp} (e:∀ b o,H b=some o->H' b=some o):∀ {vs:Ad} {ds:z9},DnAll H vs ds->DnAll H' vs ds
 | _,_,.nil=>.nil
 | _,_,.cons r t=>.cons (Dn.mono e r) (DnAll.mono e t)
end
theorem DnAll.ints {H:Hp}:∀ ns:Aa,DnAll H (ns.map V.int) (ns.map PyData.int)
 | []=>.nil
 | n::ns=>.cons (.int n) (DnAll.ints ns)
theorem DnAll.length {H:Hp} {vs:Ad} {ds:z9} (h:DnAll H vs ds):vs.length=ds.length:=by
 induction vs generalizing ds with
 | nil=>cases h; rfl
 | cons v vs ih=>cases h with | cons r t=>exact congrArg (·+1) (ih t)
theorem DnAll.append {H:Hp} {vs ws:Ad} {ds es:z9} (h:DnAll H vs ds) (s:DnAll H ws es):DnAll H (vs++ws) (ds++es):=by
 induction vs generalizing ds with
 | nil=>cases h; exact s
 | cons v vs ih=>cases h with | cons r t=>exact .cons r (ih t)
mutual
/-- data without dicts -/
theorem Dn.reads {P:Program} {w:World} {H:Hp} {h:Heap} (ok:HOk P w H h):∀ {v:V} {d:PyData} {u:Value},Dn H v d->d.hasDict=false->RelV v u->∃ as,Reads h u d as
 | _,_,_,.non,_,r=>by cases r; exact ⟨_,.none⟩
 | _,_,_,.bl b,_,r=>by cases r; exact ⟨_,.bool b⟩
 | _,_,_,.int i,_,r=>by obtain ⟨t,rfl⟩:=r; exact ⟨_,.int i t⟩
 | _,_,_,.str x,_,r=>by obtain ⟨t,rfl⟩:=r; exact ⟨_,.str x t⟩
 | _,_,_,.tup e rs,hd,r=>by
  cases r
  obtain ⟨z,its,rv,o,h1,h2,n,h3⟩:=ok _ _ e
  obtain ⟨as,q⟩:=DnAll.reads ok rs (by simpa [PyData.hasDict] using hd) rv
  exact ⟨_,.tuple h1 h2 h3 (by simpa using q)⟩
 | _,_,_,.lst e rs,hd,r=>by
  cases r
  obtain ⟨z,its,n,rv,h1⟩:=ok _ _ e
  obtain ⟨as,q⟩:=DnAll.reads ok rs (by simpa [PyData.hasDict] using hd) rv
  exact ⟨_,.list h1 rfl rfl (by simpa using q)⟩
 | _,_,_,.dct e rs,hd,r=>by simp [PyData.hasDict] at hd
theorem DnAll.reads {P:Program} {w:World} {H:Hp} {h:Heap} (ok:HOk P w H h):∀ {vs:Ad} {ds:z9} {us:Ab},DnAll H vs ds->PyData.hasDictAll ds=false->Vals vs us->∃ as,ReadsAll h us ds as
 | _,_,_,.nil,_,r=>by cases r; exact ⟨_,.nil⟩
 | _,_,_,.cons p t,hd,r=>by
  cases r with
  | cons r1 r2 =>
   simp only [PyData.hasDictAll,Bool.or_eq_false_iff] at hd
   obtain ⟨as,q⟩:=Dn.reads ok p hd.1 r1
   obtain ⟨bs,q2⟩:=DnAll.reads ok t hd.2 r2
   exact ⟨_,.cons q q2⟩
end
section
variable {X:Cx}
theorem Zl2 {k:Nat} (hr:Room k X.A):OpR X (compareOp .Eq) (λx y H Q=>∃ d e,Dn H x d/\Dn H y e/\SeqAt.shaped d=true/\SeqAt.shaped e=true/\Q (.bl (PyData.eqv d e)) H):=by
 intro pins s σ H x y v u Q I rx ry h
 obtain ⟨d,e,hd,he,sd,se,q⟩:=h
 obtain ⟨as,r1⟩:=Dn.reads I.hok hd (yc _ (yk sd)) rx
 obtain ⟨bs,r2⟩:=Dn.reads I.hok he (yc _ (yk se)) ry
 exact SeqAt.compareEq_shaped r1 r2 sd se hr.units ⟨.bl _,H,I,rfl,q⟩
theorem ZlX {k:Nat} (hr:Room k X.A):OpR X (compareOp .NotEq) (λx y H Q=>∃ d e,Dn H x d/\Dn H y e/\SeqAt.shaped d=true/\SeqAt.shaped e=true/\Q (.bl (!PyData.eqv d e)) H):=by
 intro pins s σ H x y v u Q I rx ry h
 obtain ⟨d,e,hd,he,sd,se,q⟩:=h
 obtain ⟨as,r1⟩:=Dn.reads I.hok hd (yc _ (yk sd)) rx
 obtain ⟨bs,r2⟩:=Dn.reads I.hok he (yc _ (yk se)) ry
 exact SeqAt.compareNe_shaped r1 r2 sd se hr.units ⟨.bl _,H,I,rfl,q⟩
theorem Zh9:dM X (.type "range") (λxs H Q=>∃ i j:Int,xs=[.int i,.int j]/\∀ p,H p=none->Q (.ref p) (upd H p (.rng i j))):=by
 intro pins s σ H xs us Q I r h
 obtain ⟨i,j,rfl,q⟩:=h
 cases r with
 | cons r1 rr =>
  cases rr with
  | cons r2 rr =>
   cases rr
   obtain ⟨t,rfl⟩:=r1
   obtain ⟨u,rfl⟩:=r2
   refine call_range_2 ?_
   exact ⟨.ref s.heap.objs.size,_,I.laid (t':=s.toks+1) (λb o e=>vY _ e) (v4 _) (show ObjOk X.prog X.w _ _ _ (.rng i j) from ⟨t,u,s.toks,v7 _ rfl⟩),rfl,q _ (I.hok.fresh (v4 _))⟩
noncomputable def gb (lo:Int) (n:Nat):Ad:=(List.range n).map λ(k:Nat)=>V.int (lo+(k:Int))
theorem Zi6 (lo:Int):∀ (n:Nat) (l:Ab),l.length=n->(∀ (j:Nat) (v:Value),l[j]?=some v->∃ t,v=Value.int (lo+(j:Int)) t)->Vals (gb lo n) l:=by
 intro n
 unfold gb
 induction n with
 | zero =>
  intro l hl _
  have e:l=[]:=List.length_eq_zero_iff.mp hl
  subst e
  exact .nil
 | succ n ih =>
  intro l hl hl2
  obtain ⟨l',x,rfl⟩:∃ l' x,l=l'++[x]:=⟨l.dropLast,l.getLast (by intro e; rw [e] at hl; cases hl),(List.dropLast_concat_getLast _).symm⟩
  have hl':l'.length=n:=by rw [wu] at hl; simpa using hl
  rw [yp,xn]
  refine Vals.append (ih l' hl' λj v hv=>hl2 j v (by rw [wQ (v8.mp hv).1]; exact hv)) (.cons ?_ .nil)
  obtain ⟨t,e⟩:=hl2 n x (by rw [wL (by omega),hl',Nat.sub_self]; rfl)
  exact ⟨t,e⟩
end
end L2
set_option Elab.async false
set_option linter.all false
set_option maxRecDepth 100000
namespace L2
structure Def (K:zR) (mg:Ae) (x:Str) (st:Stmt) (ps:Ac):Prop where
 ex:∃ f fd,Fun K x x st f fd/\mg x=some (.ref f)/\Binds K fd ps []
structure Callee (P:Program) (w:World) (K:zR) (mg:Ae) (base:Heap) (x:Str) (k:Nat) (ps:Ac) (sp:Sp):Prop where
 ex:∃ f fd,FnOk P w K mg base iL k f fd ps sp/\mg x=some (.ref f)/\PySem.W.keepIn K (.ref f)=true/\Binds K fd ps []
section
variable {P:Program} {w:World} {K:zR} {mg:Ae} {base:Heap}
theorem Def.ok {x:Str} {st:Stmt} {N ps:Ac} {k:Nat} {sp:Sp} (D:Def K mg x st ps) (S:FnScope N ps (aO st)) (len:∀ vs H Q E,sp vs H Q E->vs.length=ps.length)
  (hbody:∀ (f:Addr) (cdv:Value) (A:Around) (outer:List Env) (s:Shared) (H:Hp) (vs:Ad) (Q:VK) (E:XK),Room k (A.deeper (envOfC x (aO st) s.heap.objs.size f cdv))->sp vs H Q E ->
   ∃ t,PSs (iD iL P w K mg base N x (aO st) f cdv A outer s H E).nox (gN st) t/\t { nx:=λ_ H'=>Q .non H',rt:=Q } (start N vs) H):Callee P w K mg base x (k+1) ps sp:=by
 obtain ⟨f,fd,F,hm,hb⟩:=D.ex
 exact ⟨f,fd,F.ok S len λcdv A outer s H vs Q E hr h=>hbody f cdv A outer s H vs Q E hr h,hm,F.kp,hb⟩
theorem Zoy {x:Str} {st:Stmt} {ps:Ac} {h:Heap} {f:Addr} {oc:Value} {od an:Option Addr} {osl:Array (Option Value)} {kV doc pm cdv ct:Value} (X:K.In h) (G:h.Ns mainGlobals mg)
  (a:PySem.W.nsIn K mainGlobals x=some (some (.ref f))) (l:K.lookup f=some ⟨oc,od,.func (PySem.W.fnOf x x (lg st) (gN st) (aO st) .none kV doc pm an cdv ct),osl⟩)
  (c:PySem.W.codeIn K cdv x=true) (k:PySem.W.keepIn K (.ref f)=true)
  (hb:∀ (kV doc pm:Value) (an:Option Addr) (cdv ct:Value) (us:Ab),us.length=ps.length->bindArgs (PySem.W.fnOf x x (lg st) (gN st) (aO st) .none kV doc pm an cdv ct) ⟨us,[]⟩=pure (ps.zip us)):Def K mg x st ps:=by
 have F:=ZnS (st:=st) l c k
 exact ⟨f,_,F,PySem.W.mg_of X G a,F.binds hb⟩
end
section
variable {X:Cx} {x:Str} {k:Nat} {ps:Ac} {sp:Sp} {e:Expr} {es:List Expr} {t:TA} {p pos:Pos}
theorem oG (C:Callee X.prog X.w X.K X.mg X.base x k ps sp) (hr:Room k X.A) (hg:Gl X x) (ha:PA X (e::es) t) (hdb:(x == ("__debug__":Str))=false:=by decide)
  (he:starEach (e::es) X.env=(false,eval e X.env)::starEach es X.env:=by rfl) (hpl:(backTo pos (starEach es X.env)).any (·.1)=false:=by rfl):PE X (.Call (.Name x p) (e::es) [] pos) (ZaA sp [] E0 t):=by
 obtain ⟨f,fd,F,hm,hk,hb⟩:=C.ex
 exact ZlP F hr hg hm hk hb .nil ZlU ha hdb he hpl
theorem ZlK {i:Int} (hg:Gl X x) (h:∃ t,X.mg x=some (.int i t)) (hd:(x == ("__debug__":Str))=false:=by decide):PE X (.Name x pos) (tC (.int i)):=by
 obtain ⟨t,e⟩:=h
 exact ZlJ hg e ⟨t,rfl⟩ hd
end
def ZjF (t:TS):TS:=λD σ H=>∃ J:St->Hp->Prop,t { D with nx:=J } σ H/\∀ σ' H',J σ' H'->D.nx σ' H'
def ZjE (t:TT):TT:=λσ H Q=>∃ J:Bool->Hp->Prop,t σ H J/\∀ b H',J b H'->Q b H'
section
variable {X:Cx} {st:Stmt} {e:Expr}
theorem PS.join {t:TS} (h:PS X st t):PS X st (ZjF t):=by
 rintro pins s σ H D I ⟨J,q,hJ⟩
 refine thn (h pins s σ H _ I q) λf s' z=>?_
 cases f with
 | next=>obtain ⟨σ',H',I',q'⟩:=z; exact ⟨σ',H',I',hJ _ _ q'⟩
 | brk=>exact z
 | cont=>exact z
 | ret u=>exact z
theorem PT.join {t:TT} (h:PT X e t):PT X e (ZjE t):=by
 rintro pins s σ H Q I ⟨J,q,hJ⟩
 refine thn (h pins s σ H _ I q) λb s' ⟨H',I',q'⟩=>⟨H',I',hJ _ _ q'⟩
end
def Kept (p:Addr) (H H':Hp):Prop:=∀ b o,H b=some o->b≠p->H' b=some o
theorem Kept.refl {p:Addr} {H:Hp}:Kept p H H:=λ_ _ h _=>h
theorem Kept.pen {p:Addr} {H H':Hp} {o:HO} (a:Kept p H H'):Kept p H (upd H' p o):=λc u h n=>by
 rw [a9 n]
 exact a c u h n
theorem Same.new {q:Addr} {H H':Hp} {o:HO} (a:Same H H') (hq:H' q=none):Same H (upd H' q o):=λc u h=>by
 have e:=a c u h
 rw [a9 (dh e hq)]
 exact e
theorem Zbc (ns:Aa):SeqAt.shaped (.list (ns.map PyData.int))=true:=by
 have h1:PyData.canLayAll0 (ns.map PyData.int)=true:=by
  induction ns with
  | nil=>rfl
  | cons n r ih=>simp [PyData.canLayAll0,PyData.canLay0,ih]
 have h2:PyData.depthAll (ns.map PyData.int)=0:=by
  induction ns with
  | nil=>rfl
  | cons n r ih=>simp [PyData.depthAll,PyData.depth]; exact ih (by
    have:=h1
    simp [PyData.canLayAll0] at this
    exact this.2)
 simp [SeqAt.shaped,PyData.canLay0,PyData.depth,h1,h2]
end L2
set_option Elab.async false
set_option linter.all false
set_option maxRecDepth 100000
namespace L2
section
variable {prog:Program} {w:World} {A:Around} {E:z0} {s:Shared} {r:Addr} {a b c:Int} {t u v:Tok} {n:Nat}
theorem Zpt {Q:List Value->Shared->Prop} (hh:A.handled=none) (hr:IsRange s.heap r a b c t u v) (hs:Builtin.Range.small a b c=true) (hn:Builtin.Range.rangeSize a b c=n) (hl:n<=2 ^ 24)
  (hQ:∀ (h':Heap) (tk:Nat) (acc:Array Value),(∀ b o,s.heap.get? b=some o->h'.get? b=some o)->ItemsOf (λi v=>∃ t,v=.int (a+i * c) t) acc n->Q acc.toList { s with heap:=h',toks:=tk }):wpAny (model prog w) A (collect (.ref r)) Q E s:=by
 unfold collect; apply wpAny_bind; apply wpAny_runValue; refine codeAny_builtin F.entry_proto_collect ?_
 rw [xv F.plain_proto_collect _]
 show wpAny _ A.in1 (newList [] >>= λz=>again (.builtin "list.__iadd__" ⟨[z,.ref r],[]⟩)) _ _ s
 refine wpAny_bind (wpAny_newObj_type (wpAny_pure ⟨plainId_quiet F.plain_list_iadd _,codeAny_builtin F.entry_list_iadd ?_⟩))
 rw [xv F.plain_list_iadd _]
 show wpAny _ A.in1 (Builtin.List.listExtendWith (.ref s.heap.objs.size) (.ref r) (.ref s.heap.objs.size)) _ _ { s with heap:=s.heap.push { cls:=.type "list",data:=.seq ([]:Ab).toArray } }
 let R:Result->Shared->Prop:=λz s'=>match z with
  | .ok (.ret v)=>wpAny (model prog w) A (match v with
   | .ref q=>(do match (<- load q).data with
    | .seq xs _=>pure xs.toList
    | _=>unsupported "internal:collect")
   | _=>unsupported "internal:collect") Q E s'
  | .ok _=>False
  | .error e=>E e s'
 refine wpAny_extend_range (R:=R) (s:={ s with heap:=s.heap.push { cls:=.type "list",data:=.seq ([]:Ab).toArray } }) hh (vY _ hr) hs hn hl _ _ _ (show (s.heap.push { cls:=.type "list",data:=.seq ([]:Ab).toArray }).get? s.heap.objs.size=some { cls:=.type "list",data:=.seq #[] } from v7 _ rfl) λh' tk acc c' hk hS hacc=>?_
 show wpAny _ A (load s.heap.objs.size >>= _) _ _ { s with heap:=h',toks:=tk }
 exact wpAny_bind (wpAny_load hS (wpAny_pure (hQ h' tk acc (λb o e=>hk b o (wy (wk e)) (vY _ e)) hacc)))
theorem Zjg {Q:z0} (hh:A.handled=none) (hr:IsRange s.heap r a b c t u v) (hs:Builtin.Range.small a b c=true) (hn:Builtin.Range.rangeSize a b c=n) (hl:n<=2 ^ 24)
  (hQ:∀ (h':Heap) (tk:Nat) (acc:Array Value),(∀ b o,s.heap.get? b=some o->h'.get? b=some o)->ItemsOf (λi v=>∃ t,v=.int (a+i * c) t) acc n->Q (.ref h'.objs.size) { s with heap:=h'.push { cls:=.type "tuple",data:=.seq acc },toks:=tk }) :
  wpAny (model prog w) A (call (.type "tuple") [.ref r]) Q E s:=by
 refine callType_codes (Q₁:=λz s1=>s1.TypeIs z "tuple"/\Q z s1) F.called_tuple (F.typeCall_tuple_1 _) F.entry_object_init ?_ λz s1 h1=>?_
 ·apply codeAny_of_tree
  show wpAny _ A.in1.in1 (do checkBuiltinCall "tuple.__new__" ⟨[.type "tuple",.ref r],[]⟩; again (.builtin "tuple.__new__" ⟨[.type "tuple",.ref r],[]⟩)) _ _ s
  refine wpAny_bind (wpAny_of_eq (F.newCall_tuple_1 _) (wpAny_pure ⟨plainId_quiet F.plain_tuple_new _,codeAny_builtin F.entry_tuple_new ?_⟩))
  rw [xv F.plain_tuple_new _]
  have f1:=sub_tuple_self; have f2:=init_tuple_lookup; have f3:=madeHere_tuple
  have fT:s.TypeIs (.ref r) "range":=⟨_,hr,rfl⟩
  wp_walk using wpAny_typeOf fT,Zpt (A:=A.in1.in1) hh hr hs hn hl
  intro h' tk acc hk hacc
  show wpAny _ _ (Builtin.Tuple.tupleExact acc.toList.toArray >>= λz=>ret z) _ _ _
  unfold Builtin.Tuple.tupleExact
  have e:acc.toList.toArray=acc:=by simp
  rw [e]
  refine wpAny_bind (wpAny_newObj_type (wpAny_pure ⟨⟨_,v7 _ rfl,rfl⟩,hQ h' tk acc hk hacc⟩) ?_)
  show acc.size<=sizeLine
  rw [hacc.1,sizeLine_eq]
  exact hl
 ·exact ⟨h1.1,zg z _,object_init_meets F.called_tuple.init.lookup F.called_tuple.made (by decide) prog w A.in1 _ s1 ⟨h1.1,rfl,h1.2⟩⟩
end
section
variable {X:Cx}
theorem ZpB (hh:X.A.handled=none):dM X (.type "tuple") (λxs H Q=>∃ a lo hi,xs=[.ref a]/\H a=some (.rng lo hi)/\-(2 ^ 62)<=lo/\lo < 2 ^ 62/\-(2 ^ 62)<=hi/\hi < 2 ^ 62/\(hi - lo).toNat<=1000/\∀ p,H p=none->Q (.ref p) (upd H p (.tup (gb lo (hi - lo).toNat)))):=by
 intro pins s σ H xs us Q I r h
 obtain ⟨a,lo,hi,rfl,ha,b1,b2,b3,b4,hn,q⟩:=h
 obtain ⟨u,rfl,ru⟩:=eB r
 cases ru
 obtain ⟨t,u,v,e⟩:=I.hok a _ ha
 have hsz:Builtin.Range.rangeSize lo hi 1=(((hi - lo).toNat:Nat):Int):=by rw [rangeSize_one]; split <;> omega
 refine Zjg hh (r:=a) (t:=t) (u:=u) (v:=v) e (small_one b1 b2 b3 b4) hsz (by omega) λh' tk acc hk hacc=>?_
 have I1:Inv X pins σ H { s with heap:=h',toks:=tk }:=I.kept hk
 have hv:Vals (gb lo (hi - lo).toNat) acc.toList:=Zi6 lo _ _ (by simpa using hacc.1) λj v hv=>by
  obtain ⟨t,e⟩:=hacc.2 j v (by simpa using hv)
  exact ⟨t,by rw [e,yL]⟩
 have hz:(gb lo (hi - lo).toNat).length<=sizeLine:=by
  unfold gb
  rw [vZ,wW]
  exact wv hn (by decide)
 refine ⟨.ref h'.objs.size,_,I1.laid (h':=h'.push { cls:=.type "tuple",data:=.seq acc }) (t':=tk) (λb o e=>vY _ e) (v4 _) (show ObjOk X.prog X.w _ _ _ (.tup (gb lo (hi - lo).toNat)) from ⟨hz,acc.toList,hv,⟨_,v7 _ rfl,rfl,0,by simp⟩⟩),rfl,q _ (I1.hok.fresh (v4 _))⟩
theorem Zmm:fillsNumberSlot (.type "tuple") "mul"=pure false :=
 PySem.fillsNumberSlot_seq (id:="tuple.__mul__") (r:=some (.builtin "tuple.__rmul__")) PySem.F.slot_tuple_mul.lookup (by trivial) PySem.F.slot_tuple_rmul.lookup (by trivial)
theorem ZkT:seqRepeat? (.type "tuple")=pure (some (.builtin "tuple.__mul__")):=by
 unfold seqRepeat?
 rw [PySem.seqSlot_of (T:="tuple") (name:="__mul__") (id:="tuple.__mul__") PySem.F.slot_tuple_mul.lookup (by trivial),PySem.seqSlot_of (T:="tuple") (name:="__rmul__") (id:="tuple.__rmul__") PySem.F.slot_tuple_rmul.lookup (by trivial)]; rfl
theorem ZkR (x:Int) (t:Tok) (l:Addr) (items:Array Value) (n:Nat) (dd:Option Addr) (sl:Array (Option Value)) :
  Meets (Builtin.«int.__rmul__» ⟨[.int x t,.ref l],[]⟩) (λ_ R s=>s.heap.get? l=some { cls:=.type "tuple",dict:=dd,data:=.seq items n,slots:=sl }/\R (.ok (.ret Value.notImplemented)) s):=by
 refine .of_wp λprog w A R s h=>?_
 obtain ⟨hp,g,d,tk,os⟩:=s
 obtain ⟨hl,h⟩:=h
 wp_walk
 exact ⟨_,rfl,h⟩
theorem Zmw (x:Int) (t:Tok) (l:Addr) (items:Array Value) (n:Nat) (dd:Option Addr) (sl:Array (Option Value)) (h1:1 < x) (h2:x<=1000) (h3:items.isEmpty=false) (h4:items.size<=1000) :
  Meets (Builtin.«tuple.__mul__» ⟨[.ref l,.int x t],[]⟩) (λ_ R s=>s.heap.get? l=some { cls:=.type "tuple",dict:=dd,data:=.seq items n,slots:=sl } /\
   R (.ok (.ret (.ref s.heap.objs.size))) { s with heap:=s.heap.push { cls:=.type "tuple",data:=.seq ((List.replicate x.toNat items).foldl (·++·) #[]) } }):=by
 refine .of_wp λprog w A R s h=>?_
 obtain ⟨hp,g,d,tk,os⟩:=s
 obtain ⟨hl,h⟩:=h
 have hp0:0<=(items.size:Int) * x:=xm (by omega) (by omega)
 have hp1:(items.size:Int) * x<=1000 * 1000:=Int.mul_le_mul (by omega) h2 (by omega) (by omega)
 have hne:items.size≠0:=λe=>by simp [Array.isEmpty,e] at h3
 wp_walk
 refine wpAny_ite_split (λz=>absurd z (by simp; omega)) (λ_=>?_)
 refine wpAny_bind ?_
 unfold Builtin.Tuple.tupleItemsOf
 refine wpAny_bind (wpAny_seqItems hl rfl (wpAny_pure ?_))
 refine wpAny_ite_split (λz=>absurd z (by rw [h3]; simp; omega)) (λ_=>?_)
 refine wpAny_ite_split (λz=>absurd z (by rw [h3]; simp; omega)) (λ_=>?_)
 refine wpAny_ite_split (λz=>absurd z (by omega)) (λ_=>?_)
 refine wpAny_ite_split (λz=>absurd z (by unfold Builtin.Tuple.tupleTooMany; rw [sizeLine_eq]; simp; omega)) (λ_=>?_)
 unfold Builtin.Tuple.tupleExact
 have hlen:∀ k:Nat,((List.replicate k items).foldl (·++·) #[]).size=k * items.size:=λk=>by
  have key:∀ (k:Nat) (acc:Array Value),((List.replicate k items).foldl (·++·) acc).size=acc.size+k * items.size:=by
   intro k
   induction k with
   | zero=>intro acc; simp
   | succ k ih =>
    intro acc
    rw [wI,zr,ih,Array.size_append,xP]
    omega
  simpa using key k #[]
 refine wpAny_bind (wpAny_newObj_type (wpAny_pure ⟨_,rfl,h⟩) ?_)
 show ((List.replicate x.toNat items).foldl (·++·) #[]).size<=sizeLine
 rw [hlen,sizeLine_eq]
 have hx:x.toNat<=1000:=by omega
 exact wv (zE hx h4) (by decide)
noncomputable def Zcj (K:zR):R2:=λx y H Q=>∃ a k xs,x=.ref a/\y=.int k/\SqT K H a xs/\1 < k/\k<=1000/\xs≠[]/\xs.length<=1000/\∀ p,H p=none->Q (.ref p) (upd H p (.tup (List.replicate k.toNat xs).flatten))
theorem Zao {xs:Ad} {us:Ab} (r:Vals xs us):∀ k:Nat,Vals (List.replicate k xs).flatten (List.replicate k us).flatten
 | 0=>.nil
 | k+1=>by
  rw [wI,wI,xa,xa]
  exact r.append (Zao r k)
theorem ZlW:OpR X (binaryOp .Mult) (Zcj X.K):=by
 intro pins s σ H x y v u Q I rx ry h
 obtain ⟨a,k,xs,rfl,rfl,hq,h1,h2,hne,hl,q⟩:=h
 cases rx
 obtain ⟨t,rfl⟩:=ry
 obtain ⟨its,rv,p,hz⟩:=I.tuple hq
 obtain ⟨o,ho,hc,n,hd⟩:=p
 obtain ⟨oc,od,odd,osl⟩:=o
 have hc':oc=.type "tuple":=hc
 have hd':odd=.seq its.toArray n:=hd
 subst hc' hd'
 have hlen:=rv.length
 have hemp:its.toArray.isEmpty=false:=by
  cases its with
  | nil=>cases rv; exact absurd rfl hne
  | cons i r=>rfl
 have efl:(List.replicate k.toNat its.toArray).foldl (·++·) #[]=(List.replicate k.toNat its).flatten.toArray:=by
  have key:∀ (k:Nat) (acc:Array Value),(List.replicate k its.toArray).foldl (·++·) acc=acc++(List.replicate k its).flatten.toArray:=by
   intro k
   induction k with
   | zero=>intro acc; simp
   | succ k ih =>
    intro acc
    rw [wI,zr,ih,wI,xa]
    simp
  simpa using key k.toNat #[]
 refine wpAny_binaryOp_repeat_ref (T:="tuple") (U:="int") (by decide) ⟨_,ho,rfl⟩ (λs'=>typeIs_int s' k t) Zmm PySem.F.fills_int_mul PySem.F.slot_int_rmul ZkT PySem.F.slot_int_index.lookup ?_
 refine call_meets PySem.F.slot_int_rmul (typeIs_int s k t) PySem.F.entry_int_rmul (PySem.F.args_int_rmul_2 _ _) (ZkR k t a its.toArray n od osl) ⟨ho,rfl,⟨_,ho,rfl⟩,?_⟩
 refine call_meets PySem.F.slot_tuple_mul ⟨_,ho,rfl⟩ PySem.F.entry_tuple_mul (PySem.F.args_tuple_mul_2 _ _) (Zmw k t a its.toArray n od osl h1 h2 hemp (by rw [wa]; omega)) ⟨ho,?_⟩
 rw [efl]
 have hzz:(List.replicate k.toNat xs).flatten.length<=sizeLine:=by
  have hx:k.toNat<=1000:=by omega
  have e:(List.replicate k.toNat xs).flatten.length=k.toNat * xs.length:=by simp
  rw [e,sizeLine_eq]
  exact wv (zE hx hl) (by decide)
 exact ⟨.ref s.heap.objs.size,_,I.laid (t':=s.toks) (λb o e=>vY _ e) (v4 _) (show ObjOk X.prog X.w _ _ _ (.tup (List.replicate k.toNat xs).flatten) from ⟨hzz,_,Zao rv k.toNat,IsTup.new _ _⟩),rfl,q _ (I.hok.fresh (v4 _))⟩
end
end L2
set_option Elab.async false
set_option linter.all false
set_option maxRecDepth 100000
namespace L2
theorem Zds {n:Nat} (h:n < 2 ^ 1900):n.log2 < 1900:=by
 by_cases h0:n=0
 ·rw [h0]; decide
 ·exact (yZ h0).mpr h
theorem Zkc {i:Int} (h:i.natAbs < 2 ^ 1900):(PyData.int i).shown.length<=1901:=by
 have e:=int_text_length_le (k:=1900) (by decide) (Zds h)
 have q:(Str.ofString (toString i)).length<=1901:=by rw [PySem.ofString_length]; exact e
 simpa [PyData.shown] using q
theorem Zba:∀ (ns:Aa),(∀ n∈ns,n.natAbs < 2 ^ 1900)->((PyData.shownAll (ns.map PyData.int)).map (·.length)).sum<=ns.length * 1901/\(PyData.shownAll (ns.map PyData.int)).length=ns.length
 | [],_=>⟨by simp [PyData.shownAll],rfl⟩
 | n::r,h=>by
  obtain ⟨h1,h2⟩:=Zba r λx hx=>h x (v3 _ hx)
  have h3:=Zkc (h n wX)
  rw [v9,PyData.shownAll,v9,xA,wc,wc,h2,xP]
  exact ⟨by omega,rfl⟩
theorem Zbb:∀ (ns:Aa),(∀ n∈ns,n.natAbs < 2 ^ 1900)->PyData.showableAll (ns.map PyData.int)=true
 | [],_=>rfl
 | n::r,h=>by
  rw [v9,PyData.showableAll,Zbb r λx hx=>h x (v3 _ hx),yM]
  have q:=Zds (h n wX)
  simp only [PyData.showable,decide_eq_true_eq]
  omega
noncomputable def aI (lo:Int) (n:Nat):Aa:=(List.range n).map λ(k:Nat)=>lo+(k:Int)
theorem Zk1 (lo:Int) (n:Nat):gb lo n=(aI lo n).map V.int:=by
 unfold gb aI
 rw [ww]
 rfl
theorem gA (lo:Int) (n:Nat):(aI lo n).length=n:=by
 unfold aI
 rw [vZ,wW]
theorem ma {lo x:Int} {n:Nat} (h:x∈aI lo n):lo<=x/\x < lo+n:=by
 unfold aI at h
 obtain ⟨k,hk,rfl⟩:=wP.mp h
 have:=wV.mp hk
 omega
end L2
set_option Elab.async false
set_option linter.all false
set_option maxRecDepth 100000
namespace L2
def CMulG (i j:Int):Prop:=i.natAbs < 2 ^ 8000/\j.natAbs < 2 ^ 8000
def ZiS (i j:Int):Prop:=j≠0/\j.natAbs < 2 ^ 8000
theorem Zik {x:Int} (h:x.natAbs < 2 ^ 8000):Builtin.Int.intBits x<=8000:=by
 unfold Builtin.Int.intBits
 split
 ·exact wS _
 ·rename_i hx
  have h0:x.natAbs≠0:=by
   intro z
   have e:x=0:=Int.natAbs_eq_zero.mp z
   rw [e] at hx
   exact hx rfl
  exact (yZ h0).mpr h
theorem CMulG.ok {i j:Int} (h:CMulG i j):IntMulOk i j:=by
 have h1:=Zik h.1
 have h2:=Zik h.2
 unfold IntMulOk
 have e:Builtin.Int.intTooBig ((Builtin.Int.intBits i+Builtin.Int.intBits j:Nat):Int)=false:=by
  unfold Builtin.Int.intTooBig
  refine decide_eq_false ?_
  have hb:((16000:Nat):Int)<=(bitsLine:Int):=by decide
  omega
 intro z
 rw [wl] at z
 have z2:Builtin.Int.intTooBig ((Builtin.Int.intBits i+Builtin.Int.intBits j:Nat):Int)=true:=z.2
 rw [e] at z2
 cases z2
section
variable {X:Cx}
theorem ZlZ:OpR X (binaryOp .Mult) (rI CMulG λi j=>.int (i * j)):=iY λ_ _ _ _ _ _ _ hc q=>mul_int q hc.ok
theorem h8:OpR X (binaryOp .FloorDiv) (rI ZiS λi j=>.int (i.fdiv j)):=iY λi j _ _ _ _ _ hc q=>by
 refine floordiv_int hc.1 q (.inl (PyProof.noPylong_of_log2 ?_))
 by_cases h0:j.natAbs=0
 ·exact absurd (Int.natAbs_eq_zero.mp h0) hc.1
 ·exact Nat.lt_trans ((yZ h0).mpr hc.2) (by decide)
theorem Zl0:OpR X (compareOp .IsNot) (λx y H Q=>∃ a b,x=.bl a/\y=.bl b/\Q (.bl (!(a == b))) H):=by
 intro pins s σ H x y v u Q I rx ry h
 obtain ⟨a,b,rfl,rfl,q⟩:=h
 cases rx
 cases ry
 refine wpAny_isNot_plain rfl ⟨.bl (!(a == b)),H,I,?_,q⟩
 cases a <;> cases b <;> rfl
theorem fQ:dM X (.builtin "isinstance") (λxs H Q=>∃ x T t b,xs=[x,.ty T]/\TyOf X.K H x t/\PySem.W.kitOne X.K t (.type T)=some b/\Q (.bl b) H):=by
 intro pins s σ H xs us Q I r h
 obtain ⟨x,T,t,b,rfl,ty,e,q⟩:=h
 obtain ⟨u,c,rfl,ru,rc⟩:=nX r
 cases rc
 exact Zno I ru ty e λtk=>⟨.bl b,H,I.tok tk,rfl,q⟩
end
end L2
set_option Elab.async false
set_option linter.all false
set_option maxRecDepth 100000
namespace Gc
noncomputable def jc (a b:Int):Int:=((Nat.gcd a.natAbs b.natAbs:Nat):Int)
noncomputable def den (t b:Int):Int:=if b < 0 then -jc t b else jc t b
noncomputable def cp (t b:Int):Int:=t.fdiv (den t b)
noncomputable def b9 (t b:Int):Int:=b.fdiv (den t b)
theorem um {t b:Int} (h:b≠0):0 < Nat.gcd t.natAbs b.natAbs:=zL _ (by omega)
theorem nh {t b:Int} (h:b≠0):den t b≠0:=by
 have:=um (t:=t) h
 unfold den jc
 split <;> omega
theorem uM (t b:Int):(den t b).natAbs=Nat.gcd t.natAbs b.natAbs:=by
 unfold den jc
 split <;> omega
theorem mN {t b:Int} (h:b≠0):t=den t b * cp t b/\b=den t b * b9 t b/\0 < b9 t b/\Nat.gcd (cp t b).natAbs (b9 t b).natAbs=1:=by
 have hd:=nh (t:=t) h
 have ha:=uM t b
 have hg:=um (t:=t) h
 have d1:den t b ∣ t:=Int.natAbs_dvd_natAbs.mp (by rw [ha]; exact Nat.gcd_dvd_left _ _)
 have d2:den t b ∣ b:=Int.natAbs_dvd_natAbs.mp (by rw [ha]; exact Nat.gcd_dvd_right _ _)
 obtain ⟨x,hx⟩:=d1
 obtain ⟨y,hy⟩:=d2
 have e1:cp t b=x:=by
  show t.fdiv (den t b)=x
  generalize den t b=d at hd hx
  rw [hx]
  exact zO _ hd
 have e2:b9 t b=y:=by
  show b.fdiv (den t b)=y
  generalize den t b=d at hd hy
  rw [hy]
  exact zO _ hd
 rw [e1,e2]
 refine ⟨hx,hy,?_,?_⟩
 ·have hb:(0 < b/\0 < den t b)\/(b < 0/\den t b < 0):=by
   unfold den jc
   split <;> omega
  rcases hb with ⟨p,q⟩ | ⟨p,q⟩
  ·rcases (show 0 < y\/y<=0 by omega) with z | z
   ·exact z
   ·exfalso
    have:=xm (wC q) (show 0<=-y by omega)
    rw [Int.mul_neg,<- hy] at this
    omega
  ·rcases (show 0 < y\/y<=0 by omega) with z | z
   ·exact z
   ·exfalso
    have:=xm (show 0<=-den t b by omega) (show 0<=-y by omega)
    rw [Int.neg_mul_neg,<- hy] at this
    omega
 ·have h1:t.natAbs=Nat.gcd t.natAbs b.natAbs * x.natAbs:=by
   have:=congrArg Int.natAbs hx
   rw [xl,ha] at this
   exact this
  have h2:b.natAbs=Nat.gcd t.natAbs b.natAbs * y.natAbs:=by
   have:=congrArg Int.natAbs hy
   rw [xl,ha] at this
   exact this
  have h3:Nat.gcd t.natAbs b.natAbs=Nat.gcd t.natAbs b.natAbs * Nat.gcd x.natAbs y.natAbs:=by
   rw [<- Nat.gcd_mul_left,<- h1,<- h2]
  have h4:Nat.gcd t.natAbs b.natAbs * 1=Nat.gcd t.natAbs b.natAbs * Nat.gcd x.natAbs y.natAbs:=by rw [Nat.mul_one]; exact h3
  exact (Nat.eq_of_mul_eq_mul_left hg h4).symm
theorem ZmP {t b:Int} (h:b≠0):(cp t b).natAbs<=t.natAbs/\(b9 t b).natAbs<=b.natAbs:=by
 obtain ⟨h1,h2,_,_⟩:=mN (t:=t) h
 have hg:=um (t:=t) h
 have ha:=uM t b
 constructor
 ·have e:=congrArg Int.natAbs h1
  rw [xl,ha] at e
  rw [e]
  exact Nat.le_mul_of_pos_left _ hg
 ·have e:=congrArg Int.natAbs h2
  rw [xl,ha] at e
  rw [e]
  exact Nat.le_mul_of_pos_left _ hg
theorem ZmO {t b u c:Int} (hb:0 < b) (hc:0 < c) (g1:Nat.gcd t.natAbs b.natAbs=1) (g2:Nat.gcd u.natAbs c.natAbs=1) (h:t * c=u * b):t=u/\b=c:=by
 have k1:b.natAbs ∣ c.natAbs:=by
  have d:b.natAbs ∣ t.natAbs * c.natAbs:=⟨u.natAbs,by rw [<- xl,h,xl,Nat.mul_comm]⟩
  exact zf (show Nat.Coprime b.natAbs t.natAbs by unfold Nat.Coprime; rw [yS]; exact g1) d
 have k2:c.natAbs ∣ b.natAbs:=by
  have d:c.natAbs ∣ u.natAbs * b.natAbs:=⟨t.natAbs,by rw [<- xl,<- h,xl,Nat.mul_comm]⟩
  exact zf (show Nat.Coprime c.natAbs u.natAbs by unfold Nat.Coprime; rw [yS]; exact g2) d
 have e:b=c:=by
  have:=Nat.dvd_antisymm k1 k2
  omega
 subst e
 exact ⟨xx (by omega) h,rfl⟩
end Gc
set_option Elab.async false
set_option linter.all false
set_option maxRecDepth 100000
namespace L2
def Codes (x:Str):Prop:=∀ c∈x.cps.toList,c < 16 ^ 8
theorem Codes.of (s:String):Codes (Str.ofString s):=by
 intro c hc
 rw [Str.ofString_eq_toList] at hc
 simp only [wP,List.toList_toArray] at hc
 obtain ⟨ch,_,rfl⟩:=hc
 exact wb ch.val.toNat_lt (by decide)
inductive El (H:Hp) (dk:Bool):V->PyData->String->Prop
 | non:El H dk .non .none "NoneType"
 | bl (b:Bool):El H dk (.bl b) (.bool b) "bool"
 | int (i:Int) (h:i.natAbs < 2 ^ 1900):El H dk (.int i) (.int i) "int"
 | str (x:Str) (h:Codes x) (hl:x.length<=300):El H dk (.str x) (.str x) "str"
 | lst {a:Addr} {ns:Aa} (hd:dk=false) (e:H a=some (.lst (ns.map V.int))) (hl:ns.length<=2) (hs:∀ n∈ns,n.natAbs < 2 ^ 1900):El H dk (.ref a) (.list (ns.map PyData.int)) "list"
 | tup {a:Addr} {ns:Aa} (e:H a=some (.tup (ns.map V.int))) (hl:ns.length<=2) (hs:∀ n∈ns,n.natAbs < 2 ^ 1900):El H dk (.ref a) (.tuple (ns.map PyData.int)) "tuple"
 | emp {a:Addr} (hd:dk=true) (e:H a=some (.dK [])):El H dk (.ref a) (.dict []) "dict"
 | one {a:Addr} {k i:Int} (hd:dk=true) (e:H a=some (.dK [(Sum.inl k,.int i)])) (hk:k.natAbs < 2 ^ 1900) (hi:i.natAbs < 2 ^ 1900):El H dk (.ref a) (.dict [(.int k,.int i)]) "dict"
def Els (H:Hp) (dk:Bool) (xs:Ad):Prop:=∀ x∈xs,∃ d t,El H dk x d t
inductive Tg (H:Hp):V->Prop
 | el {dk:Bool} {v:V} {d:PyData} {t:String} (e:El H dk v d t) (nt:t≠"tuple"):Tg H v
 | tup {a:Addr} {xs:Ad} (dk:Bool) (e:H a=some (.tup xs)) (hl:xs.length<=9) (h:Els H dk xs):Tg H (.ref a)
end L2
set_option Elab.async false
set_option linter.all false
set_option maxRecDepth 100000
namespace L2
inductive Tr (α:Type) where
 | ret (a:α)
 | draw (n:Int) (k:Int->Tr α)
 | fail
namespace Tr
variable {α β γ:Type}
noncomputable def bind:Tr α->(α->Tr β)->Tr β
 | .ret a,f=>f a
 | .draw n k,f=>.draw n λr=>(k r).bind f
 | .fail,_=>.fail
@[simp] theorem ret_bind (a:α) (f:α->Tr β):(Tr.ret a).bind f=f a:=rfl
@[simp] theorem draw_bind (n:Int) (k:Int->Tr α) (f:α->Tr β):(Tr.draw n k).bind f=.draw n λr=>(k r).bind f:=rfl
@[simp] theorem fail_bind (f:α->Tr β):(Tr.fail:Tr α).bind f=.fail:=rfl
@[simp] theorem bind_assoc:∀ (t:Tr α) (f:α->Tr β) (g:β->Tr γ),(t.bind f).bind g=t.bind λa=>(f a).bind g
 | .ret a,f,g=>rfl
 | .draw n k,f,g=>by simp only [draw_bind]; congr 1; funext r; exact bind_assoc (k r) f g
 | .fail,f,g=>rfl
noncomputable def of:Option α->Tr α
 | some a=>.ret a
 | none=>.fail
@[simp] theorem of_some (a:α):Tr.of (some a)=.ret a:=rfl
@[simp] theorem of_none:Tr.of (none:Option α)=.fail:=rfl
noncomputable def ok:Tr α->Nat->(Nat->α->Prop)->Prop
 | .ret a,m,Q=>Q m a
 | .draw n k,m,Q=>m < 400000/\0 < n/\n < 1073741824/\∀ r,0<=r->r < n->(k r).ok (m+1) Q
 | .fail,_,_=>False
theorem ok_mono:∀ {t:Tr α} {m:Nat} {Q Q':Nat->α->Prop},t.ok m Q->(∀ m a,Q m a->Q' m a)->t.ok m Q'
 | .ret a,m,_,_,h,hq=>hq m a h
 | .draw n k,m,_,_,⟨h1,h2,h3,h⟩,hq=>⟨h1,h2,h3,λr h0 h1=>ok_mono (h r h0 h1) hq⟩
theorem ok_bind:∀ {t:Tr α} {f:α->Tr β} {m:Nat} {Q:Nat->β->Prop},(t.bind f).ok m Q ↔ t.ok m λm' a=>(f a).ok m' Q
 | .ret a,f,m,Q=>Iff.rfl
 | .draw n k,f,m,Q=>by
  show (_/\_/\_/\∀ r,_) ↔ (_/\_/\_/\∀ r,_)
  refine and_congr_right λ_=>and_congr_right λ_=>and_congr_right λ_=>forall_congr' λr=>forall_congr' λ_=>forall_congr' λ_=>ok_bind
 | .fail,f,m,Q=>Iff.rfl
theorem ok_of {o:Option α} {m:Nat} {Q:Nat->α->Prop} (h:(Tr.of o).ok m Q):∃ a,o=some a/\Q m a:=by
 cases o with
 | none=>exact h.elim
 | some a=>exact ⟨a,rfl,h⟩
noncomputable def all:Tr α->Nat->(α->Prop)->Prop
 | .ret a,_,P=>P a
 | .draw w k,n+1,P=>0 < w/\w < 1073741824/\∀ r,0<=r->r < w->(k r).all n P
 | .draw _ _,0,_=>False
 | .fail,_,_=>False
theorem all_ok:∀ {t:Tr α} {n m:Nat} {P:α->Prop},t.all n P->m+n<=400000->t.ok m λm' a=>m'<=m+n/\P a
 | .ret a,n,m,P,h,hm=>⟨by omega,h⟩
 | .draw w k,n+1,m,P,⟨h1,h2,h⟩,hm=>⟨by omega,h1,h2,λr a b=>ok_mono (all_ok (h r a b) (by omega)) λm' x hz0=>by
  obtain ⟨p,q⟩:=hz0
  exact ⟨by omega,q⟩⟩
theorem all_mono:∀ {t:Tr α} {n n':Nat} {P P':α->Prop},t.all n P->n<=n'->(∀ a,P a->P' a)->t.all n' P'
 | .ret a,n,n',P,P',h,hn,hp=>hp a h
 | .draw w k,n+1,n'+1,P,P',⟨h1,h2,h⟩,hn,hp=>⟨h1,h2,λr a b=>all_mono (h r a b) (by omega) hp⟩
 | .draw w k,n+1,0,P,P',h,hn,hp=>by omega
theorem all_bind:∀ {t:Tr α} {f:α->Tr β} {n n':Nat} {P:α->Prop} {P':β->Prop},t.all n P->(∀ a,P a->(f a).all n' P')->(t.bind f).all (n+n') P'
 | .ret a,f,n,n',P,P',h,hf=>all_mono (hf a h) (by omega) λ_ x=>x
 | .draw w k,f,n+1,n',P,P',⟨h1,h2,h⟩,hf=>by
  have e:n+1+n'=(n+n')+1:=by omega
  rw [e]
  exact ⟨h1,h2,λr a b=>all_bind (h r a b) hf⟩
end Tr
abbrev Sub (G H:Hp):Prop:=∀ b o,G b=some o->H b=some o
structure Pk where
 is:HO->Hp->Nat->Prop
 mono:∀ {o:HO} {G G':Hp} {m:Nat},Sub G G'->is o G m->is o G' m
structure Wd (PK:Pk) (pa:Addr) (m:Nat) (G H:Hp):Prop where
 sub:Sub G H
 gpa:G pa=none
 pen:∃ o,H pa=some o/\PK.is o G m
structure Stp (pa:Addr) (G H G' H':Hp):Prop where
 gs:Sub G G'
 gn:∀ b o,G' b=some o->G b=some o\/H b=none
 hk:∀ b o,H b=some o->b≠pa->H' b=some o
theorem Stp.refl {pa:Addr} {G H:Hp}:Stp pa G H G H:=⟨λ_ _ h=>h,λ_ _ h=>.inl h,λ_ _ h _=>h⟩
theorem Stp.trans {pa:Addr} {G H G1 H1 G2 H2:Hp} (a:Stp pa G H G1 H1) (b:Stp pa G1 H1 G2 H2) (hp:∃ o,H1 pa=some o):Stp pa G H G2 H2:=by
 refine ⟨λc o h=>b.gs c o (a.gs c o h),λc o h=>?_,λc o h n=>b.hk c o (a.hk c o h n) n⟩
 rcases b.gn c o h with z | z
 ·exact a.gn c o z
 ·refine .inr ?_
  cases e:H c with
  | none=>rfl
  | some u =>
   by_cases hc:c=pa
   ·subst hc
    obtain ⟨o',z'⟩:=hp
    rw [z'] at z; cases z
   ·rw [a.hk c u e hc] at z; cases z
section
variable {PK:Pk} {pa:Addr} {m:Nat} {G H:Hp}
theorem Wd.some (w:Wd PK pa m G H):∃ o,H pa=some o:=let ⟨o,h,_⟩:=w.pen; ⟨o,h⟩
theorem Wd.ne (w:Wd PK pa m G H) {p:Addr} (hp:H p=none):pa≠p:=λe=>by
 obtain ⟨o,h⟩:=w.some
 rw [e,hp] at h; cases h
theorem Sub.new {p:Addr} {o:HO} (hp:G p=none):Sub G (upd G p o):=λb u h=>by rw [a9 (dh h hp)]; exact h
theorem Wd.gnone (w:Wd PK pa m G H) {p:Addr} (hp:H p=none):G p=none:=by
 cases e:G p with
 | none=>rfl
 | some o=>rw [w.sub p o e] at hp; cases hp
theorem Sub.upd2 {p:Addr} {o:HO} (s:Sub G H):Sub (upd G p o) (upd H p o):=λb u h=>by
 by_cases e:b=p
 ·subst e; rw [cA] at h ⊢; exact h
 ·rw [a9 e] at h ⊢; exact s b u h
theorem Wd.new (w:Wd PK pa m G H) {p:Addr} {o:HO} (hp:H p=none):Wd PK pa m (upd G p o) (upd H p o)/\Stp pa G H (upd G p o) (upd H p o):=by
 have hg:=w.gnone hp
 have hne:=w.ne hp
 refine ⟨⟨w.sub.upd2,by rw [a9 hne]; exact w.gpa,?_⟩,⟨Sub.new hg,λb u h=>?_,λb u h _=>by rw [a9 (dh h hp)]; exact h⟩⟩
 ·obtain ⟨u,h,q⟩:=w.pen
  exact ⟨u,by rw [a9 hne]; exact h,PK.mono (Sub.new hg) q⟩
 ·by_cases e:b=p
  ·subst e; exact .inr hp
  ·rw [a9 e] at h; exact .inl h
theorem Wd.own (w:Wd PK pa m G H) {p:Addr} {o:HO} (hp:H p=none):Wd PK pa m G (upd H p o)/\Stp pa G H G (upd H p o):=by
 have hne:=w.ne hp
 refine ⟨⟨λb u h=>by rw [a9 (dh (w.sub b u h) hp)]; exact w.sub b u h,w.gpa,?_⟩,⟨λ_ _ h=>h,λ_ _ h=>.inl h,λb u h _=>by rw [a9 (dh h hp)]; exact h⟩⟩
 obtain ⟨u,h,q⟩:=w.pen
 exact ⟨u,by rw [a9 hne]; exact h,q⟩
theorem Wd.freeze (w:Wd PK pa m G H) {p:Addr} {o:HO} (hp:H p=Option.some o) (hg:G p=none) (hne:pa≠p):Wd PK pa m (upd G p o) H:=by
 refine ⟨λb u h=>?_,by rw [a9 hne]; exact w.gpa,?_⟩
 ·by_cases e:b=p
  ·subst e; rw [cA] at h; rw [hp]; exact h
  ·rw [a9 e] at h; exact w.sub b u h
 ·obtain ⟨u,h,q⟩:=w.pen
  exact ⟨u,h,PK.mono (Sub.new hg) q⟩
def Kn (PK:Pk) (pa:Addr) (m:Nat) (G H:Hp) (x:PyData) (Q:VK):Prop:=∀ v G' H',Stp pa G H G' H'->Wd PK pa m G' H'->Dn G' v x->Q v H'
variable {x:PyData} {Q:VK} {v:V} {vs:Ad} {ds:z9} {p:Addr}
theorem Kn.here (k:Kn PK pa m G H x Q) (w:Wd PK pa m G H) (d:Dn G v x):Q v H:=k v G H .refl w d
theorem Kn.tup (k:Kn PK pa m G H (.tuple ds) Q) (w:Wd PK pa m G H) (d:DnAll G vs ds) (hp:H p=none):Q (.ref p) (upd H p (.tup vs)):=by
 obtain ⟨w1,s1⟩:=w.new (o:=.tup vs) hp
 exact k _ _ _ s1 w1 (.tup cA (DnAll.mono s1.gs d))
theorem Kn.lst (k:Kn PK pa m G H (.list ds) Q) (w:Wd PK pa m G H) (d:DnAll G vs ds) (hp:H p=none):Q (.ref p) (upd H p (.lst vs)):=by
 obtain ⟨w1,s1⟩:=w.new (o:=.lst vs) hp
 exact k _ _ _ s1 w1 (.lst cA (DnAll.mono s1.gs d))
theorem Kn.later {G1 H1:Hp} (k:Kn PK pa m G H x Q) (s:Stp pa G H G1 H1) (hp:∃ o,H1 pa=Option.some o):Kn PK pa m G1 H1 x Q:=λv G' H' s' w d=>k v G' H' (s.trans s' hp) w d
end
inductive Sl where
 | un | d (x:PyData) | own (xs:z9) | pen | dic (kvs:List (Int×PyData))
inductive KD (G:Hp):List (aM×V)->List (Int×PyData)->Prop
 | nil:KD G [] []
 | cons {i:Int} {v:V} {d:PyData} {ks:List (aM×V)} {kvs:List (Int×PyData)}:Dn G v d->KD G ks kvs->KD G ((.inl i,v)::ks) ((i,d)::kvs)
theorem KD.mono {G G':Hp} (s:Sub G G') {ks:List (aM×V)} {kvs:List (Int×PyData)} (h:KD G ks kvs):KD G' ks kvs:=by
 induction h with
 | nil=>exact .nil
 | cons h _ ih=>exact .cons (h.mono s) ih
inductive SlOk (pa:Addr) (H₀ G H:Hp):Option V->Sl->Prop
 | un {o:Option V}:SlOk pa H₀ G H o .un
 | d {v:V} {x:PyData}:Dn G v x->SlOk pa H₀ G H (some v) (.d x)
 | own {p:Addr} {vs:Ad} {xs:z9}:H p=some (.lst vs)->G p=none->H₀ p=none->DnAll G vs xs->SlOk pa H₀ G H (some (.ref p)) (.own xs)
 | pen:SlOk pa H₀ G H (some (.ref pa)) .pen
 | dic {p:Addr} {ks:List (aM×V)} {kvs:List (Int×PyData)}:H p=some (.dK ks)->G p=none->H₀ p=none->KD G ks kvs->SlOk pa H₀ G H (some (.ref p)) (.dic kvs)
structure Rl (PK:Pk) (pa:Addr) (Ag H₀:Hp) (m:Nat) (σ:St) (ρ:List Sl) (G H:Hp):Prop where
 wd:Wd PK pa m G H
 st:Stp pa Ag H₀ G H
 p0:∃ o,H₀ pa=some o
 sl:∀ (i:Nat) (s:Sl),ρ[i]?=some s->∃ o,σ[i]?=some o/\SlOk pa H₀ G H o s
 len:ρ.length=σ.length
 dj:∀ (i j:Nat) (xs ys:z9),i≠j->ρ[i]?=some (.own xs)->ρ[j]?=some (.own ys)->σ[i]?≠σ[j]?
 dj2:∀ (i j:Nat) (xs ys:List (Int×PyData)),i≠j->ρ[i]?=some (.dic xs)->ρ[j]?=some (.dic ys)->σ[i]?≠σ[j]?
section
variable {PK:Pk} {pa:Addr} {Ag H₀ G H:Hp} {m:Nat} {σ:St} {ρ:List Sl}
theorem oa {α:Type} {l:List α} {k i:Nat} {x y:α} (h:(l.set k x)[i]?=some y) (hn:x≠y):k≠i/\l[i]?=some y:=by
 have hi:k≠i:=λe=>by
  subst e
  have hl:k < l.length:=by
   have:=(v8.mp h).1
   rwa [wx] at this
  rw [wA hl] at h
  exact hn (wG h)
 rw [wq hi] at h
 exact ⟨hi,h⟩
theorem ZhP {α:Type} {T:α->Sl} {k:Nat} {x:Sl} {v:Option V} (dj:∀ (i j:Nat) (a b:α),i≠j->ρ[i]?=some (T a)->ρ[j]?=some (T b)->σ[i]?≠σ[j]?) (hn:∀ a,x≠T a) :
  ∀ (i j:Nat) (a b:α),i≠j->(ρ.set k x)[i]?=some (T a)->(ρ.set k x)[j]?=some (T b)->(σ.set k v)[i]?≠(σ.set k v)[j]?:=λi j a b hij h1 h2=>by
 obtain ⟨hi,h1⟩:=oa h1 (hn a)
 obtain ⟨hj,h2⟩:=oa h2 (hn b)
 rw [wq hi,wq hj]
 exact dj i j a b hij h1 h2
theorem ZhO {α:Type} {T:α->Sl} {k:Nat} {x:Sl} (dj:∀ (i j:Nat) (a b:α),i≠j->ρ[i]?=some (T a)->ρ[j]?=some (T b)->σ[i]?≠σ[j]?) (hn:∀ a,x≠T a) :
  ∀ (i j:Nat) (a b:α),i≠j->(ρ.set k x)[i]?=some (T a)->(ρ.set k x)[j]?=some (T b)->σ[i]?≠σ[j]?:=λi j a b hij h1 h2 =>
 dj i j a b hij (oa h1 (hn a)).2 (oa h2 (hn b)).2
theorem SlOk.step {G' H':Hp} {o:Option V} {s:Sl} (k:SlOk pa H₀ G H o s) (hp0:∃ o,H₀ pa=some o) (st:Stp pa G H G' H'):SlOk pa H₀ G' H' o s:=by
 cases k with
 | un=>exact .un
 | d h=>exact .d (h.mono st.gs)
 | pen=>exact .pen
 | @own p vs xs h1 h2 h3 h4 =>
  have hne:p≠pa:=λe=>by
   obtain ⟨u,hu⟩:=hp0
   rw [<- e,h3] at hu; cases hu
  refine .own (st.hk _ _ h1 hne) ?_ h3 (DnAll.mono st.gs h4)
  cases e:G' p with
  | none=>rfl
  | some u =>
   rcases st.gn p u e with z | z
   ·rw [h2] at z; cases z
   ·rw [h1] at z; cases z
 | @dic p ks kvs h1 h2 h3 h4 =>
  have hne:p≠pa:=λe=>by
   obtain ⟨u,hu⟩:=hp0
   rw [<- e,h3] at hu; cases hu
  refine .dic (st.hk _ _ h1 hne) ?_ h3 (h4.mono st.gs)
  cases e:G' p with
  | none=>rfl
  | some u =>
   rcases st.gn p u e with z | z
   ·rw [h2] at z; cases z
   ·rw [h1] at z; cases z
theorem Rl.step {G' H':Hp} {m':Nat} (r:Rl PK pa Ag H₀ m σ ρ G H) (s:Stp pa G H G' H') (w:Wd PK pa m' G' H'):Rl PK pa Ag H₀ m' σ ρ G' H' :=
 ⟨w,r.st.trans s r.wd.some,r.p0,λi sl h=>let ⟨o,h1,h2⟩:=r.sl i sl h; ⟨o,h1,h2.step r.p0 s⟩,r.len,r.dj,r.dj2⟩
theorem Rl.set (r:Rl PK pa Ag H₀ m σ ρ G H) {v:V} {x:PyData} (d:Dn G v x) (k:Nat):Rl PK pa Ag H₀ m (σ.set k (some v)) (ρ.set k (.d x)) G H:=by
 refine ⟨r.wd,r.st,r.p0,λi s h=>?_,by rw [wx,wx]; exact r.len,λi j xs ys hij h1 h2=>?_,ZhP r.dj2 λa h=>by cases h⟩
 ·by_cases e:k=i
  ·subst e
   have hl:k < ρ.length:=by
    have:=(v8.mp h).1
    rwa [wx] at this
   rw [wA hl] at h
   cases h
   exact ⟨_,wA (by rw [<- r.len]; exact hl),.d d⟩
  ·rw [wq e] at h ⊢
   exact r.sl i s h
 ·have hi:k≠i:=λe=>by
   subst e
   have hl:k < ρ.length:=by
    have:=(v8.mp h1).1
    rwa [wx] at this
   rw [wA hl] at h1; cases h1
  have hj:k≠j:=λe=>by
   subst e
   have hl:k < ρ.length:=by
    have:=(v8.mp h2).1
    rwa [wx] at this
   rw [wA hl] at h2; cases h2
  rw [wq hi] at h1 ⊢
  rw [wq hj] at h2 ⊢
  exact r.dj i j xs ys hij h1 h2
theorem Rl.setO (r:Rl PK pa Ag H₀ m σ ρ G H) {p:Addr} {vs:Ad} {xs:z9} (h1:H p=some (.lst vs)) (h2:G p=none) (h3:H₀ p=none) (h4:DnAll G vs xs)
  (hd:∀ (i:Nat) (ys:z9),ρ[i]?=some (.own ys)->σ[i]?≠some (some (.ref p))) (k:Nat):Rl PK pa Ag H₀ m (σ.set k (some (.ref p))) (ρ.set k (.own xs)) G H:=by
 have up:∀ {i:Nat} {s:Sl},(ρ.set k (.own xs))[i]?=some s->i=k->s=.own xs/\(σ.set k (some (V.ref p)))[i]?=some (some (.ref p)):=λ{i s} h e=>by
  subst e
  have hl:i < ρ.length:=by
   have:=(v8.mp h).1
   rwa [wx] at this
  rw [wA hl] at h
  cases h
  exact ⟨rfl,wA (by rw [<- r.len]; exact hl)⟩
 refine ⟨r.wd,r.st,r.p0,λi s h=>?_,by rw [wx,wx]; exact r.len,λi j ys zs hij e1 e2=>?_,ZhP r.dj2 λa h=>by cases h⟩
 ·by_cases e:i=k
  ·obtain ⟨e1,e2⟩:=up h e
   subst e1
   exact ⟨_,e2,.own h1 h2 h3 h4⟩
  ·rw [wq (Ne.symm e)] at h ⊢
   exact r.sl i s h
 ·by_cases ei:i=k
  ·have q:=(up e1 ei).2
   have hj:k≠j:=λe=>hij (ei.trans e)
   rw [q]
   rw [wq hj] at e2 ⊢
   exact λz=>hd j zs e2 z.symm
  ·rw [wq (Ne.symm ei)] at e1 ⊢
   by_cases ej:j=k
   ·rw [(up e2 ej).2]
    exact hd i ys e1
   ·rw [wq (Ne.symm ej)] at e2 ⊢
    exact r.dj i j ys zs hij e1 e2
theorem Rl.h0 (r:Rl PK pa Ag H₀ m σ ρ G H) {p:Addr} (hp:H p=none):H₀ p=none:=by
 cases e:H₀ p with
 | none=>rfl
 | some u =>
  by_cases hc:p=pa
  ·subst hc
   obtain ⟨o,h⟩:=r.wd.some
   rw [hp] at h; cases h
  ·rw [r.st.hk p u e hc] at hp; cases hp
theorem Rl.apart (r:Rl PK pa Ag H₀ m σ ρ G H) {p:Addr} (hp:H p=none) (i:Nat) (ys:z9) (h:ρ[i]?=some (.own ys)):σ[i]?≠some (some (.ref p)):=λe=>by
 obtain ⟨o,h1,h2⟩:=r.sl i _ h
 rw [e] at h1
 cases h1
 cases h2 with
 | own a _ _ _=>rw [hp] at a; cases a
theorem Rl.change (r:Rl PK pa Ag H₀ m σ ρ G H) {k:Nat} {xs ys:z9} {p:Addr} {ws:Ad} (hk:ρ[k]?=some (.own xs)) (hσ:σ[k]?=some (some (.ref p))) (d:DnAll G ws ys) :
  Rl PK pa Ag H₀ m σ (ρ.set k (.own ys)) G (upd H p (.lst ws)):=by
 obtain ⟨o,h1,h2⟩:=r.sl k _ hk
 rw [hσ] at h1
 cases h1
 cases h2 with
 | @own _ vs _ a1 a2 a3 a4 =>
  have hne:pa≠p:=λe=>by
   obtain ⟨u,hu⟩:=r.p0
   rw [e,a3] at hu; cases hu
  have hl:k < ρ.length:=(v8.mp hk).1
  refine ⟨⟨λb o h=>?_,r.wd.gpa,?_⟩,⟨r.st.gs,r.st.gn,λb o h hb=>?_⟩,r.p0,λi s h=>?_,by rw [wx]; exact r.len,λi j us ws hij e1 e2=>?_,ZhO r.dj2 λa h=>by cases h⟩
  ·rw [a9 (λe=>by subst e; rw [a2] at h; cases h)]
   exact r.wd.sub b o h
  ·obtain ⟨u,h,q⟩:=r.wd.pen
   exact ⟨u,by rw [a9 hne]; exact h,q⟩
  ·rw [a9 (λe=>by subst e; rw [a3] at h; cases h)]
   exact r.st.hk b o h hb
  ·by_cases e:k=i
   ·subst e
    rw [wA hl] at h
    cases h
    exact ⟨_,hσ,.own cA a2 a3 d⟩
   ·rw [wq e] at h
    obtain ⟨o,q1,q2⟩:=r.sl i s h
    refine ⟨o,q1,?_⟩
    cases q2 with
    | un=>exact .un
    | d z=>exact .d z
    | pen=>exact .pen
    | dic b1 b2 b3 b4=>exact .dic (by rw [a9 (λe2=>by subst e2; rw [a1] at b1; cases b1)]; exact b1) b2 b3 b4
    | own b1 b2 b3 b4 =>
     refine .own ?_ b2 b3 b4
     rw [a9]
     ·exact b1
     ·intro e2
      subst e2
      exact r.dj k i _ _ e hk h (by rw [hσ,q1])
  ·by_cases ei:k=i
   ·subst ei
    rw [wq hij] at e2
    exact r.dj k j _ _ hij hk e2
   ·rw [wq ei] at e1
    by_cases ej:k=j
    ·subst ej
     exact r.dj i k _ _ hij e1 hk
    ·rw [wq ej] at e2
     exact r.dj i j _ _ hij e1 e2
noncomputable def fz (k:Nat) (ρ:List Sl):List Sl:=match ρ[k]? with
 | some (.own xs)=>ρ.set k (.d (.list xs))
 | _=>ρ
theorem Rl.freeze (r:Rl PK pa Ag H₀ m σ ρ G H) (k:Nat):∃ G',Sub G G'/\Rl PK pa Ag H₀ m σ (fz k ρ) G' H:=by
 unfold fz
 split
 ·rename_i xs hk
  obtain ⟨o,h1,h2⟩:=r.sl k _ hk
  cases h2 with
  | @own p vs _ a1 a2 a3 a4 =>
   have hne:pa≠p:=λe=>by
    obtain ⟨u,hu⟩:=r.p0
    rw [e,a3] at hu; cases hu
   have hl:k < ρ.length:=(v8.mp hk).1
   have sb:Sub G (upd G p (.lst vs)):=Sub.new a2
   refine ⟨upd G p (.lst vs),sb,r.wd.freeze a1 a2 hne,⟨λb o h=>sb b o (r.st.gs b o h),λb o h=>?_,r.st.hk⟩,r.p0,λi s h=>?_,by rw [wx]; exact r.len,λi j us ws hij e1 e2=>?_,ZhO r.dj2 λa h=>by cases h⟩
   ·by_cases e:b=p
    ·subst e; exact .inr a3
    ·rw [a9 e] at h; exact r.st.gn b o h
   ·by_cases e:k=i
    ·subst e
     rw [wA hl] at h
     cases h
     exact ⟨_,h1,.d (.lst cA (DnAll.mono sb a4))⟩
    ·rw [wq e] at h
     obtain ⟨o,q1,q2⟩:=r.sl i s h
     refine ⟨o,q1,?_⟩
     cases q2 with
     | un=>exact .un
     | d z=>exact .d (z.mono sb)
     | pen=>exact .pen
     | dic b1 b2 b3 b4=>exact .dic b1 (by rw [a9 (λe2=>by subst e2; rw [a1] at b1; cases b1)]; exact b2) b3 (b4.mono sb)
     | own b1 b2 b3 b4 =>
      refine .own b1 ?_ b3 (DnAll.mono sb b4)
      rw [a9]
      ·exact b2
      ·intro e2
       subst e2
       exact r.dj k i _ _ e hk h (by rw [h1,q1])
   ·have hi:k≠i:=λe=>by subst e; rw [wA hl] at e1; cases e1
    have hj:k≠j:=λe=>by subst e; rw [wA hl] at e2; cases e2
    rw [wq hi] at e1
    rw [wq hj] at e2
    exact r.dj i j _ _ hij e1 e2
 ·exact ⟨G,λ_ _ h=>h,r⟩
end
end L2
set_option Elab.async false
set_option linter.all false
set_option maxRecDepth 100000
namespace L2
def TAe (PK:Pk) (i:List Sl->Tr PyData):TE:=λσ H Q=>∃ pa Ag H₀ m ρ G,Rl PK pa Ag H₀ m σ ρ G H/\(i ρ).ok m λm' x=>Kn PK pa m' G H x Q
def TAt (PK:Pk) (i:List Sl->Tr Bool):TT:=λσ H Q=>∃ pa Ag H₀ m ρ G,Rl PK pa Ag H₀ m σ ρ G H/\(i ρ).ok m λm' b=>∀ G' H',Stp pa G H G' H'->Wd PK pa m' G' H'->Q b H'
def TAd (PK:Pk) (i:List Sl->Tr z9):TA:=λσ H Q=>∃ pa Ag H₀ m ρ G,Rl PK pa Ag H₀ m σ ρ G H/\(i ρ).ok m λm' xs=>∀ vs G' H',Stp pa G H G' H'->Wd PK pa m' G' H'->DnAll G' vs xs->Q vs H'
def Ko1 (PK:Pk) (pa:Addr) (m:Nat) (G H:Hp) (xs:z9) (Q:VK):Prop:=∀ p vs G' H',Stp pa G H G' H'->Wd PK pa m G' H'->H p=none->G' p=none->H' p=some (.lst vs)->DnAll G' vs xs->Q (.ref p) H'
def ff (PK:Pk) (i:List Sl->Tr z9):TE:=λσ H Q=>∃ pa Ag H₀ m ρ G,Rl PK pa Ag H₀ m σ ρ G H/\(i ρ).ok m λm' xs=>Ko1 PK pa m' G H xs Q
inductive ArOk (pa:Addr) (G:Hp):V->Sl->Prop
 | d {v:V} {x:PyData}:Dn G v x->ArOk pa G v (.d x)
 | pen:ArOk pa G (.ref pa) .pen
inductive ArsOk (pa:Addr) (G:Hp):List V->List Sl->Prop
 | nil:ArsOk pa G [] []
 | cons {v:V} {vs:Ad} {s:Sl} {ss:List Sl}:ArOk pa G v s->ArsOk pa G vs ss->ArsOk pa G (v::vs) (s::ss)
theorem ArOk.mono {pa:Addr} {G G':Hp} {v:V} {s:Sl} (h:ArOk pa G v s) (e:Sub G G'):ArOk pa G' v s:=by
 cases h with
 | d z=>exact .d (z.mono e)
 | pen=>exact .pen
theorem ArsOk.mono {pa:Addr} {G G':Hp} (e:Sub G G') {vs:Ad} {ss:List Sl} (h:ArsOk pa G vs ss):ArsOk pa G' vs ss:=by
 induction h with
 | nil=>exact .nil
 | cons h t ih=>exact .cons (h.mono e) ih
theorem ArsOk.length {pa:Addr} {G:Hp} {vs:Ad} {ss:List Sl} (h:ArsOk pa G vs ss):vs.length=ss.length:=by
 induction h with
 | nil=>rfl
 | cons h t ih=>exact congrArg (·+1) ih
def TAa (PK:Pk) (i:List Sl->Tr (List Sl)):TA:=λσ H Q=>∃ pa Ag H₀ m ρ G,Rl PK pa Ag H₀ m σ ρ G H/\(i ρ).ok m λm' as=>∀ vs G' H',Stp pa G H G' H'->Wd PK pa m' G' H'->ArsOk pa G' vs as->Q vs H'
inductive Re where
 | d (x:PyData) | own (xs:z9)
noncomputable def Re.val:Re->PyData
 | .d x=>x
 | .own xs=>.list xs
@[simp] theorem Re.val_d (x:PyData):(Re.d x).val=x:=rfl
@[simp] theorem Re.val_own (xs:z9):(Re.own xs).val=.list xs:=rfl
inductive Ou where
 | next (ρ:List Sl) | ret (r:Re) | brk (ρ:List Sl) | cont (ρ:List Sl)
abbrev zS:=List Sl->Tr PyData
abbrev zT:=List Sl->Tr (List PyData)
abbrev zU:=List Sl->Tr Bool
abbrev zV:=List Sl->Tr Ou
abbrev zW:=List Sl->Tr Re
abbrev zX:=List PyData->List Sl->Option (List Sl)
abbrev zY:=PyData->List Sl->Option (List Sl)
abbrev Af:=List Sl
noncomputable def ZqP (H₀ G H:Hp) (v:V):Re->Prop
 | .d x=>Dn G v x
 | .own xs=>∃ p vs,v=.ref p/\H p=some (.lst vs)/\G p=none/\H₀ p=none/\DnAll G vs xs
def Kr (PK:Pk) (pa:Addr) (m:Nat) (Ag H₀:Hp) (r:Re) (Q:VK):Prop:=∀ v G H,Stp pa Ag H₀ G H->Wd PK pa m G H->ZqP H₀ G H v r->Q v H
noncomputable def Ko (PK:Pk) (pa:Addr) (Ag H₀ Gs:Hp) (D:Ends) (m:Nat):Ou->Prop
 | .next ρ=>∀ σ G H,Sub Gs G->Rl PK pa Ag H₀ m σ ρ G H->D.nx σ H
 | .ret r=>Kr PK pa m Ag H₀ r D.rt
 | .brk ρ=>∀ σ G H,Sub Gs G->Rl PK pa Ag H₀ m σ ρ G H->D.bk σ H
 | .cont ρ=>∀ σ G H,Sub Gs G->Rl PK pa Ag H₀ m σ ρ G H->D.ct σ H
def bT (PK:Pk) (i:zV):TS:=λD σ H=>∃ pa Ag H₀ m ρ G,Rl PK pa Ag H₀ m σ ρ G H/\(i ρ).ok m (Ko PK pa Ag H₀ G D)
theorem PE.imp {X:Cx} {e:Expr} {t t':TE} (h:PE X e t) (q:∀ σ H Q,t' σ H Q->t σ H Q):PE X e t':=λpins s σ H Q I z=>h pins s σ H Q I (q σ H Q z)
theorem PT.imp {X:Cx} {e:Expr} {t t':TT} (h:PT X e t) (q:∀ σ H Q,t' σ H Q->t σ H Q):PT X e t':=λpins s σ H Q I z=>h pins s σ H Q I (q σ H Q z)
theorem PW.imp {X:Cx} {e:Expr} {t t':TT} (h:PW X e t) (q:∀ σ H Q,t' σ H Q->t σ H Q):PW X e t':=λwh pins s σ H Q I z=>h wh pins s σ H Q I (q σ H Q z)
theorem PA.imp {X:Cx} {e:List Expr} {t t':TA} (h:PA X e t) (q:∀ σ H Q,t' σ H Q->t σ H Q):PA X e t':=λpos pins s σ H Q I z=>h pos pins s σ H Q I (q σ H Q z)
theorem PS.imp {X:Cx} {e:Stmt} {t t':TS} (h:PS X e t) (q:∀ D σ H,t' D σ H->t D σ H):PS X e t':=λpins s σ H D I z=>h pins s σ H D I (q D σ H z)
theorem PSs.imp {X:Cx} {e:List Stmt} {t t':TS} (h:PSs X e t) (q:∀ D σ H,t' D σ H->t D σ H):PSs X e t':=λpins s σ H D I z=>h pins s σ H D I (q D σ H z)
variable {PK:Pk} {X:Cx} {a b c e:Expr} {es:List Expr} {pos:Pos} {i j l:zS}
theorem TAe.then {σ:St} {H:Hp} {β:Type} {k:PyData->Tr β} {Z:Nat->β->Prop} {Q:VK} {pa:Addr} {Ag H₀ G:Hp} {m:Nat} {ρ:Af} (R:Rl PK pa Ag H₀ m σ ρ G H) (h:((i ρ).bind k).ok m Z)
  (hq:∀ m1 x v G1 H1,Stp pa G H G1 H1->Wd PK pa m1 G1 H1->Rl PK pa Ag H₀ m1 σ ρ G1 H1->Dn G1 v x->(k x).ok m1 Z->Q v H1):TAe PK i σ H Q:=by
 refine ⟨pa,Ag,H₀,m,ρ,G,R,Tr.ok_mono (Tr.ok_bind.mp h) λm1 x hx v G1 H1 s1 w1 d1=>?_⟩
 exact hq m1 x v G1 H1 s1 w1 (R.step s1 w1) d1 hx
noncomputable def aa (k:Nat):zS:=λρ=>match ρ[k]? with
 | some (.d x)=>.ret x
 | _=>.fail
noncomputable def aC (d:PyData):zS:=λ_=>.ret d
theorem ab {k:Nat} (h:PE X e (fA k)):PE X e (TAe PK (aa k)):=h.imp λσ H Q hz0=>by
 obtain ⟨pa,Ag,H₀,m,ρ,G,R,q⟩:=hz0
 unfold aa at q
 split at q
 ·rename_i x hx
  obtain ⟨o,h1,h2⟩:=R.sl k _ hx
  cases h2 with
  | d z=>exact ⟨_,h1,Kn.here q R.wd z⟩
 ·exact q.elim
theorem nw {v:V} {d:PyData} (h:PE X e (tC v)) (hd:∀ G,Dn G v d):PE X e (TAe PK (aC d)):=h.imp λσ H Q hz0=>by
 obtain ⟨pa,Ag,H₀,m,ρ,G,R,q⟩:=hz0
 exact Kn.here q R.wd (hd G)
theorem ai {n:Int} {k pos}:PE X (.Constant (.int n) k pos) (TAe PK (aC (.int n))):=nw cJ λ_=>.int n
theorem cL {n:Bool} {k pos}:PE X (.Constant (.bool n) k pos) (TAe PK (aC (.bool n))):=nw ZlR λ_=>.bl n
theorem qy {k pos}:PE X (.Constant .none k pos) (TAe PK (aC .none)):=nw ZlF λ_=>.non
theorem ZiF {x:Str} {k pos}:PE X (.Constant (.str x) k pos) (TAe PK (aC (.str x))):=nw eI λ_=>.str x
theorem cU {x:Str} {n:Int} (hg:Gl X x) (h:∃ t,X.mg x=some (.int n t)) (hd:(x == ("__debug__":Str))=false:=by decide):PE X (.Name x pos) (TAe PK (aC (.int n))):=nw (ZlK hg h hd) λ_=>.int n
def cI (r:R2) (f:zZ):Prop:=∀ (PK:Pk) (pa:Addr) (m:Nat) (G H:Hp) (x y:V) (dx dy dz:PyData) (Q:VK),Wd PK pa m G H->Dn G x dx->Dn G y dy->f dx dy=some dz->Kn PK pa m G H dz Q->r x y H Q
noncomputable def ac (f:zZ) (i j:zS):zS:=λρ=>(i ρ).bind λx=>(j ρ).bind λy=>Tr.of (f x y)
theorem qJ {r:R2} {f:zZ} (hv:cI r f):∀ σ H Q,TAe PK (ac f i j) σ H Q->jz r (TAe PK i) (TAe PK j) σ H Q:=by
 rintro σ H Q ⟨pa,Ag,H₀,m,ρ,G,R,q⟩
 refine TAe.then R q λm1 x v G1 H1 s1 w1 R1 d1 q1=>?_
 refine TAe.then R1 q1 λm2 y u G2 H2 s2 w2 R2 d2 q2=>?_
 obtain ⟨z,hz,k⟩:=Tr.ok_of q2
 exact hv PK pa m2 G2 H2 v u x y z Q w2 (d1.mono s2.gs) d2 hz (Kn.later k (s1.trans s2 w1.some) w2.some)
theorem ak {op:Operator} {r:R2} {f:zZ} (ho:OpR X (binaryOp op) r) (hv:cI r f) (ha:PE X a (TAe PK i)) (hb:PE X b (TAe PK j)):PE X (.BinOp a op b pos) (TAe PK (ac f i j)) :=
 (cE ho ha hb).imp (qJ hv)
theorem iG {op:CmpOp} {r:R2} {f:zZ} (ho:OpR X (compareOp op) r) (hv:cI r f) (ha:PE X a (TAe PK i)) (hb:PE X b (TAe PK j)) (hm:behindInMarks op b=false):PE X (.Compare a [op] [b] pos) (TAe PK (ac f i j)) :=
 (ZlN ho ha hb hm).imp (qJ hv)
theorem ZqC {r:R2} {f:zZ} (hr:IxR X r) (hv:cI r f) (ha:PE X a (TAe PK i)) (hb:PE X b (TAe PK j)) (hs:qO b):PE X (.Subscript a b pos) (TAe PK (ac f i j)) :=
 (oF hr ha hb hs).imp (qJ hv)
theorem aG {r:R2} {f:zZ} (hr:IxR X r) (hv:cI r f) (ha:PE X a (TAe PK i)) (hb:PE X b (TAe PK j)) (hs:qO b:=by intro _ _; rfl):PE X (.Subscript a b pos) (TAe PK (ac f i j)):=ZqC hr hv ha hb hs
noncomputable def jx:PyData->Option Bool
 | .bool b=>some b
 | _=>none
@[simp] theorem Zry (b:Bool):jx (.bool b)=some b:=rfl
noncomputable def bj (i:zS):zU:=λρ=>(i ρ).bind λx=>Tr.of (jx x)
theorem vG:∀ σ H Q,TAt PK (bj i) σ H Q->lL (TAe PK i) σ H Q:=by
 rintro σ H Q ⟨pa,Ag,H₀,m,ρ,G,R,q⟩
 refine TAe.then R q λm1 x v G1 H1 s1 w1 R1 d1 q1=>?_
 obtain ⟨b,hb,k⟩:=Tr.ok_of q1
 cases d1 <;> simp only [jx] at hb <;> cases hb
 exact ⟨_,rfl,k G1 H1 s1 w1⟩
theorem Zax {t t':TE} (h:∀ σ H Q,t' σ H Q->t σ H Q):∀ σ H Q,lL t' σ H Q->lL t σ H Q:=λσ H Q z=>h σ H _ z
theorem bH {op:CmpOp} {r:R2} {f:zZ} (ho:OpR X (compareOp op) r) (hv:cI r f) (ha:PE X a (TAe PK i)) (hb:PE X b (TAe PK j)) (hm:behindInMarks op b=false):PT X (.Compare a [op] [b] pos) (TAt PK (bj (ac f i j))) :=
 (mi ho ha hb hm).imp λσ H Q z=>Zax (qJ hv) σ H Q (vG σ H Q z)
theorem Zqh (h:PE X e (TAe PK i)) (he:∀ whole,isTrue e X.env whole=(do let v <- whole; standAt e.pos; holding [v] (truthy v)):=by intro _; rfl):PT X e (TAt PK (bj i)):=(Zle h he).imp λσ H Q z=>vG σ H Q z
noncomputable def Zar:PyData->Option Bool
 | .bool b=>some b
 | .int n=>some (n != 0)
 | .none=>some false
 | .list xs=>some (!xs.isEmpty)
 | .tuple xs=>some (!xs.isEmpty)
 | _=>none
noncomputable def dm (i:zS):zU:=λρ=>(i ρ).bind λx=>Tr.of (Zar x)
theorem DnAll.isEmpty {H:Hp} {vs:Ad} {ds:z9} (h:DnAll H vs ds):vs.isEmpty=ds.isEmpty:=by
 cases h <;> rfl
theorem dI (h:PE X e (TAe PK i)) (he:∀ whole,isTrue e X.env whole=(do let v <- whole; standAt e.pos; holding [v] (truthy v)):=by intro _; rfl):PT X e (TAt PK (dm i)):=(Zlf h he).imp λσ H Q hz0=>by
 obtain ⟨pa,Ag,H₀,m,ρ,G,R,q⟩:=hz0
 refine TAe.then R q λm1 x v G1 H1 s1 w1 R1 d1 q1=>?_
 obtain ⟨b,hb,k⟩:=Tr.ok_of q1
 have fin:=k G1 H1 s1 w1
 cases d1 with
 | non=>cases hb; exact ⟨_,rfl,fin⟩
 | bl b=>cases hb; exact ⟨_,rfl,fin⟩
 | int n=>cases hb; exact ⟨_,rfl,fin⟩
 | str _=>cases hb
 | tup h1 h2=>cases hb; exact ⟨_,.inr (.inl ⟨_,SqT.of (w1.sub _ _ h1),rfl⟩),by rw [h2.isEmpty]; exact fin⟩
 | lst h1 h2=>cases hb; exact ⟨_,.inl ⟨_,SqL.of (w1.sub _ _ h1),rfl⟩,by rw [h2.isEmpty]; exact fin⟩
 | dct _ _=>cases hb
noncomputable def dL (i j:zU):zU:=λρ=>(i ρ).bind λx=>if x=true then .ret true else j ρ
noncomputable def dq (i:zU):zU:=λρ=>(i ρ).bind λx=>.ret (!x)
variable {p q:zU} {rest:List Expr}
theorem TAt.then {σ:St} {H:Hp} {β:Type} {k:Bool->Tr β} {Z:Nat->β->Prop} {Q:Bool->Hp->Prop} {pa:Addr} {Ag H₀ G:Hp} {m:Nat} {ρ:Af} (R:Rl PK pa Ag H₀ m σ ρ G H) (h:((p ρ).bind k).ok m Z)
  (hq:∀ m1 x G1 H1,Stp pa G H G1 H1->Wd PK pa m1 G1 H1->Rl PK pa Ag H₀ m1 σ ρ G1 H1->(k x).ok m1 Z->Q x H1):TAt PK p σ H Q:=by
 refine ⟨pa,Ag,H₀,m,ρ,G,R,Tr.ok_mono (Tr.ok_bind.mp h) λm1 x hx G1 H1 s1 w1=>?_⟩
 exact hq m1 x G1 H1 s1 w1 (R.step s1 w1) hx
theorem Zqi {Ag H₀ G H G1 H1:Hp} {m:Nat} {σ:St} {ρ:Af} {pa:Addr} {Q:Bool->Hp->Prop} (R1:Rl PK pa Ag H₀ m σ ρ G1 H1) (s1:Stp pa G H G1 H1) (h:(q ρ).ok m λm' b=>∀ G' H',Stp pa G H G' H'->Wd PK pa m' G' H'->Q b H'):TAt PK q σ H1 Q :=
 ⟨pa,Ag,H₀,m,ρ,G1,R1,Tr.ok_mono h λm2 b k G2 H2 s2 w2=>k G2 H2 (s1.trans s2 R1.wd.some) w2⟩
theorem vC {Ag H₀ G H G1 H1:Hp} {m:Nat} {σ:St} {ρ:Af} {pa:Addr} {Q:VK} (R1:Rl PK pa Ag H₀ m σ ρ G1 H1) (s1:Stp pa G H G1 H1) (h:(i ρ).ok m λm' x=>Kn PK pa m' G H x Q):TAe PK i σ H1 Q :=
 ⟨pa,Ag,H₀,m,ρ,G1,R1,Tr.ok_mono h λm2 b k=>Kn.later k s1 R1.wd.some⟩
theorem gq (ha:PT X a (TAt PK p)):PW X (.BoolOp .Or [a] pos) (TAt PK p):=Zk8 ha
theorem eu (ha:PT X a (TAt PK p)) (hb:PW X (.BoolOp .Or (b::rest) pos) (TAt PK q)):PW X (.BoolOp .Or (a::b::rest) pos) (TAt PK (dL p q)):=(Zk9 ha hb).imp λσ H Q hz0=>by
 obtain ⟨pa,Ag,H₀,m,ρ,G,R,z⟩:=hz0
 refine TAt.then R z λm1 x G1 H1 s1 w1 R1 q1=>?_
 cases x with
 | true=>rw [if_pos rfl] at q1 ⊢; exact q1 G1 H1 s1 w1
 | false=>rw [if_neg wj] at q1 ⊢; exact Zqi R1 s1 q1
theorem gt (h:PW X e (TAt PK p)):PT X e (TAt PK p):=h.pt
theorem dJ (ha:PT X a (TAt PK p)):PT X (.UnaryOp .Not a pos) (TAt PK (dq p)):=(Zlg ha).imp λσ H Q hz0=>by
 obtain ⟨pa,Ag,H₀,m,ρ,G,R,z⟩:=hz0
 refine TAt.then R z λm1 x G1 H1 s1 w1 R1 q1=>?_
 exact q1 G1 H1 s1 w1
noncomputable def jr (i j:zS):zS:=λρ=>(bj i ρ).bind λx=>if x=true then j ρ else .ret (.bool false)
noncomputable def qG (i:zS):zS:=λρ=>(bj i ρ).bind λx=>.ret (.bool (!x))
theorem TAe.thenB {σ:St} {H:Hp} {β:Type} {k:Bool->Tr β} {Z:Nat->β->Prop} {Q:VK} {pa:Addr} {Ag H₀ G:Hp} {m:Nat} {ρ:Af} (R:Rl PK pa Ag H₀ m σ ρ G H) (h:((bj i ρ).bind k).ok m Z)
  (hq:∀ m1 c G1 H1,Stp pa G H G1 H1->Wd PK pa m1 G1 H1->Rl PK pa Ag H₀ m1 σ ρ G1 H1->(k c).ok m1 Z->Q (.bl c) H1):TAe PK i σ H Q:=by
 unfold bj at h
 rw [Tr.bind_assoc] at h
 refine TAe.then R h λm1 x v G1 H1 s1 w1 R1 d1 q1=>?_
 rw [Tr.ok_bind] at q1
 obtain ⟨c,hb,q1⟩:=Tr.ok_of q1
 cases d1 <;> simp only [jx] at hb <;> cases hb
 exact hq m1 _ G1 H1 s1 w1 R1 q1
theorem nr {op} (h:PE X a (TAe PK i)):PE X (.BoolOp op [a] pos) (TAe PK i):=ZlD h
theorem lq (ha:PE X a (TAe PK i)) (hb:PE X (.BoolOp .And (b::rest) pos) (TAe PK j)):PE X (.BoolOp .And (a::b::rest) pos) (TAe PK (jr i j)):=(ZlS ha hb).imp λσ H Q hz0=>by
 obtain ⟨pa,Ag,H₀,m,ρ,G,R,z⟩:=hz0
 refine TAe.thenB R z λm1 x G1 H1 s1 w1 R1 q1=>⟨x,rfl,?_⟩
 cases x with
 | true=>rw [if_pos rfl] at q1 ⊢; exact vC R1 s1 q1
 | false=>rw [if_neg wj] at q1 ⊢; exact (Kn.later q1 s1 w1.some).here w1 (.bl false)
theorem ZiG (ha:PE X a (TAe PK i)):PE X (.UnaryOp .Not a pos) (TAe PK (qG i)):=(ZlE ha).imp λσ H Q hz0=>by
 obtain ⟨pa,Ag,H₀,m,ρ,G,R,z⟩:=hz0
 refine TAe.thenB R z λm1 x G1 H1 s1 w1 R1 q1=>⟨x,rfl,?_⟩
 exact (Kn.later q1 s1 w1.some).here w1 (.bl _)
noncomputable def vK (p:zU) (i j:zS):zS:=λρ=>(p ρ).bind λx=>if x=true then i ρ else j ρ
theorem ZqD (hc:PT X c (TAt PK p)) (ha:PE X a (TAe PK i)) (hb:PE X b (TAe PK j)):PE X (.IfExp c a b pos) (TAe PK (vK p i j)):=(ZlI hc ha hb).imp λσ H Q hz0=>by
 obtain ⟨pa,Ag,H₀,m,ρ,G,R,z⟩:=hz0
 refine TAt.then R z λm1 x G1 H1 s1 w1 R1 q1=>?_
 cases x with
 | true=>rw [if_pos rfl] at q1 ⊢; exact vC R1 s1 q1
 | false=>rw [if_neg wj] at q1 ⊢; exact vC R1 s1 q1
variable {is:zT}
noncomputable def ap:zT:=λ_=>.ret []
noncomputable def ae (i:zS) (is:zT):zT:=λρ=>(i ρ).bind λx=>(is ρ).bind λxs=>.ret (x::xs)
theorem aq:PA X [] (TAd PK ap):=cm.imp λσ H Q hz0=>by
 obtain ⟨pa,Ag,H₀,m,ρ,G,R,z⟩:=hz0
 exact z [] G H .refl R.wd .nil
theorem TAd.then {σ:St} {H:Hp} {β:Type} {k:List PyData->Tr β} {Z:Nat->β->Prop} {Q:List V->Hp->Prop} {pa:Addr} {Ag H₀ G:Hp} {m:Nat} {ρ:Af} (R:Rl PK pa Ag H₀ m σ ρ G H) (h:((is ρ).bind k).ok m Z)
  (hq:∀ m1 xs vs G1 H1,Stp pa G H G1 H1->Wd PK pa m1 G1 H1->Rl PK pa Ag H₀ m1 σ ρ G1 H1->DnAll G1 vs xs->(k xs).ok m1 Z->Q vs H1):TAd PK is σ H Q:=by
 refine ⟨pa,Ag,H₀,m,ρ,G,R,Tr.ok_mono (Tr.ok_bind.mp h) λm1 x hx v G1 H1 s1 w1 d1=>?_⟩
 exact hq m1 x v G1 H1 s1 w1 (R.step s1 w1) d1 hx
theorem ah (ha:PE X e (TAe PK i)) (hr:PA X es (TAd PK is)) (hs:starEach (e::es) X.env=(false,eval e X.env)::starEach es X.env:=by rfl):PA X (e::es) (TAd PK (ae i is)):=(bp ha hr hs).imp λσ H Q hz0=>by
 obtain ⟨pa,Ag,H₀,m,ρ,G,R,z⟩:=hz0
 refine TAe.then R z λm1 x v G1 H1 s1 w1 R1 d1 q1=>?_
 refine TAd.then R1 q1 λm2 xs vs G2 H2 s2 w2 R2 d2 q2=>?_
 exact q2 _ _ _ (s1.trans s2 w1.some) w2 (.cons (d1.mono s2.gs) d2)
noncomputable def small (n:Nat):Bool:=decide (n<=sizeLine)
noncomputable def bS (is:zT):zS:=λρ=>(is ρ).bind λxs=>if small xs.length=true then .ret (.tuple xs) else .fail
noncomputable def b6 (is:zT):zS:=λρ=>(is ρ).bind λxs=>.ret (.list xs)
noncomputable def df (is:zT):zT:=λρ=>(is ρ).bind λxs=>if small xs.length=true then .ret xs else .fail
theorem ic {α:Type} {c:Bool} {t:Tr α} {m:Nat} {Q:Nat->α->Prop} (h:(if c=true then t else .fail).ok m Q):c=true/\t.ok m Q:=by
 cases c with
 | true=>exact ⟨rfl,h⟩
 | false=>exact h.elim
theorem bX {x1} (h:PA X es (TAd PK is)):PE X (.Tuple es x1 pos) (TAe PK (bS is)):=(ZcL h).imp λσ H Q hz0=>by
 obtain ⟨pa,Ag,H₀,m,ρ,G,R,z⟩:=hz0
 refine TAd.then R z λm1 xs vs G1 H1 s1 w1 R1 d1 q1=>?_
 obtain ⟨hs,k⟩:=ic q1
 exact ⟨by rw [d1.length]; exact of_decide_eq_true hs,λp hp=>(Kn.later k s1 w1.some).tup w1 d1 hp⟩
theorem Ko1.new {pa:Addr} {m:Nat} {G H:Hp} {xs:z9} {vs:Ad} {Q:VK} {p:Addr} (k:Ko1 PK pa m G H xs Q) (w:Wd PK pa m G H) (d:DnAll G vs xs) (hp:H p=none):Q (.ref p) (upd H p (.lst vs)):=by
 obtain ⟨w1,s1⟩:=w.own (o:=.lst vs) hp
 exact k p vs G _ s1 w1 hp (w.gnone hp) cA d
theorem Ko1.later {pa:Addr} {m:Nat} {G H G1 H1:Hp} {xs:z9} {Q:VK} (k:Ko1 PK pa m G H xs Q) (s:Stp pa G H G1 H1) (hp:∃ o,H1 pa=some o):Ko1 PK pa m G1 H1 xs Q:=λp vs G' H' s' w' h1 h2 h3 h4=>by
 refine k p vs G' H' (s.trans s' hp) w' ?_ h2 h3 h4
 cases e:H p with
 | none=>rfl
 | some u =>
  by_cases hc:p=pa
  ·subst hc
   obtain ⟨o,z⟩:=hp
   rw [h1] at z; cases z
  ·rw [s.hk p u e hc] at h1; cases h1
theorem dE (h:PA X es (TAd PK is)):PE X (.List es pos) (ff PK (df is)):=(ZlG h).imp λσ H Q hz0=>by
 obtain ⟨pa,Ag,H₀,m,ρ,G,R,z⟩:=hz0
 refine TAd.then R z λm1 xs vs G1 H1 s1 w1 R1 d1 q1=>?_
 obtain ⟨hs,k⟩:=ic q1
 exact ⟨by rw [d1.length]; exact of_decide_eq_true hs,λp hp=>(Ko1.later k s1 w1.some).new w1 d1 hp⟩
theorem Ko1.of {pa:Addr} {m:Nat} {G H:Hp} {xs:z9} {Q:VK} (k:Kn PK pa m G H (.list xs) Q) (hp:∃ o,H pa=some o):Ko1 PK pa m G H xs Q:=λp vs G' H' s w h1 h2 h3 h4=>by
 have hne:pa≠p:=λe=>by
  obtain ⟨o,z⟩:=hp
  rw [e,h1] at z; cases z
 have sb:Sub G' (upd G' p (.lst vs)):=Sub.new h2
 refine k _ (upd G' p (.lst vs)) H' ⟨λb o h=>sb b o (s.gs b o h),λb o h=>?_,s.hk⟩ (w.freeze h3 h2 hne) (.lst cA (DnAll.mono sb h4))
 by_cases e:b=p
 ·subst e; exact .inr h1
 ·rw [a9 e] at h; exact s.gn b o h
theorem cH (h:PE X e (ff PK is)):PE X e (TAe PK (b6 is)):=h.imp λσ H Q hz0=>by
 obtain ⟨pa,Ag,H₀,m,ρ,G,R,z⟩:=hz0
 refine ⟨pa,Ag,H₀,m,ρ,G,R,Tr.ok_mono (Tr.ok_bind.mp z) λm1 xs k=>Ko1.of k R.wd.some⟩
def eR (r:List V->Hp->VK->Prop) (f:List PyData->Option PyData):Prop:=∀ (PK:Pk) (pa:Addr) (m:Nat) (G H:Hp) (vs:Ad) (ds:z9) (d:PyData) (Q:VK),Wd PK pa m G H->DnAll G vs ds->f ds=some d->Kn PK pa m G H d Q->r vs H Q
def vN (r:List V->Hp->VK->Prop) (f:List PyData->Option z9):Prop:=∀ (PK:Pk) (pa:Addr) (m:Nat) (G H:Hp) (vs:Ad) (ds:z9) (d:z9) (Q:VK),Wd PK pa m G H->DnAll G vs ds->f ds=some d->Ko1 PK pa m G H d Q->r vs H Q
noncomputable def bi (f:List PyData->Option PyData) (is:zT):zS:=λρ=>(is ρ).bind λxs=>Tr.of (f xs)
noncomputable def ly (f:List PyData->Option z9) (is:zT):zT:=λρ=>(is ρ).bind λxs=>Tr.of (f xs)
theorem ZqL {r:List V->Hp->VK->Prop} {f:List PyData->Option PyData} (hv:eR r f):∀ σ H Q,TAe PK (bi f is) σ H Q->f7 r (TAd PK is) σ H Q:=by
 rintro σ H Q ⟨pa,Ag,H₀,m,ρ,G,R,z⟩
 refine TAd.then R z λm1 xs vs G1 H1 s1 w1 R1 d1 q1=>?_
 obtain ⟨d,hd,k⟩:=Tr.ok_of q1
 exact hv PK pa m1 G1 H1 vs xs d Q w1 d1 hd (Kn.later k s1 w1.some)
theorem ZqK {r:List V->Hp->VK->Prop} {f:List PyData->Option z9} (hv:vN r f):∀ σ H Q,ff PK (ly f is) σ H Q->f7 r (TAd PK is) σ H Q:=by
 rintro σ H Q ⟨pa,Ag,H₀,m,ρ,G,R,z⟩
 refine TAd.then R z λm1 xs vs G1 H1 s1 w1 R1 d1 q1=>?_
 obtain ⟨d,hd,k⟩:=Tr.ok_of q1
 exact hv PK pa m1 G1 H1 vs xs d Q w1 d1 hd (Ko1.later k s1 w1.some)
theorem br {t:TA} {r:List V->Hp->VK->Prop} {f:List PyData->Option PyData} (h:PE X e (f7 r (TAd PK is))) (hv:eR r f):PE X e (TAe PK (bi f is)):=h.imp (ZqL hv)
theorem vn {t:TA} {r:List V->Hp->VK->Prop} {f:List PyData->Option z9} (h:PE X e (f7 r (TAd PK is))) (hv:vN r f):PE X e (ff PK (ly f is)):=h.imp (ZqK hv)
variable {as:List Sl->Tr Af}
noncomputable def av:List Sl->Tr Af:=λ_=>.ret []
noncomputable def af (i:zS) (as:List Sl->Tr Af):List Sl->Tr Af:=λρ=>(i ρ).bind λx=>(as ρ).bind λxs=>.ret (.d x::xs)
noncomputable def bY (k:Nat) (as:List Sl->Tr Af):List Sl->Tr Af:=λρ=>match ρ[k]? with
 | some .pen=>(as ρ).bind λxs=>.ret (.pen::xs)
 | _=>.fail
theorem aB:PA X [] (TAa PK av):=cm.imp λσ H Q hz0=>by
 obtain ⟨pa,Ag,H₀,m,ρ,G,R,z⟩:=hz0
 exact z [] G H .refl R.wd .nil
theorem TAa.then {σ:St} {H:Hp} {β:Type} {k:List Sl->Tr β} {Z:Nat->β->Prop} {Q:List V->Hp->Prop} {pa:Addr} {Ag H₀ G:Hp} {m:Nat} {ρ:Af} (R:Rl PK pa Ag H₀ m σ ρ G H) (h:((as ρ).bind k).ok m Z)
  (hq:∀ m1 xs vs G1 H1,Stp pa G H G1 H1->Wd PK pa m1 G1 H1->Rl PK pa Ag H₀ m1 σ ρ G1 H1->ArsOk pa G1 vs xs->(k xs).ok m1 Z->Q vs H1):TAa PK as σ H Q:=by
 refine ⟨pa,Ag,H₀,m,ρ,G,R,Tr.ok_mono (Tr.ok_bind.mp h) λm1 x hx v G1 H1 s1 w1 d1=>?_⟩
 exact hq m1 x v G1 H1 s1 w1 (R.step s1 w1) d1 hx
theorem ag (ha:PE X e (TAe PK i)) (hr:PA X es (TAa PK as)) (hs:starEach (e::es) X.env=(false,eval e X.env)::starEach es X.env:=by rfl):PA X (e::es) (TAa PK (af i as)):=(bp ha hr hs).imp λσ H Q hz0=>by
 obtain ⟨pa,Ag,H₀,m,ρ,G,R,z⟩:=hz0
 refine TAe.then R z λm1 x v G1 H1 s1 w1 R1 d1 q1=>?_
 refine TAa.then R1 q1 λm2 xs vs G2 H2 s2 w2 R2 d2 q2=>?_
 exact q2 _ _ _ (s1.trans s2 w1.some) w2 (.cons (.d (d1.mono s2.gs)) d2)
theorem ci {k:Nat} (ha:PE X e (fA k)) (hr:PA X es (TAa PK as)) (hs:starEach (e::es) X.env=(false,eval e X.env)::starEach es X.env:=by rfl):PA X (e::es) (TAa PK (bY k as)):=(bp ha hr hs).imp λσ H Q hz0=>by
 obtain ⟨pa,Ag,H₀,m,ρ,G,R,z⟩:=hz0
 unfold bY at z
 split at z
 ·rename_i hk
  obtain ⟨o,h1,h2⟩:=R.sl k _ hk
  cases h2
  refine ⟨_,h1,?_⟩
  refine TAa.then R z λm2 xs vs G2 H2 s2 w2 R2 d2 q2=>?_
  exact q2 _ _ _ s2 w2 (.cons .pen d2)
 ·exact z.elim
def aSp (PK:Pk) (n:Nat) (f:zW):Sp:=λvs H Q _=>vs.length=n/\∃ pa m G as,Wd PK pa m G H/\ArsOk pa G vs as/\(f as).ok m λm' r=>Kr PK pa m' G H r Q
noncomputable def ay (f:zW) (as:List Sl->Tr Af):zW:=λρ=>(as ρ).bind f
noncomputable def aD (f:zW):zS:=λρ=>(f ρ).bind λr=>.ret r.val
def nF (PK:Pk) (i:zW):TE:=λσ H Q=>∃ pa Ag H₀ m ρ G,Rl PK pa Ag H₀ m σ ρ G H/\(i ρ).ok m λm' r=>Kr PK pa m' G H r Q
theorem Kr.later {pa:Addr} {m:Nat} {G H G1 H1:Hp} {r:Re} {Q:VK} (k:Kr PK pa m G H r Q) (s:Stp pa G H G1 H1) (hp:∃ o,H1 pa=some o):Kr PK pa m G1 H1 r Q:=λv G' H' s' w' d=>by
 refine k v G' H' (s.trans s' hp) w' ?_
 cases r with
 | d x=>exact d
 | own xs =>
  obtain ⟨p,vs,e,h1,h2,h3,h4⟩:=d
  refine ⟨p,vs,e,h1,h2,?_,h4⟩
  cases e:H p with
  | none=>rfl
  | some u =>
   by_cases hc:p=pa
   ·subst hc
    obtain ⟨o,z⟩:=hp
    rw [h3] at z; cases z
   ·rw [s.hk p u e hc] at h3; cases h3
theorem Kr.of {pa:Addr} {m:Nat} {G H:Hp} {r:Re} {Q:VK} (k:Kn PK pa m G H r.val Q) (hp:∃ o,H pa=some o):Kr PK pa m G H r Q:=λv G' H' s w d=>by
 cases r with
 | d x=>exact k v G' H' s w d
 | own xs =>
  obtain ⟨p,vs,rfl,h1,h2,h3,h4⟩:=d
  exact Ko1.of k hp p vs G' H' s w h3 h2 h1 h4
theorem aH {f:zW} (h:PE X e (nF PK f)):PE X e (TAe PK (aD f)):=h.imp (by
 intro σ H Q z
 obtain ⟨pa,Ag,H₀,m,ρ,G,R,z⟩:=z
 exact ⟨pa,Ag,H₀,m,ρ,G,R,Tr.ok_mono (Tr.ok_bind.mp z) λm1 r k=>Kr.of k R.wd.some⟩)
structure ACal (PK:Pk) (P:Program) (w:World) (K:zR) (mg:Ae) (base:Heap) (x:Str) (k:Nat) (ps:Ac) (f:zW):Prop where
 cal:Callee P w K mg base x k ps (aSp PK ps.length f)
 len:∀ as m Z,(f as).ok m Z->as.length=ps.length
theorem Zqr {x:Str} {k:Nat} {ps:Ac} {f:zW} {pp:Pos} (C:ACal PK X.prog X.w X.K X.mg X.base x k ps f) (hr:Room k X.A) (hg:Gl X x) (ha:PA X (e::es) (TAa PK as))
  (hdb:(x == ("__debug__":Str))=false:=by decide)
  (he:starEach (e::es) X.env=(false,eval e X.env)::starEach es X.env:=by rfl) (hpl:(backTo pos (starEach es X.env)).any (·.1)=false:=by rfl):PE X (.Call (.Name x pp) (e::es) [] pos) (nF PK (ay f as)) :=
 (oG C.cal hr hg ha hdb he hpl).imp λσ H Q hz0=>by
  obtain ⟨pa,Ag,H₀,m,ρ,G,R,z⟩:=hz0
  refine TAa.then R z λm1 xs vs G1 H1 s1 w1 R1 d1 q1=>?_
  show aSp PK ps.length f (vs++[]) H1 Q E0
  rw [w8]
  exact ⟨by rw [d1.length]; exact C.len _ _ _ q1,pa,m1,G1,xs,w1,d1,Tr.ok_mono q1 λm2 r k=>Kr.later k s1 w1.some⟩
theorem aA {x:Str} {k n:Nat} {ps:Ac} {f:zW} {pp:Pos} (C:ACal PK X.prog X.w X.K X.mg X.base x k ps f) (hr:Room n X.A) (ha:PA X (e::es) (TAa PK as)) (hk:k<=n:=by decide) (hg:Gl X x:=by rfl) (hdb:(x == ("__debug__":Str))=false:=by decide) (he:starEach (e::es) X.env=(false,eval e X.env)::starEach es X.env:=by rfl) (hpl:(backTo pos (starEach es X.env)).any (·.1)=false:=by rfl):PE X (.Call (.Name x pp) (e::es) [] pos) (nF PK (ay f as)):=Zqr C (hr.mono hk) hg ha hdb he hpl
end L2
set_option Elab.async false
set_option linter.all false
set_option maxRecDepth 100000
namespace L2
variable {PK:Pk} {X:Cx} {a b c e:Expr} {es:List Expr} {pos:Pos} {i j l:zS} {is:zT} {as:List Sl->Tr Af} {f:zW} {p q:zU} {st:Stmt} {sts:List Stmt} {s t u:zV}
noncomputable def am (s t:zV):zV:=λρ=>(s ρ).bind λo=>match o with
 | .next ρ'=>t ρ'
 | o=>.ret o
noncomputable def bI:zV:=λρ=>.ret (.next ρ)
theorem Ko.later {pa:Addr} {Ag H₀ Gs G:Hp} {D:Ends} {m:Nat} {o:Ou} (k:Ko PK pa Ag H₀ Gs D m o) (sb:Sub Gs G):Ko PK pa Ag H₀ G D m o:=by
 cases o with
 | next ρ=>exact λσ G' H s R=>k σ G' H (λb o h=>s b o (sb b o h)) R
 | ret r=>exact k
 | brk ρ=>exact λσ G' H s R=>k σ G' H (λb o h=>s b o (sb b o h)) R
 | cont ρ=>exact λσ G' H s R=>k σ G' H (λb o h=>s b o (sb b o h)) R
theorem Sub.refl {G:Hp}:Sub G G:=λ_ _ h=>h
theorem Sub.trans {G G1 G2:Hp} (a:Sub G G1) (b:Sub G1 G2):Sub G G2:=λc o h=>b c o (a c o h)
theorem bO:PSs X [] (bT PK bI):=oy.imp λD σ H hz0=>by
 obtain ⟨pa,Ag,H₀,m,ρ,G,R,z⟩:=hz0
 exact z σ G H .refl R
theorem ZqJ:∀ D σ H,bT PK (am s t) D σ H->Zay (bT PK s) (bT PK t) D σ H:=by
 rintro D σ H ⟨pa,Ag,H₀,m,ρ,G,R,z⟩
 refine ⟨pa,Ag,H₀,m,ρ,G,R,Tr.ok_mono (Tr.ok_bind.mp z) λm1 o k=>?_⟩
 cases o with
 | next ρ'=>exact λσ' G' H' sb R'=>⟨pa,Ag,H₀,m1,ρ',G',R',Tr.ok_mono k λ_ _ k'=>Ko.later k' sb⟩
 | ret r=>exact k
 | brk ρ'=>exact k
 | cont ρ'=>exact k
theorem ao (h1:PS X st (bT PK s)) (h2:PSs X sts (bT PK t)):PSs X (st::sts) (bT PK (am s t)):=(eU h1 h2).imp ZqJ
theorem az (h1:PS X st (bT PK s)):PSs X [st] (bT PK s):=jG h1
noncomputable def vJ:zV:=λ_=>.fail
theorem Ziw:PS X st (bT PK vJ):=λ_ _ _ _ _ _ h=>by
 obtain ⟨pa,Ag,H₀,m,ρ,G,R,z⟩:=h
 exact z.elim
noncomputable def qI (i:zS):zV:=λρ=>(i ρ).bind λ_=>.ret (.next ρ)
theorem Zix (he:PE X e (TAe PK i)) (hs:swapsWith e none pos.line X.env=pure false:=by rfl):PS X (.Expr e pos) (bT PK (qI i)):=(jH he hs).imp λD σ H hz0=>by
 obtain ⟨pa,Ag,H₀,m,ρ,G,R,z⟩:=hz0
 refine TAe.then R z λm1 x v G1 H1 s1 w1 R1 d1 q1=>?_
 exact q1 σ G1 H1 s1.gs R1
noncomputable def bb (i:zS):zV:=λρ=>(i ρ).bind λx=>.ret (.ret (.d x))
theorem bd (he:PE X e (TAe PK i)):PS X (.Return (some e) pos) (bT PK (bb i)):=(hW he).imp λD σ H hz0=>by
 obtain ⟨pa,Ag,H₀,m,ρ,G,R,z⟩:=hz0
 refine TAe.then R z λm1 x v G1 H1 s1 w1 R1 d1 q1=>?_
 exact q1 v G1 H1 R1.st w1 d1
noncomputable def vI (is:zT):zV:=λρ=>(is ρ).bind λx=>.ret (.ret (.own x))
theorem Zqo (he:PE X e (ff PK is)):PS X (.Return (some e) pos) (bT PK (vI is)):=(hW he).imp λD σ H hz0=>by
 obtain ⟨pa,Ag,H₀,m,ρ,G,R,z⟩:=hz0
 refine ⟨pa,Ag,H₀,m,ρ,G,R,Tr.ok_mono (Tr.ok_bind.mp z) λm1 xs k p vs G1 H1 s1 w1 h1 h2 h3 h4=>?_⟩
 exact k (.ref p) G1 H1 (R.st.trans s1 R.wd.some) w1 ⟨p,vs,rfl,h3,h2,R.h0 h1,h4⟩
noncomputable def jp (f:zW):zV:=λρ=>(f ρ).bind λr=>.ret (.ret r)
theorem lj (he:PE X e (nF PK f)):PS X (.Return (some e) pos) (bT PK (jp f)):=(hW he).imp (by
 intro D σ H z
 obtain ⟨pa,Ag,H₀,m,ρ,G,R,z⟩:=z
 exact ⟨pa,Ag,H₀,m,ρ,G,R,Tr.ok_mono (Tr.ok_bind.mp z) λm1 r k=>Kr.later k R.st R.wd.some⟩)
noncomputable def gR (k:Nat):zV:=λρ=>match ρ[k]? with
 | some (.d x)=>.ret (.ret (.d x))
 | some (.own xs)=>.ret (.ret (.own xs))
 | _=>.fail
theorem qu {k:Nat} (he:PE X e (fA k)):PS X (.Return (some e) pos) (bT PK (gR k)):=(hW he).imp λD σ H hz0=>by
 obtain ⟨pa,Ag,H₀,m,ρ,G,R,z⟩:=hz0
 unfold gR at z
 split at z
 ·rename_i x hx
  obtain ⟨o,h1,h2⟩:=R.sl k _ hx
  cases h2 with
  | d d1=>exact ⟨_,h1,z _ G H R.st R.wd d1⟩
 ·rename_i xs hx
  obtain ⟨o,h1,h2⟩:=R.sl k _ hx
  cases h2 with
  | own a1 a2 a3 a4=>exact ⟨_,h1,z _ G H R.st R.wd ⟨_,_,rfl,a1,a2,a3,a4⟩⟩
 ·exact z.elim
noncomputable def bJ (p:zU) (s t:zV):zV:=λρ=>(p ρ).bind λx=>if x=true then s ρ else t ρ
theorem bP {xs ys:List Stmt} (hc:PT X c (TAt PK p)) (ha:PSs X xs (bT PK s)) (hb:PSs X ys (bT PK t)):PS X (.If c xs ys pos) (bT PK (bJ p s t)):=(oz hc ha hb).imp λD σ H hz0=>by
 obtain ⟨pa,Ag,H₀,m,ρ,G,R,z⟩:=hz0
 refine TAt.then R z λm1 x G1 H1 s1 w1 R1 q1=>?_
 cases x with
 | true=>rw [if_pos rfl] at q1 ⊢; exact ⟨pa,Ag,H₀,m1,ρ,G1,R1,Tr.ok_mono q1 λ_ _ k'=>Ko.later k' s1.gs⟩
 | false=>rw [if_neg wj] at q1 ⊢; exact ⟨pa,Ag,H₀,m1,ρ,G1,R1,Tr.ok_mono q1 λ_ _ k'=>Ko.later k' s1.gs⟩
noncomputable def aS (k:Nat) (i:zS):zV:=λρ=>(i ρ).bind λx=>.ret (.next (ρ.set k (.d x)))
theorem aT {k:Nat} (h:PS X st (f8 (TAe PK i) (gL k))):PS X st (bT PK (aS k i)):=h.imp λD σ H hz0=>by
 obtain ⟨pa,Ag,H₀,m,ρ,G,R,z⟩:=hz0
 refine TAe.then R z λm1 x v G1 H1 s1 w1 R1 d1 q1=>?_
 exact q1 _ G1 H1 s1.gs (R1.set d1 k)
noncomputable def jn (k:Nat) (is:zT):zV:=λρ=>(is ρ).bind λx=>.ret (.next (ρ.set k (.own x)))
theorem li {k:Nat} (h:PS X st (f8 (ff PK is) (gL k))):PS X st (bT PK (jn k is)):=h.imp λD σ H hz0=>by
 obtain ⟨pa,Ag,H₀,m,ρ,G,R,z⟩:=hz0
 refine ⟨pa,Ag,H₀,m,ρ,G,R,Tr.ok_mono (Tr.ok_bind.mp z) λm1 xs k' p vs G1 H1 s1 w1 h1 h2 h3 h4=>?_⟩
 exact k' _ G1 H1 s1.gs ((R.step s1 w1).setO h3 h2 (R.h0 h1) h4 (λn ys e=>R.apart h1 n ys e) k)
noncomputable def nC (f:zZ) (k:Nat) (i:zS):zV:=λρ=>(aa k ρ).bind λx=>(i ρ).bind λy=>(Tr.of (f x y)).bind λz=>.ret (.next (ρ.set k (.d z)))
theorem Ziz {k:Nat} {r:R2} {g:zZ} (hv:cI r g) (h:PS X st (ZaE k (TAe PK i) r)):PS X st (bT PK (nC g k i)):=h.imp λD σ H hz0=>by
 obtain ⟨pa,Ag,H₀,m,ρ,G,R,z⟩:=hz0
 unfold nC aa at z
 split at z
 ·rename_i x hx
  obtain ⟨o,h1,h2⟩:=R.sl k _ hx
  cases h2 with
  | d d0 =>
   refine ⟨_,h1,?_⟩
   refine TAe.then R z λm1 y v G1 H1 s1 w1 R1 d1 q1=>?_
   rw [Tr.ok_bind] at q1
   obtain ⟨w,hw,q1⟩:=Tr.ok_of q1
   refine hv PK pa m1 G1 H1 _ v x y w _ w1 (d0.mono s1.gs) d1 hw λu G2 H2 s2 w2 d2=>?_
   exact q1 _ G2 H2 (s1.gs.trans s2.gs) ((R1.step s2 w2).set d2 k)
 ·exact z.elim
noncomputable def jq (k:Nat) (i:zS):zV:=λρ=>match ρ[k]? with
 | some (.own xs)=>(i ρ).bind λx=>if small (xs.length+1)=true then .ret (.next (ρ.set k (.own (xs++[x])))) else .fail
 | _=>.fail
theorem DnAll.snoc {H:Hp} {vs:Ad} {ds:z9} {v:V} {d:PyData} (h:DnAll H vs ds) (h1:Dn H v d):DnAll H (vs++[v]) (ds++[d]):=h.append (.cons h1 .nil)
theorem nn {k:Nat} {K:zR} {st:Stmt} (h:PS X st (rF (tBM K "list" Zcx (fA k) (fB (TAe PK i) aY)))):PS X st (bT PK (jq k i)):=h.imp λD σ H hz0=>by
 obtain ⟨pa,Ag,H₀,m,ρ,G,R,z⟩:=hz0
 unfold jq at z
 split at z
 ·rename_i xs hx
  obtain ⟨o,h1,h2⟩:=R.sl k _ hx
  cases h2 with
  | @own p vs _ a1 a2 a3 a4 =>
   refine ⟨_,h1,.inl ⟨rfl,_,SqL.of a1⟩,?_⟩
   refine TAe.then R z λm1 x v G1 H1 s1 w1 R1 d1 q1=>?_
   obtain ⟨hs,q1⟩:=ic q1
   obtain ⟨o,h1',h2⟩:=R1.sl k _ hx
   rw [h1] at h1'
   cases h1'
   cases h2 with
   | @own _ vs1 _ b1 b2 b3 b4 =>
    have hs':xs.length+1<=sizeLine:=of_decide_eq_true hs
    refine ⟨p,vs1,v,rfl,rfl,b1,by rw [b4.length]; omega,?_⟩
    exact q1 σ G1 _ s1.gs (R1.change hx h1 (b4.snoc d1))
 ·exact z.elim
theorem DnAll.set {H:Hp}:∀ {vs:Ad} {ds:z9} {v:V} {d:PyData} (n:Nat),DnAll H vs ds->Dn H v d->DnAll H (vs.set n v) (ds.set n d)
 | _,_,_,_,_,.nil,_=>.nil
 | _,_,_,_,0,.cons _ t,h=>.cons h t
 | _,_,_,_,n+1,.cons g t,h=>.cons g (DnAll.set n t h)
noncomputable def lr (k:Nat) (n i:zS):zV:=λρ=>(i ρ).bind λx=>match ρ[k]? with
 | some (.own xs)=>(n ρ).bind λy=>match y with
  | .int y=>(Tr.of (de xs.length y)).bind λt=>.ret (.next (ρ.set k (.own (xs.set t x))))
  | _=>.fail
 | _=>.fail
theorem vh {k:Nat} {n:zS} (h:PS X st (f8 (TAe PK i) (Zei (fA k) (TAe PK n) sP))):PS X st (bT PK (lr k n i)):=h.imp λD σ H hz0=>by
 obtain ⟨pa,Ag,H₀,m,ρ,G,R,z⟩:=hz0
 refine TAe.then R z λm1 x v G1 H1 s1 w1 R1 d1 q1=>?_
 split at q1
 ·rename_i xs hx
  obtain ⟨o,h1,h2⟩:=R1.sl k _ hx
  cases h2 with
  | @own p vs _ a1 a2 a3 a4 =>
   refine ⟨_,h1,?_⟩
   refine TAe.then R1 q1 λm2 y u G2 H2 s2 w2 R2 d2 q2=>?_
   obtain ⟨o,h1',h2⟩:=R2.sl k _ hx
   rw [h1] at h1'
   cases h1'
   cases h2 with
   | @own _ vs2 _ b1 b2 b3 b4 =>
    cases d2 with
    | int y =>
     rw [Tr.ok_bind] at q2
     obtain ⟨n',hn,q2⟩:=Tr.ok_of q2
     refine ⟨p,vs2,y,n',rfl,rfl,b1,by rw [b4.length]; exact hn,?_⟩
     exact q2 σ G2 _ (s1.gs.trans s2.gs) (R2.change hx h1 (b4.set n' (d1.mono s2.gs)))
    | _=>exact q2.elim
 ·exact q1.elim
theorem DnAll.reverse {H:Hp} {vs:Ad} {ds:z9} (h:DnAll H vs ds):DnAll H vs.reverse ds.reverse:=by
 induction vs generalizing ds with
 | nil=>cases h; exact .nil
 | cons v vs ih=>cases h with | cons r t=>rw [yF,yF]; exact DnAll.append (ih t) (.cons r .nil)
noncomputable def qF (k:Nat):zV:=λρ=>match ρ[k]? with
 | some (.own xs)=>.ret (.next (ρ.set k (.own xs.reverse)))
 | _=>.fail
theorem Zqn {k:Nat} {K:zR} (h:PS X st (rF (ZaB K "list" Zch (fA k)))):PS X st (bT PK (qF k)):=h.imp λD σ H hz0=>by
 obtain ⟨pa,Ag,H₀,m,ρ,G,R,z⟩:=hz0
 unfold qF at z
 split at z
 ·rename_i xs hx
  obtain ⟨o,h1,h2⟩:=R.sl k _ hx
  cases h2 with
  | @own p vs _ a1 a2 a3 a4 =>
   refine ⟨_,h1,.inl ⟨rfl,_,SqL.of a1⟩,p,vs,rfl,rfl,a1,?_⟩
   exact z σ G _ .refl (R.change hx h1 a4.reverse)
 ·exact z.elim
noncomputable def lu (k:Nat) (s:zV):zV:=λρ=>s (fz k ρ)
theorem qv {k:Nat} (h:PS X st (bT PK s)):PS X st (bT PK (lu k s)):=h.imp λD σ H hz0=>by
 obtain ⟨pa,Ag,H₀,m,ρ,G,R,z⟩:=hz0
 obtain ⟨G',sb,R'⟩:=R.freeze k
 exact ⟨pa,Ag,H₀,m,_,G',R',Tr.ok_mono z λ_ _ k'=>Ko.later k' sb⟩
def gT (PK:Pk) (g:zY):TG:=λv σ H Q=>∃ pa Ag H₀ m ρ G x ρ',Rl PK pa Ag H₀ m σ ρ G H/\Dn G v x/\g x ρ=some ρ'/\∀ σ',Rl PK pa Ag H₀ m σ' ρ' G H->Q σ' H
noncomputable def qM (PK:Pk) (g:zX):iJ:=λvs σ H Q=>∃ pa Ag H₀ m ρ G xs ρ',Rl PK pa Ag H₀ m σ ρ G H/\DnAll G vs xs/\g xs ρ=some ρ'/\∀ σ',Rl PK pa Ag H₀ m σ' ρ' G H->Q σ' H
theorem PG.imp {tg:Expr} {t t':TG} (h:PG X tg t) (q:∀ v σ H Q,t' v σ H Q->t v σ H Q):PG X tg t':=λpins s σ H v u Q I r z=>h pins s σ H v u Q I r (q v σ H Q z)
theorem PGs.imp {tg:List Expr} {t t':iJ} (h:PGs X tg t) (q:∀ v σ H Q,t' v σ H Q->t v σ H Q):PGs X tg t':=λpins s σ H v u Q I r z=>h pins s σ H v u Q I r (q v σ H Q z)
noncomputable def aj (k:Nat):zY:=λx ρ=>some (ρ.set k (.d x))
theorem aR {k:Nat} (h:PG X e (gL k)):PG X e (gT PK (aj k)):=h.imp λv σ H Q hz0=>by
 obtain ⟨pa,Ag,H₀,m,ρ,G,x,ρ',R,d,e,q⟩:=hz0
 cases e
 exact q _ (R.set d k)
noncomputable def bx:zX:=λxs ρ=>match xs with
 | []=>some ρ
 | _=>none
noncomputable def aJ (g:zY) (gs:zX):zX:=λxs ρ=>match xs with
 | x::xs=>(g x ρ).bind λρ'=>gs xs ρ'
 | []=>none
theorem cS:PGs X [] (qM PK bx):=Zlu.imp λvs σ H Q hz0=>by
 obtain ⟨pa,Ag,H₀,m,ρ,G,xs,ρ',R,d,e,q⟩:=hz0
 cases d with
 | nil=>cases e; exact ⟨rfl,q _ R⟩
 | cons _ _=>cases e
theorem bh {g:zY} {gs:zX} (h1:PG X e (gT PK g)) (h2:PGs X es (qM PK gs))
  (hs:(assignEach (e::es) X.env).map (·.2)=assign e X.env::(assignEach es X.env).map (·.2):=by rfl):PGs X (e::es) (qM PK (aJ g gs)):=(Zlv h1 h2 hs).imp λvs σ H Q hz0=>by
 obtain ⟨pa,Ag,H₀,m,ρ,G,xs,ρ',R,d,e,q⟩:=hz0
 cases d with
 | nil=>cases e
 | cons d1 d2 =>
  have e':(g _ ρ).bind (λρ'=>gs _ ρ')=some ρ':=e
  cases h:g _ ρ with
  | none=>rw [h] at e'; cases e'
  | some ρ1 =>
   rw [h] at e'
   exact ⟨_,_,rfl,pa,Ag,H₀,m,ρ,G,_,ρ1,R,d1,h,λσ1 R1=>⟨pa,Ag,H₀,m,ρ1,G,_,ρ',R1,d2,e',q⟩⟩
noncomputable def bA (gs:zX):zY:=λx ρ=>match x with
 | .tuple xs=>gs xs ρ
 | _=>none
def pR (n:Nat) (gs:zX):Prop:=∀ xs ρ ρ',gs xs ρ=some ρ'->xs.length=n
theorem cR:pR 0 bx:=λxs ρ ρ' h=>by cases xs with | nil=>rfl | cons _ _=>cases h
theorem bg {n:Nat} {g:zY} {gs:zX} (h:pR n gs):pR (n+1) (aJ g gs):=λxs ρ ρ' e=>by
 cases xs with
 | nil=>cases e
 | cons x xs =>
  have e':(g x ρ).bind (λρ'=>gs xs ρ')=some ρ':=e
  cases h1:g x ρ with
  | none=>rw [h1] at e'; cases e'
  | some ρ1 =>
   rw [h1] at e'
   exact congrArg (·+1) (h xs ρ1 ρ' e')
theorem cT {k:Nat} {gs:zX} {n:Nat} (hc:X.calm=true) (h:PGs X es (qM PK gs)) (hl:pR n gs)
  (hn:(assignEach es X.env).length=n:=by rfl) (hst:(assignEach es X.env).findIdx? (·.1)=none:=by rfl):PG X (.Tuple es k pos) (gT PK (bA gs)):=(Zlw hc h hn hst).imp λv σ H Q hz0=>by
 obtain ⟨pa,Ag,H₀,m,ρ,G,x,ρ',R,d,e,q⟩:=hz0
 cases d with
 | tup h1 h2=>exact ⟨_,_,rfl,SqT.of (R.wd.sub _ _ h1),by rw [h2.length]; exact hl _ _ _ e,pa,Ag,H₀,m,ρ,G,_,ρ',R,h2,e,q⟩
 | _=>cases e
noncomputable def fe (g:zY) (i:zS):zV:=λρ=>(i ρ).bind λx=>(Tr.of (g x ρ)).bind λρ'=>.ret (.next ρ')
theorem fR {g:zY} (h:PS X st (f8 (TAe PK i) (gT PK g))):PS X st (bT PK (fe g i)):=h.imp λD σ H hz0=>by
 obtain ⟨pa,Ag,H₀,m,ρ,G,R,z⟩:=hz0
 refine TAe.then R z λm1 x v G1 H1 s1 w1 R1 d1 q1=>?_
 rw [Tr.ok_bind] at q1
 obtain ⟨ρ',hg,q1⟩:=Tr.ok_of q1
 exact ⟨pa,Ag,H₀,m1,ρ,G1,x,ρ',R1,d1,hg,λσ' R'=>q1 σ' G1 H1 s1.gs R'⟩
noncomputable def iH (k n:Nat) (is:zT):zV:=λρ=>(is ρ).bind λxs=>match xs with
 | [x,y]=>.ret (.next ((ρ.set k (.d x)).set n (.d y)))
 | _=>.fail
theorem lp {k n:Nat} (h:PS X st (Zaz k n (TAd PK is))):PS X st (bT PK (iH k n is)):=h.imp λD σ H hz0=>by
 obtain ⟨pa,Ag,H₀,m,ρ,G,R,z⟩:=hz0
 refine TAd.then R z λm1 xs vs G1 H1 s1 w1 R1 d1 q1=>?_
 split at q1
 ·cases d1 with
  | cons e1 d1 =>
   cases d1 with
   | cons e2 d1 =>
    cases d1
    exact ⟨_,_,rfl,q1 _ G1 H1 s1.gs ((R1.set e1 k).set e2 n)⟩
 ·exact q1.elim
def kd (PK:Pk) (pa:Addr) (J:It) (G:Hp) (xs:z9):Prop:=∀ m G2 H2,Sub G G2->Wd PK pa m G2 H2 ->
 (∀ (n:Nat) (d:PyData),xs[n]?=some d->J.go n H2/\∀ x H3,J.yld n H2 x H3->∃ G3,Stp pa G2 H2 G3 H3/\Wd PK pa m G3 H3/\Dn G3 x d)/\J.stop xs.length H2
def fX (PK:Pk) (is:zT):TI:=λσ H R=>∃ pa Ag H₀ m ρ G,Rl PK pa Ag H₀ m σ ρ G H/\(is ρ).ok m λm' xs=>∀ J G' H',Stp pa G H G' H'->Wd PK pa m' G' H'->kd PK pa J G' xs->R J H'
theorem PI.imp {tg iter:Expr} {t t':TI} (h:PI X tg iter t) (q:∀ σ H R,t' σ H R->t σ H R):PI X tg iter t':=λpins s σ H R I z=>h pins s σ H R I (q σ H R z)
noncomputable def bV (g:zY) (s:zV):List PyData->List Sl->Tr Ou
 | [],ρ=>.ret (.next ρ)
 | x::xs,ρ=>(Tr.of (g x ρ)).bind λρ1=>(s ρ1).bind λo=>match o with
  | .next ρ2=>bV g s xs ρ2
  | .cont ρ2=>bV g s xs ρ2
  | .brk ρ2=>.ret (.next ρ2)
  | .ret r=>.ret (.ret r)
noncomputable def dg (is:zT) (g:zY) (s:zV):zV:=λρ=>(is ρ).bind λxs=>bV g s xs ρ
theorem dD {tg iter:Expr} {body:List Stmt} {g:zY} (hp:PassesOwn (model X.prog X.w) X.A X.env X.xe) (hc:X.calm=true) (hi:PI X tg iter (fX PK is)) (hg:PG X tg (gT PK g)) (hb:PSs X body (bT PK s))
  (hs:∀ x,foldedSetIterable iter X.env x=pure x:=by intro _; rfl):PS X (.For tg iter body [] pos) (bT PK (dg is g s)):=(Zll hp hc hi hg hb hs).imp λD σ H hz0=>by
 obtain ⟨pa,Ag,H₀,m,ρ,G,R,z⟩:=hz0
 refine ⟨pa,Ag,H₀,m,ρ,G,R,Tr.ok_mono (Tr.ok_bind.mp z) λm1 xs k J G1 H1 s1 w1 jo=>?_⟩
 let W:Nat->Nat->St->Hp->Prop:=λn mm σ H=>mm=xs.length - n/\n<=xs.length/\∃ m ρ G,Sub G1 G/\Rl PK pa Ag H₀ m σ ρ G H/\(bV g s (xs.drop n) ρ).ok m (Ko PK pa Ag H₀ G1 D)
 refine ⟨W,⟨xs.length,rfl,wS _,m1,ρ,G1,λ_ _ h=>h,R.step s1 w1,Tr.ok_mono k λ_ _ k'=>Ko.later k' s1.gs⟩,?_⟩
 rintro n mm σ2 H2 ⟨rfl,hn,m2,ρ2,G2,sb,R2,k2⟩
 obtain ⟨j1,j2⟩:=jo m2 G2 H2 sb R2.wd
 by_cases hlt:n < xs.length
 ·have hx:xs[n]?=some xs[n]:=by simp [hlt]
  obtain ⟨jg,jy⟩:=j1 n _ hx
  refine .inr ⟨jg,W (n+1) (xs.length - (n+1)),λσ' H' h'=>⟨_,by omega,h'⟩,λx H3 y=>?_⟩
  obtain ⟨G3,s3,w3,d3⟩:=jy x H3 y
  rw [wR hlt] at k2
  unfold bV at k2
  rw [Tr.ok_bind] at k2
  obtain ⟨ρ3,hg3,k3⟩:=Tr.ok_of k2
  refine ⟨pa,Ag,H₀,m2,ρ2,G3,_,ρ3,R2.step s3 w3,d3,hg3,λσ4 R4=>?_⟩
  refine ⟨pa,Ag,H₀,m2,ρ3,G3,R4,Tr.ok_mono (Tr.ok_bind.mp k3) λm5 o ko=>?_⟩
  have again:∀ ρ5,(bV g s (xs.drop (n+1)) ρ5).ok m5 (Ko PK pa Ag H₀ G1 D)->∀ σ5 G5 H5,Sub G3 G5->Rl PK pa Ag H₀ m5 σ5 ρ5 G5 H5->W (n+1) (xs.length - (n+1)) σ5 H5:=λρ5 k5 σ5 G5 H5 sb5 R5 =>
   ⟨rfl,hlt,m5,ρ5,G5,(sb.trans s3.gs).trans sb5,R5,k5⟩
  cases o with
  | next ρ5=>exact again ρ5 ko
  | cont ρ5=>exact again ρ5 ko
  | brk ρ5=>exact λσ5 G5 H5 sb5 R5=>ko σ5 G5 H5 ((sb.trans s3.gs).trans sb5) R5
  | ret r=>exact ko
 ·have e:n=xs.length:=by omega
  subst e
  refine .inl ⟨j2,?_⟩
  rw [yO] at k2
  exact k2 σ2 G2 H2 sb R2
end L2
set_option Elab.async false
set_option linter.all false
set_option maxRecDepth 100000
namespace L2
variable {PK:Pk} {X:Cx} {a b c e:Expr} {es:List Expr} {pos:Pos} {i j l:zS} {is:zT} {as:List Sl->Tr Af} {f:zW} {p q:zU} {st:Stmt} {sts:List Stmt} {s t u:zV}
noncomputable def c7 (p:zU) (s:zV):Nat->List Sl->Tr Ou
 | 0,_=>.fail
 | n+1,ρ=>(p ρ).bind λb=>if b=true then (s ρ).bind λo=>match o with
   | .next ρ2=>c7 p s n ρ2
   | .cont ρ2=>c7 p s n ρ2
   | .brk ρ2=>.ret (.next ρ2)
   | .ret r=>.ret (.ret r)
  else .ret (.next ρ)
theorem qt {body:List Stmt} (n:Nat) (hp:PassesOwn (model X.prog X.w) X.A X.env X.xe) (hc:PT X c (TAt PK p)) (hb:PSs X body (bT PK s)):PS X (.While c body [] pos) (bT PK (c7 p s n)):=(Zlj hp hc hb).imp λD σ H hz0=>by
 obtain ⟨pa,Ag,H₀,m,ρ,G,R,z⟩:=hz0
 let W:Nat->St->Hp->Prop:=λn σ H=>∃ m ρ G1,Sub G G1/\Rl PK pa Ag H₀ m σ ρ G1 H/\(c7 p s n ρ).ok m (Ko PK pa Ag H₀ G D)
 refine ⟨W,⟨n,m,ρ,G,.refl,R,z⟩,?_⟩
 rintro n σ2 H2 ⟨m2,ρ2,G2,sb,R2,k2⟩
 cases n with
 | zero=>exact k2.elim
 | succ n =>
  unfold c7 at k2
  refine TAt.then R2 k2 λm3 x G3 H3 s3 w3 R3 k3=>?_
  cases x with
  | false =>
   rw [if_neg wj] at k3 ⊢
   exact k3 σ2 G3 H3 (sb.trans s3.gs) R3
  | true =>
   rw [if_pos rfl] at k3 ⊢
   refine ⟨W n,λσ' H' h=>⟨n,by omega,h⟩,pa,Ag,H₀,m3,ρ2,G3,R3,Tr.ok_mono (Tr.ok_bind.mp k3) λm4 o ko=>?_⟩
   have again:∀ ρ5,(c7 p s n ρ5).ok m4 (Ko PK pa Ag H₀ G D)->∀ σ5 G5 H5,Sub G3 G5->Rl PK pa Ag H₀ m4 σ5 ρ5 G5 H5->W n σ5 H5:=λρ5 k5 σ5 G5 H5 sb5 R5 =>
    ⟨m4,ρ5,G5,(sb.trans s3.gs).trans sb5,R5,k5⟩
   cases o with
   | next ρ5=>exact again ρ5 ko
   | cont ρ5=>exact again ρ5 ko
   | brk ρ5=>exact λσ5 G5 H5 sb5 R5=>ko σ5 G5 H5 ((sb.trans s3.gs).trans sb5) R5
   | ret r=>exact ko
noncomputable def qk:Sl->Sl
 | .own _=>.un
 | .dic _=>.un
 | s=>s
noncomputable def blk (n:Nat) (ix:List Nat) (ρ:Af):Af:=List.replicate n .un++ix.map λj=>qk ((ρ[j]?).getD .un)
theorem Rl.blk {pa:Addr} {Ag H₀ G H:Hp} {m:Nat} {σ:St} {ρ:Af} (R:Rl PK pa Ag H₀ m σ ρ G H) (n:Nat) (ix:List Nat):Rl PK pa Ag H₀ m (dS n ix σ) (blk n ix ρ) G H:=by
 have key:∀ (k:Nat) (s:Sl),(L2.blk n ix ρ)[k]?=some s->(∃ o,(dS n ix σ)[k]?=some o/\SlOk pa H₀ G H o s)/\(∀ xs,s≠.own xs)/\∀ xs,s≠.dic xs:=λk s h=>by
  unfold L2.blk at h
  unfold dS
  by_cases hk:k < n
  ·rw [wQ (by simpa using hk),wJ,if_pos hk] at h
   rw [wQ (by simpa using hk),wJ,if_pos hk]
   cases h
   exact ⟨⟨_,rfl,.un⟩,(λxs h=>by cases h),λxs h=>by cases h⟩
  ·rw [wL (by simpa using yi hk),yf,v5] at h
   rw [wL (by simpa using yi hk),yf,v5]
   cases hj:ix[k - n]? with
   | none=>rw [hj] at h; cases h
   | some j =>
    rw [hj] at h
    have h':qk ((ρ[j]?).getD .un)=s:=wG h
    subst h'
    show (∃ o,some ((σ[j]?).getD none)=some o/\_)/\_
    cases hr:ρ[j]? with
    | none=>exact ⟨⟨_,rfl,.un⟩,(λxs h=>by cases h),λxs h=>by cases h⟩
    | some s' =>
     obtain ⟨o,h1,h2⟩:=R.sl j s' hr
     rw [h1]
     cases h2 with
     | un=>exact ⟨⟨_,rfl,.un⟩,(λxs h=>by cases h),λxs h=>by cases h⟩
     | d z=>exact ⟨⟨_,rfl,.d z⟩,(λxs h=>by cases h),λxs h=>by cases h⟩
     | own _ _ _ _=>exact ⟨⟨_,rfl,.un⟩,(λxs h=>by cases h),λxs h=>by cases h⟩
     | dic _ _ _ _=>exact ⟨⟨_,rfl,.un⟩,(λxs h=>by cases h),λxs h=>by cases h⟩
     | pen=>exact ⟨⟨_,rfl,.pen⟩,(λxs h=>by cases h),λxs h=>by cases h⟩
 refine ⟨R.wd,R.st,R.p0,λk s h=>(key k s h).1,?_,λk n' xs ys _ h1 _=>absurd rfl ((key k _ h1).2.1 xs),λk n' xs ys _ h1 _=>absurd rfl ((key k _ h1).2.2 xs)⟩
 unfold L2.blk dS
 simp
def js (n:Nat) (g:zY):Prop:=∀ x ρ ρ',g x ρ=some ρ'->ρ'.length=ρ.length/\∀ k,n<=k->ρ'[k]?=ρ[k]?
def qN (n:Nat) (g:zX):Prop:=∀ x ρ ρ',g x ρ=some ρ'->ρ'.length=ρ.length/\∀ k,n<=k->ρ'[k]?=ρ[k]?
theorem cW {n k:Nat} (h:k < n):js n (aj k):=λx ρ ρ' e=>by
 cases e
 exact ⟨wx,λj hj=>wq (by omega)⟩
theorem kG {n:Nat}:qN n bx:=λx ρ ρ' e=>by
 cases x with
 | nil=>cases e; exact ⟨rfl,λ_ _=>rfl⟩
 | cons _ _=>cases e
theorem fH {n:Nat} {g:zY} {gs:zX} (h1:js n g) (h2:qN n gs):qN n (aJ g gs):=λx ρ ρ' e=>by
 cases x with
 | nil=>cases e
 | cons x xs =>
  have e':(g x ρ).bind (λρ'=>gs xs ρ')=some ρ':=e
  cases h:g x ρ with
  | none=>rw [h] at e'; cases e'
  | some ρ1 =>
   rw [h] at e'
   obtain ⟨a1,a2⟩:=h1 x ρ ρ1 h
   obtain ⟨b1,b2⟩:=h2 xs ρ1 ρ' e'
   exact ⟨b1.trans a1,λk hk=>(b2 k hk).trans (a2 k hk)⟩
theorem kF {n:Nat} {gs:zX} (h2:qN n gs):js n (bA gs):=λx ρ ρ' e=>by
 cases x with
 | tuple xs=>exact h2 xs ρ ρ' e
 | _=>cases e
noncomputable def bG (h:PyData->Tr PyData):List PyData->Tr z9
 | []=>.ret []
 | x::xs=>(h x).bind λy=>(bG h xs).bind λys=>.ret (y::ys)
noncomputable def dF (is:zT) (n:Nat) (ix:List Nat) (g:zY) (el:zS):zT:=λρ =>
 (is ρ).bind λxs=>if small xs.length=true then bG (λx=>(Tr.of (g x (blk n ix ρ))).bind el) xs else .fail
theorem Rl.weak {pa:Addr} {Ag H₀ G H:Hp} {m:Nat} {σ:St} {ρ ρ':Af} (R:Rl PK pa Ag H₀ m σ ρ' G H) (hl:ρ'.length=ρ.length) (h:∀ (k:Nat) (s:Sl),ρ[k]?=some s->s=.un\/ρ'[k]?=some s):Rl PK pa Ag H₀ m σ ρ G H:=by
 refine ⟨R.wd,R.st,R.p0,λk s hk=>?_,hl.symm.trans R.len,λk n xs ys hkn h1 h2=>?_,λk n xs ys hkn h1 h2=>?_⟩
 ·rcases h k s hk with e | e
  ·subst e
   have hlt:k < σ.length:=by
    rw [<- R.len,hl]
    exact (v8.mp hk).1
   exact ⟨σ[k],by simp [hlt],.un⟩
  ·exact R.sl k s e
 ·rcases h k _ h1 with e | e
  ·cases e
  ·rcases h n _ h2 with e' | e'
   ·cases e'
   ·exact R.dj k n xs ys hkn e e'
 ·rcases h k _ h1 with e | e
  ·cases e
  ·rcases h n _ h2 with e' | e'
   ·cases e'
   ·exact R.dj2 k n xs ys hkn e e'
theorem ZdH {n:Nat} {ix:List Nat} {g:zY} (hn:js n g):∀ σ H Q,ff PK (dF is n ix g i) σ H Q->lM (fX PK is) n ix (λ_=>gT PK g) (λ_=>TAe PK i) σ H Q:=by
 rintro σ H Q ⟨pa,Ag,H₀,m,ρ,G,R,z⟩
 refine ⟨pa,Ag,H₀,m,ρ,G,R,Tr.ok_mono (Tr.ok_bind.mp z) λm1 xs k J G1 H1 s1 w1 jo=>λB=>?_⟩
 obtain ⟨hs,k⟩:=ic k
 have hs:xs.length<=sizeLine:=of_decide_eq_true hs
 let el:PyData->Tr PyData:=λx=>(Tr.of (g x (blk n ix ρ))).bind i
 let W:Nat->Nat->St->List V->Hp->Prop:=λk mm τ ys H2=>mm=xs.length - k/\k<=xs.length/\ys.length=k/\∃ m G2 ds,Sub G1 G2/\Stp pa G H G2 H2/\Rl PK pa Ag H₀ m τ (blk n ix ρ) G2 H2 /\
  DnAll G2 ys ds/\(bG el (xs.drop k)).ok m λm' zs=>Ko1 PK pa m' G H (ds++zs) Q
 refine ⟨W,⟨xs.length,rfl,wS _,rfl,m1,G1,[],.refl,s1,(R.step s1 w1).blk n ix,.nil,k⟩,?_⟩
 rintro k mm τ ys H2 ⟨rfl,hk,hy,m2,G2,ds,sb,st2,R2,dn,k2⟩
 obtain ⟨j1,j2⟩:=jo m2 G2 H2 sb R2.wd
 by_cases hlt:k < xs.length
 ·have hx:xs[k]?=some xs[k]:=by simp [hlt]
  obtain ⟨jg,jy⟩:=j1 k _ hx
  refine .inr ⟨jg,by omega,λx H3 y=>?_⟩
  obtain ⟨G3,s3,w3,d3⟩:=jy x H3 y
  rw [wR hlt] at k2
  unfold bG at k2
  rw [Tr.ok_bind,Tr.ok_bind] at k2
  obtain ⟨ρ3,hg3,k3⟩:=Tr.ok_of k2
  refine ⟨pa,Ag,H₀,m2,_,G3,_,ρ3,R2.step s3 w3,d3,hg3,λτ4 R4=>?_⟩
  refine ⟨pa,Ag,H₀,m2,ρ3,G3,R4,Tr.ok_mono k3 λm5 yd k5=>?_⟩
  intro v G5 H5 s5 w5 d5
  have s35:=s3.trans s5 w3.some
  obtain ⟨pl,pk⟩:=hn _ _ _ hg3
  refine ⟨xs.length - (k+1),by omega,rfl,hlt,by rw [wu,hy]; rfl,m5,G5,ds++[yd],sb.trans s35.gs,st2.trans s35 R2.wd.some,?_,(DnAll.mono s35.gs dn).snoc d5,?_⟩
  ·refine (R4.step s5 w5).weak pl λq sl hq=>?_
   by_cases hqn:q < n
   ·left
    unfold blk at hq
    rw [wQ (by simpa using hqn),wJ,if_pos hqn] at hq
    cases hq
    rfl
   ·right
    rw [pk q (yi hqn)]
    exact hq
  ·refine Tr.ok_mono (Tr.ok_bind.mp k5) λm6 zs k6=>?_
   rw [xk]
   exact k6
 ·have e:k=xs.length:=by omega
  subst e
  refine .inl ⟨j2,λp v H' hp ev eH=>?_⟩
  subst ev eH
  rw [yO] at k2
  have k2':Ko1 PK pa m2 G H (ds++[]) Q:=k2
  rw [w8] at k2'
  exact (Ko1.later k2' st2 R2.wd.some).new R2.wd dn hp
theorem fU {n:Nat} {ix:List Nat} {g:zY} (h:PE X e (lM (fX PK is) n ix (λ_=>gT PK g) (λ_=>TAe PK i))) (hn:js n g):PE X e (ff PK (dF is n ix g i)):=h.imp (ZdH hn)
theorem ZjM {te te':TE} {g:TG} (h:∀ σ H Q,te' σ H Q->te σ H Q):∀ D σ H,f8 te' g D σ H->f8 te g D σ H:=λD σ H z=>h σ H _ z
noncomputable def pT:Ou->Tr Re
 | .next _=>.ret (.d .none)
 | .ret r=>.ret r
 | _=>.fail
noncomputable def bm (n k:Nat) (s:zV):zW:=λas=>if decide (as.length=n)=true then (s (as++List.replicate k .un)).bind pT else .fail
theorem Rl.start {pa:Addr} {G H:Hp} {m:Nat} {N:Ac} {vs:Ad} {as:Af} {k:Nat} (w:Wd PK pa m G H) (ar:ArsOk pa G vs as) (hk:N.length - vs.length=k):Rl PK pa G H m (L2.start N vs) (as++List.replicate k .un) G H:=by
 have key:∀ {vs:Ad} {as:Af},ArsOk pa G vs as->∀ (q:Nat) (s:Sl),as[q]?=some s->(∃ o,(vs.map some)[q]?=some o/\SlOk pa H G H o s)/\(∀ xs,s≠.own xs)/\∀ xs,s≠.dic xs:=by
  intro vs as h
  induction h with
  | nil=>intro q s h; simp at h
  | cons h1 h2 ih =>
   intro q s h
   cases q with
   | zero =>
    simp at h
    subst h
    cases h1 with
    | d z=>exact ⟨⟨_,rfl,.d z⟩,(λxs h=>by cases h),λxs h=>by cases h⟩
    | pen=>exact ⟨⟨_,rfl,.pen⟩,(λxs h=>by cases h),λxs h=>by cases h⟩
   | succ q =>
    obtain ⟨⟨o,p1,p2⟩,p3⟩:=ih q s (by simpa using h)
    exact ⟨⟨o,by simpa using p1,p2⟩,p3⟩
 have hl:=ar.length
 have key2:∀ (q:Nat) (s:Sl),(as++List.replicate k .un)[q]?=some s->(∃ o,(L2.start N vs)[q]?=some o/\SlOk pa H G H o s)/\(∀ xs,s≠.own xs)/\∀ xs,s≠.dic xs:=λq s h=>by
  unfold L2.start
  by_cases hq:q < as.length
  ·rw [wQ hq] at h
   rw [wQ (by rw [vZ,hl]; exact hq)]
   exact key ar q s h
  ·rw [wL (by omega),wJ] at h
   rw [wL (by rw [vZ]; omega),wJ,vZ,hl]
   split at h
   ·rename_i hq2
    cases h
    rw [if_pos (by omega)]
    exact ⟨⟨_,rfl,.un⟩,(λxs h=>by cases h),λxs h=>by cases h⟩
   ·cases h
 refine ⟨w,.refl,w.some,λq s h=>(key2 q s h).1,?_,λq n xs ys _ h1 _=>absurd rfl ((key2 q _ h1).2.1 xs),λq n xs ys _ h1 _=>absurd rfl ((key2 q _ h1).2.2 xs)⟩
 unfold L2.start
 simp [hl,hk]
 omega
theorem bD {P:Program} {w:World} {K:zR} {mg:Ae} {base:Heap} {x:Str} {N ps:Ac} {kk k:Nat} (D:Def K mg x st ps) (S:FnScope N ps (aO st)) (hk:N.length - ps.length=k)
  (hbody:∀ (f:Addr) (cdv:Value) (A:Around) (outer:List Env) (sh:Shared) (H:Hp) (E:XK),Room kk (A.deeper (envOfC x (aO st) sh.heap.objs.size f cdv)) ->
   PSs (iD iL P w K mg base N x (aO st) f cdv A outer sh H E).nox (gN st) (bT PK s)):ACal PK P w K mg base x (kk+1) ps (bm ps.length k s):=by
 have len:∀ as m Z,(bm ps.length k s as).ok m Z->as.length=ps.length:=λas m Z h=>by
  unfold bm at h
  exact of_decide_eq_true (ic h).1
 refine ⟨D.ok S (λvs H Q E h=>h.1) λf cdv A outer sh H vs Q E hr hsp=>?_,len⟩
 obtain ⟨hv,pa,m,G,as,wd,ar,z⟩:=hsp
 refine ⟨_,hbody f cdv A outer sh H E hr,?_⟩
 unfold bm at z
 obtain ⟨_,z⟩:=ic z
 refine ⟨pa,G,H,m,_,G,Rl.start wd ar (by rw [hv]; exact hk),Tr.ok_mono (Tr.ok_bind.mp z) λm1 o ko=>?_⟩
 cases o with
 | next ρ=>exact λσ G1 H1 sb R1=>ko .non G1 H1 R1.st R1.wd .non
 | ret r=>exact ko
 | brk ρ=>exact ko.elim
 | cont ρ=>exact ko.elim
theorem Zls {tg l:Expr} {tl:TE} (hl:PE X l tl):PI X tg l (λσ H R=>tl σ H λx H1=>∃ a,x=.ref a/\((∃ xs,SqL X.K H1 a xs/\R (vV X.K a) H1)\/(∃ xs,SqT X.K H1 a xs/\R (vU X.K a) H1))):=by
 intro pins s σ H R I h
 refine thn (hl pins s σ H _ I h) λv s1 hz0=>?_
 obtain ⟨x,H1,I1,r1,q1⟩:=hz0
 obtain ⟨a,e,q⟩:=q1
 subst e
 cases r1
 rcases q with ⟨xs,hq,q⟩ | ⟨xs,hq,q⟩
 ·obtain ⟨its,rv,p,hz⟩:=I1.list hq
  refine wpAny_pyIter_list p.isList ?_
  refine ⟨s1.heap.objs.size,[s1.heap.objs.size],_,_,H1,rfl,I1.kept (t':=s1.toks) λb o e=>vY _ e,Zje a _,⟨_,v7 _ rfl,rfl,rfl⟩,λb hb=>?_,q⟩
  have e:b=s1.heap.objs.size:=by simpa using hb
  subst e
  exact I1.fpOk (v4 _) (I1.hok.fresh (v4 _))
 ·obtain ⟨its,rv,p,hz⟩:=I1.tuple hq
  refine wpAny_pyIter_tuple (show s1.heap.IsTuple a its.toArray from p) ?_
  refine ⟨s1.heap.objs.size,[s1.heap.objs.size],_,_,H1,rfl,I1.kept (t':=s1.toks) λb o e=>vY _ e,Zjb a _,⟨_,v7 _ rfl,rfl,rfl⟩,λb hb=>?_,q⟩
  have e:b=s1.heap.objs.size:=by simpa using hb
  subst e
  exact I1.fpOk (v4 _) (I1.hok.fresh (v4 _))
theorem DnAll.get {H:Hp}:∀ {vs:Ad} {ds:z9} (n:Nat) {d:PyData},DnAll H vs ds->ds[n]?=some d->∃ v,vs[n]?=some v/\Dn H v d
 | _,_,_,_,.nil,e=>by simp at e
 | _,_,0,_,.cons g t,e=>by simp at e; subst e; exact ⟨_,rfl,g⟩
 | _,_,n+1,_,.cons g t,e=>by
  obtain ⟨v,h1,h2⟩:=DnAll.get n t (by simpa using e)
  exact ⟨v,by simpa using h1,h2⟩
theorem Znl {K:zR} {pa a:Addr} {G:Hp} {vs:Ad} {xs:z9} (h:G a=some (.lst vs)) (d:DnAll G vs xs):kd PK pa (vV K a) G xs:=λm G2 H2 sb w=>by
 have hq:SqL K H2 a vs:=SqL.of (w.sub _ _ (sb _ _ h))
 refine ⟨λn x hx=>?_,vs,hq,by rw [d.length]; exact v4 _⟩
 obtain ⟨v,hv,dv⟩:=d.get n hx
 refine ⟨⟨vs,v,hq,hv⟩,λy H3 hz0=>?_⟩
 obtain ⟨e,hy⟩:=hz0
 subst e
 have:=hy vs hq
 rw [hv] at this
 cases this
 exact ⟨G2,.refl,w,dv.mono sb⟩
theorem Znj {K:zR} {pa a:Addr} {G:Hp} {vs:Ad} {xs:z9} (h:G a=some (.tup vs)) (d:DnAll G vs xs):kd PK pa (vU K a) G xs:=λm G2 H2 sb w=>by
 have hq:SqT K H2 a vs:=SqT.of (w.sub _ _ (sb _ _ h))
 refine ⟨λn x hx=>?_,vs,hq,by rw [d.length]; exact v4 _⟩
 obtain ⟨v,hv,dv⟩:=d.get n hx
 refine ⟨⟨vs,v,hq,hv⟩,λy H3 hz0=>?_⟩
 obtain ⟨e,hy⟩:=hz0
 subst e
 have:=hy vs hq
 rw [hv] at this
 cases this
 exact ⟨G2,.refl,w,dv.mono sb⟩
noncomputable def gI:PyData->Option z9
 | .list xs=>some xs
 | .tuple xs=>some xs
 | _=>none
@[simp] theorem ZrC (xs:z9):gI (.list xs)=some xs:=rfl
@[simp] theorem ZrB (xs:z9):gI (.tuple xs)=some xs:=rfl
noncomputable def dU (i:zS):zT:=λρ=>(i ρ).bind λx=>Tr.of (gI x)
theorem eP {tg l:Expr} (hl:PE X l (TAe PK i)):PI X tg l (fX PK (dU i)):=(Zls hl).imp λσ H R0 hz0=>by
 obtain ⟨pa,Ag,H₀,m,ρ,G,R,z⟩:=hz0
 refine TAe.then R z λm1 x v G1 H1 s1 w1 R1 d1 q1=>?_
 obtain ⟨xs,hx,q1⟩:=Tr.ok_of q1
 cases d1 with
 | lst h1 h2=>cases hx; exact ⟨_,rfl,.inl ⟨_,SqL.of (w1.sub _ _ h1),q1 _ G1 H1 s1 w1 (Znl h1 h2)⟩⟩
 | tup h1 h2=>cases hx; exact ⟨_,rfl,.inr ⟨_,SqT.of (w1.sub _ _ h1),q1 _ G1 H1 s1 w1 (Znj h1 h2)⟩⟩
 | _=>cases hx
noncomputable def aL (lo hi:Int):z9:=(aI lo (hi - lo).toNat).map PyData.int
theorem ZdO {pa:Addr} {G:Hp} {lo:Int} {n:Nat}:kd PK pa (ke lo n) G ((aI lo n).map PyData.int):=λm G2 H2 sb w=>by
 refine ⟨λk x hx=>?_,by show n<=_; rw [vZ,gA]; exact v4 _⟩
 have hk:k < n:=by
  have:=(v8.mp hx).1
  rwa [vZ,gA] at this
 refine ⟨hk,λy H3 hz0=>?_⟩
 obtain ⟨e1,e2⟩:=hz0
 subst e1 e2
 have:x=.int (lo+k):=by
  unfold aI at hx
  simp [hk] at hx
  exact hx.symm
 subst this
 exact ⟨G2,.refl,w,.int _⟩
noncomputable def gk (n:Int):Bool:=decide (-(2 ^ 62)<=n/\n < 2 ^ 62)
noncomputable def l8:List PyData->Option z9
 | [.int n]=>if gk n=true then some (aL 0 n) else none
 | _=>none
noncomputable def kA:List PyData->Option z9
 | [.int k,.int n]=>if (gk k && gk n)=true then some (aL k n) else none
 | _=>none
noncomputable def gQ (is:zT):zT:=λρ=>(is ρ).bind λxs=>Tr.of (l8 xs)
noncomputable def qE (is:zT):zT:=λρ=>(is ρ).bind λxs=>Tr.of (kA xs)
theorem ZkQ {G:Hp} {vs:Ad} {xs ys:z9} (d:DnAll G vs xs) (h:l8 xs=some ys):∃ n:Int,vs=[.int n]/\-(2 ^ 62)<=n/\n < 2 ^ 62/\ys=aL 0 n:=by
 unfold l8 at h
 split at h
 ·rename_i n
  split at h
  ·rename_i hn
   cases h
   cases d with
   | cons d1 d2 =>
    cases d2
    cases d1
    have:=of_decide_eq_true hn
    exact ⟨n,rfl,this.1,this.2,rfl⟩
  ·cases h
 ·cases h
theorem Zb5 {G:Hp} {vs:Ad} {xs ys:z9} (d:DnAll G vs xs) (h:kA xs=some ys):∃ k n:Int,vs=[.int k,.int n]/\(-(2 ^ 62)<=k/\k < 2 ^ 62/\-(2 ^ 62)<=n/\n < 2 ^ 62)/\ys=aL k n:=by
 unfold kA at h
 split at h
 ·rename_i k n
  split at h
  ·rename_i hn
   cases h
   cases d with
   | cons d1 d2 =>
    cases d2 with
    | cons d2 d3 =>
     cases d3
     cases d1
     cases d2
     rw [wl] at hn
     have h1:=of_decide_eq_true hn.1
     have h2:=of_decide_eq_true hn.2
     exact ⟨k,n,rfl,⟨h1.1,h1.2,h2.1,h2.2⟩,rfl⟩
  ·cases h
 ·cases h
theorem jm {tg e:Expr} (h:PI X tg e (Zd2 (TAd PK is))):PI X tg e (fX PK (gQ is)):=h.imp λσ H R0 hz0=>by
 obtain ⟨pa,Ag,H₀,m,ρ,G,R,z⟩:=hz0
 refine TAd.then R z λm1 xs vs G1 H1 s1 w1 R1 d1 q1=>?_
 obtain ⟨ys,hy,q1⟩:=Tr.ok_of q1
 obtain ⟨n,e,h1,h2,rfl⟩:=ZkQ d1 hy
 refine ⟨n,e,h1,h2,?_⟩
 have q:=q1 (ke 0 n.toNat) G1 H1 s1 w1
 unfold aL at q
 rw [Int.sub_zero] at q
 exact q ZdO
theorem ZiE {tg e:Expr} (h:PI X tg e (Zd1 (TAd PK is))):PI X tg e (fX PK (qE is)):=h.imp λσ H R0 hz0=>by
 obtain ⟨pa,Ag,H₀,m,ρ,G,R,z⟩:=hz0
 refine TAd.then R z λm1 xs vs G1 H1 s1 w1 R1 d1 q1=>?_
 obtain ⟨ys,hy,q1⟩:=Tr.ok_of q1
 obtain ⟨k,n,e,h1,rfl⟩:=Zb5 d1 hy
 exact ⟨k,n,e,h1,q1 (ke k (n - k).toNat) G1 H1 s1 w1 ZdO⟩
end L2
set_option Elab.async false
set_option linter.all false
set_option maxRecDepth 100000
namespace L2
variable {PK:Pk} {X:Cx} {a b c e:Expr} {es:List Expr} {pos:Pos} {i j l:zS} {is:zT}
noncomputable def fit (n:Int):Bool:=decide (n.natAbs < 2 ^ 8000)
noncomputable def aX:zZ
 | .int m,.int n=>some (.int (m+n))
 | .tuple xs,.tuple ys=>if (!xs.isEmpty && small (xs.length+ys.length))=true then some (.tuple (xs++ys)) else none
 | .list xs,.list ys=>if small (xs.length+ys.length)=true then some (.list (xs++ys)) else none
 | _,_=>none
noncomputable def sS (K:zR):R2:=λx y H Q=>fo (λi j=>.int (i+j)) x y H Q\/Zcu K x y H Q\/Zcw x y H Q
theorem bw:OpR X (binaryOp .Add) (sS X.K):=iX.or (Zl4.or Zl6)
theorem bv {K:zR}:cI (sS K) aX:=λPK pa m G H x y dx dy dz Q w hx hy hz k=>by
 unfold aX at hz
 split at hz
 ·cases hz; cases hx; cases hy
  exact .inl ⟨_,_,rfl,rfl,k.here w (.int _)⟩
 ·rename_i xs ys
  split at hz
  ·rename_i hc
   rw [wl] at hc
   have h1:xs.isEmpty=false:=by simpa using hc.1
   have h2:xs.length+ys.length<=sizeLine:=of_decide_eq_true hc.2
   cases hz
   cases hx with
   | tup a1 a2 =>
    cases hy with
    | tup b1 b2 =>
     refine .inr (.inl ⟨_,_,_,_,rfl,rfl,SqT.of (w.sub _ _ a1),SqT.of (w.sub _ _ b1),?_,by rw [a2.length,b2.length]; exact h2,λe=>?_,λe p hp=>k.tup w (a2.append b2) hp⟩)
     ·intro e
      rw [<- a2.isEmpty,e] at h1
      cases h1
     ·subst e
      cases b2
      refine k.here w ?_
      rw [w8]
      exact .tup a1 a2
  ·cases hz
 ·rename_i xs ys
  split at hz
  ·rename_i hc
   have h2:xs.length+ys.length<=sizeLine:=of_decide_eq_true hc
   cases hz
   cases hx with
   | lst a1 a2 =>
    cases hy with
    | lst b1 b2=>exact .inr (.inr ⟨_,_,_,_,rfl,rfl,w.sub _ _ a1,w.sub _ _ b1,by rw [a2.length,b2.length]; exact h2,λp hp=>k.lst w (a2.append b2) hp⟩)
  ·cases hz
 ·cases hz
noncomputable def b8:zZ
 | .int m,.int n=>some (.int (m - n))
 | _,_=>none
theorem cr:cI (fo λi j=>.int (i - j)) b8:=λPK pa m G H x y dx dy dz Q w hx hy hz k=>by
 unfold b8 at hz
 split at hz
 ·cases hz; cases hx; cases hy
  exact ⟨_,_,rfl,rfl,k.here w (.int _)⟩
 ·cases hz
theorem DnAll.rep {H:Hp} {vs:Ad} {ds:z9} (h:DnAll H vs ds):∀ k:Nat,DnAll H (List.replicate k vs).flatten (List.replicate k ds).flatten
 | 0=>.nil
 | k+1=>by
  rw [wI,wI,xa,xa]
  exact h.append (h.rep k)
noncomputable def Zcm (K:zR):R2:=λx y H Q=>rI CMulG (λi j=>.int (i * j)) x y H Q\/Zcj K x y H Q\/sQ x y H Q
theorem bC:OpR X (binaryOp .Mult) (Zcm X.K):=ZlZ.or (ZlW.or ZcV)
noncomputable def bo:zZ
 | .int m,.int n=>if (fit m && fit n)=true then some (.int (m * n)) else none
 | .tuple xs,.int n=>if (decide (1 < n) && decide (n<=1000) && !xs.isEmpty && decide (xs.length<=1000))=true then some (.tuple (List.replicate n.toNat xs).flatten) else none
 | .list xs,.int n=>if (decide (-(2 ^ 63)<=n) && decide (n < 2 ^ 63) && small (xs.length * n.toNat))=true then some (.list (List.replicate n.toNat xs).flatten) else none
 | _,_=>none
theorem bB {K:zR}:cI (Zcm K) bo:=λPK pa m G H x y dx dy dz Q w hx hy hz k=>by
 unfold bo at hz
 split at hz
 ·split at hz
  ·rename_i hc
   rw [wl] at hc
   cases hz; cases hx; cases hy
   exact .inl ⟨_,_,rfl,rfl,⟨of_decide_eq_true hc.1,of_decide_eq_true hc.2⟩,k.here w (.int _)⟩
  ·cases hz
 ·split at hz
  ·rename_i hc
   simp only [wl,decide_eq_true_eq,yH] at hc
   cases hz; cases hy
   cases hx with
   | tup a1 a2 =>
    refine .inr (.inl ⟨_,_,_,rfl,rfl,SqT.of (w.sub _ _ a1),hc.1.1.1,hc.1.1.2,?_,by rw [a2.length]; exact hc.2,λp hp=>k.tup w (a2.rep _) hp⟩)
    intro e
    have:=hc.1.2
    rw [<- a2.isEmpty,e] at this
    cases this
  ·cases hz
 ·split at hz
  ·rename_i hc
   simp only [wl,decide_eq_true_eq] at hc
   cases hz; cases hy
   cases hx with
   | lst a1 a2=>exact .inr (.inr ⟨_,_,_,rfl,rfl,w.sub _ _ a1,hc.1.1,hc.1.2,by rw [a2.length]; exact of_decide_eq_true hc.2,λp hp=>k.lst w (a2.rep _) hp⟩)
  ·cases hz
 ·cases hz
noncomputable def e9:zZ
 | .int m,.int n=>if (decide (n≠0) && fit n)=true then some (.int (m.fdiv n)) else none
 | _,_=>none
theorem gU:cI (rI ZiS λi j=>.int (i.fdiv j)) e9:=λPK pa m G H x y dx dy dz Q w hx hy hz k=>by
 unfold e9 at hz
 split at hz
 ·split at hz
  ·rename_i hc
   rw [wl] at hc
   cases hz; cases hx; cases hy
   exact ⟨_,_,rfl,rfl,⟨of_decide_eq_true hc.1,of_decide_eq_true hc.2⟩,k.here w (.int _)⟩
  ·cases hz
 ·cases hz
noncomputable def ij:zZ
 | .int m,.int n=>if decide (n≠0)=true then some (.int (m.fmod n)) else none
 | _,_=>none
theorem nU:cI (rI (λ_ j=>j≠0) λi j=>.int (i.fmod j)) ij:=λPK pa m G H x y dx dy dz Q w hx hy hz k=>by
 unfold ij at hz
 split at hz
 ·split at hz
  ·rename_i hc
   cases hz; cases hx; cases hy
   exact ⟨_,_,rfl,rfl,of_decide_eq_true hc,k.here w (.int _)⟩
  ·cases hz
 ·cases hz
noncomputable def mj:zZ
 | .int m,.int n=>if (decide (0<=n) && decide (n<=1000000) && decide (m.natAbs < 2 ^ 64))=true then some (.int (m ^ n.toNat)) else none
 | _,_=>none
theorem Zaj:cI (rI ZiR λi j=>.int (i ^ j.toNat)) mj:=λPK pa m G H x y dx dy dz Q w hx hy hz k=>by
 unfold mj at hz
 split at hz
 ·split at hz
  ·rename_i hc
   simp only [wl,decide_eq_true_eq] at hc
   cases hz; cases hx; cases hy
   exact ⟨_,_,rfl,rfl,⟨hc.1.1,hc.1.2,hc.2⟩,k.here w (.int _)⟩
  ·cases hz
 ·cases hz
noncomputable def gS (i:zS):zS:=λρ=>(i ρ).bind λx=>match x with
 | .int n=>.ret (.int (-n))
 | _=>.fail
theorem j6 (ha:PE X a (TAe PK i)):PE X (.UnaryOp .USub a pos) (TAe PK (gS i)):=(ZlC Zi8 ha).imp λσ H Q hz0=>by
 obtain ⟨pa,Ag,H₀,m,ρ,G,R,z⟩:=hz0
 refine TAe.then R z λm1 x v G1 H1 s1 w1 R1 d1 q1=>?_
 cases d1 with
 | int n=>exact ⟨n,rfl,(Kn.later q1 s1 w1.some).here w1 (.int _)⟩
 | _=>exact q1.elim
noncomputable def c5 (f:Int->Int->Bool):zZ
 | .int m,.int n=>some (.bool (f m n))
 | _,_=>none
theorem dw {f:Int->Int->Bool}:cI (fo λi j=>.bl (f i j)) (c5 f):=λPK pa m G H x y dx dy dz Q w hx hy hz k=>by
 unfold c5 at hz
 split at hz
 ·cases hz; cases hx; cases hy
  exact ⟨_,_,rfl,rfl,k.here w (.bl _)⟩
 ·cases hz
noncomputable def cv:zZ
 | .str m,.str n=>some (.bool (m == n))
 | x,y=>if (SeqAt.shaped x && SeqAt.shaped y)=true then some (.bool (PyData.eqv x y)) else none
noncomputable def cX:zZ
 | .str m,.str n=>some (.bool (!(m == n)))
 | x,y=>if (SeqAt.shaped x && SeqAt.shaped y)=true then some (.bool (!PyData.eqv x y)) else none
noncomputable def Zcs:R2:=λx y H Q=>rEq x y H Q\/∃ d e,Dn H x d/\Dn H y e/\SeqAt.shaped d=true/\SeqAt.shaped e=true/\Q (.bl (PyData.eqv d e)) H
noncomputable def Zck:R2:=λx y H Q=>rNe x y H Q\/∃ d e,Dn H x d/\Dn H y e/\SeqAt.shaped d=true/\SeqAt.shaped e=true/\Q (.bl (!PyData.eqv d e)) H
theorem db {k:Nat} (hr:Room k X.A):OpR X (compareOp .Eq) Zcs:=Zl3.or (Zl2 hr)
theorem fr {k:Nat} (hr:Room k X.A):OpR X (compareOp .NotEq) Zck:=ZlY.or (ZlX hr)
theorem c8:cI Zcs cv:=λPK pa m G H x y dx dy dz Q w hx hy hz k=>by
 unfold cv at hz
 split at hz
 ·cases hz; cases hx; cases hy
  exact .inl ⟨rfl,by rw [p7]; exact k.here w (.bl _)⟩
 ·split at hz
  ·rename_i hc
   rw [wl] at hc
   cases hz
   exact .inr ⟨_,_,hx.mono w.sub,hy.mono w.sub,hc.1,hc.2,k.here w (.bl _)⟩
  ·cases hz
theorem fg:cI Zck cX:=λPK pa m G H x y dx dy dz Q w hx hy hz k=>by
 unfold cX at hz
 split at hz
 ·cases hz; cases hx; cases hy
  exact .inl ⟨rfl,by rw [p7]; exact k.here w (.bl _)⟩
 ·split at hz
  ·rename_i hc
   rw [wl] at hc
   cases hz
   exact .inr ⟨_,_,hx.mono w.sub,hy.mono w.sub,hc.1,hc.2,k.here w (.bl _)⟩
  ·cases hz
noncomputable def ZrD:zZ
 | .bool m,.bool n=>some (.bool (m == n))
 | _,_=>none
noncomputable def mT:zZ
 | .bool m,.bool n=>some (.bool (!(m == n)))
 | _,_=>none
theorem Zi1:cI (λx y H Q=>∃ a b,x=.bl a/\y=.bl b/\Q (.bl (!(a == b))) H) mT:=λPK pa m G H x y dx dy dz Q w hx hy hz k=>by
 unfold mT at hz
 split at hz
 ·cases hz; cases hx; cases hy
  exact ⟨_,_,rfl,rfl,k.here w (.bl _)⟩
 ·cases hz
noncomputable def au:zZ
 | .list xs,.int n=>bf xs n
 | .tuple xs,.int n=>bf xs n
 | _,_=>none
theorem DnAll.at {H:Hp} {vs:Ad} {ds:z9} {n:Int} {d:PyData} (h:DnAll H vs ds) (e:bf ds n=some d):∃ v,bf vs n=some v/\Dn H v d:=by
 unfold bf at e ⊢
 rw [<- h.length] at e
 cases hn:de vs.length n with
 | none=>rw [hn] at e; cases e
 | some j =>
  rw [hn] at e
  exact h.get j e
theorem aE {K:zR}:cI (rIx K) au:=λPK pa m G H x y dx dy dz Q w hx hy hz k=>by
 unfold au at hz
 split at hz
 ·cases hy
  cases hx with
  | lst a1 a2 =>
   obtain ⟨v,h1,h2⟩:=a2.at hz
   exact .inl ⟨_,_,_,v,rfl,rfl,SqL.of (w.sub _ _ a1),h1,k.here w h2⟩
 ·cases hy
  cases hx with
  | tup a1 a2 =>
   obtain ⟨v,h1,h2⟩:=a2.at hz
   exact .inr (.inl ⟨_,_,_,v,rfl,rfl,SqT.of (w.sub _ _ a1),h1,k.here w h2⟩)
 ·cases hz
noncomputable def cN:List PyData->Option PyData
 | [.list xs]=>some (.int xs.length)
 | [.tuple xs]=>some (.int xs.length)
 | _=>none
theorem dA {K:zR}:eR (λxs H Q=>∃ p ys,xs=[.ref p]/\(SqL K H p ys\/SqT K H p ys)/\Q (.int ys.length) H) cN:=λPK pa m G H vs ds d Q w hv hd k=>by
 unfold cN at hd
 split at hd
 ·cases hd
  cases hv with
  | cons h1 h2 =>
   cases h2
   cases h1 with
   | lst a1 a2=>exact ⟨_,_,rfl,.inl (SqL.of (w.sub _ _ a1)),by rw [a2.length]; exact k.here w (.int _)⟩
 ·cases hd
  cases hv with
  | cons h1 h2 =>
   cases h2
   cases h1 with
   | tup a1 a2=>exact ⟨_,_,rfl,.inr (SqT.of (w.sub _ _ a1)),by rw [a2.length]; exact k.here w (.int _)⟩
 ·cases hd
noncomputable def qA (n:Int):Int:=if n < 0 then -n else n
noncomputable def j7:List PyData->Option PyData
 | [.int n]=>some (.int (qA n))
 | _=>none
theorem nW:eR (λxs H Q=>∃ i,xs=[.int i]/\Q (.int (if i < 0 then -i else i)) H) j7:=λPK pa m G H vs ds d Q w hv hd k=>by
 unfold j7 at hd
 split at hd
 ·cases hd
  cases hv with
  | cons h1 h2=>cases h2; cases h1; exact ⟨_,rfl,k.here w (.int _)⟩
 ·cases hd
noncomputable def cf (m n:Int):Int:=if n > m then n else m
noncomputable def Zdg (m n:Int):Int:=if n < m then n else m
noncomputable def jM:List PyData->Option PyData
 | [.int m,.int n]=>some (.int (cf m n))
 | _=>none
theorem nV:eR (λxs H Q=>∃ i j,xs=[.int i,.int j]/\Q (.int (if j > i then j else i)) H) jM:=λPK pa m G H vs ds d Q w hv hd k=>by
 unfold jM at hd
 split at hd
 ·cases hd
  cases hv with
  | cons h1 h2=>cases h2 with | cons h2 h3=>cases h3; cases h1; cases h2; exact ⟨_,_,rfl,k.here w (.int _)⟩
 ·cases hd
noncomputable def j4:List PyData->Option PyData
 | [.int n]=>some (.int n)
 | [.bool n]=>some (.int (if n then 1 else 0))
 | _=>none
theorem rm:eR (λxs H Q=>(∃ i,xs=[.int i]/\Q (.int i) H)\/∃ k,xs=[.bl k]/\Q (.int (if k then 1 else 0)) H) j4:=λPK pa m G H vs ds d Q w hv hd k=>by
 unfold j4 at hd
 split at hd
 ·cases hd
  cases hv with
  | cons h1 h2=>cases h2; cases h1; exact .inl ⟨_,rfl,k.here w (.int _)⟩
 ·cases hd
  cases hv with
  | cons h1 h2=>cases h2; cases h1; exact .inr ⟨_,rfl,k.here w (.int _)⟩
 ·cases hd
noncomputable def gX:List PyData->Option PyData
 | [.list xs]=>some (.tuple xs)
 | [.tuple xs]=>some (.tuple xs)
 | _=>none
theorem lH {K:zR}:eR (λxs H Q=>∃ p ys,xs=[.ref p]/\((SqL K H p ys/\∀ l,H l=none->Q (.ref l) (upd H l (.tup ys)))\/(SqT K H p ys/\Q (.ref p) H))) gX:=λPK pa m G H vs ds d Q w hv hd k=>by
 unfold gX at hd
 split at hd
 ·cases hd
  cases hv with
  | cons h1 h2 =>
   cases h2
   cases h1 with
   | lst a1 a2=>exact ⟨_,_,rfl,.inl ⟨SqL.of (w.sub _ _ a1),λp hp=>k.tup w a2 hp⟩⟩
 ·cases hd
  cases hv with
  | cons h1 h2 =>
   cases h2
   cases h1 with
   | tup a1 a2=>exact ⟨_,_,rfl,.inr ⟨SqT.of (w.sub _ _ a1),k.here w (.tup a1 a2)⟩⟩
 ·cases hd
noncomputable def ir:List PyData->Option z9
 | [.list xs]=>some xs
 | [.tuple xs]=>some xs
 | _=>none
theorem rl {K:zR}:vN (λxs H Q=>∃ p ys,xs=[.ref p]/\(SqL K H p ys\/SqT K H p ys)/\∀ l,H l=none->Q (.ref l) (upd H l (.lst ys))) ir:=λPK pa m G H vs ds d Q w hv hd k=>by
 unfold ir at hd
 split at hd
 ·cases hd
  cases hv with
  | cons h1 h2 =>
   cases h2
   cases h1 with
   | lst a1 a2=>exact ⟨_,_,rfl,.inl (SqL.of (w.sub _ _ a1)),λp hp=>k.new w a2 hp⟩
 ·cases hd
  cases hv with
  | cons h1 h2 =>
   cases h2
   cases h1 with
   | tup a1 a2=>exact ⟨_,_,rfl,.inr (SqT.of (w.sub _ _ a1)),λp hp=>k.new w a2 hp⟩
 ·cases hd
noncomputable def fy:PyData->String
 | .none=>"NoneType"
 | .bool _=>"bool"
 | .int _=>"int"
 | .str _=>"str"
 | .list _=>"list"
 | .tuple _=>"tuple"
 | .dict _=>"dict"
theorem Dn.ty {K:zR} {G H:Hp} (sb:Sub G H) {v:V} {d:PyData} (h:Dn G v d):TyOf K H v (.type (fy d)):=by
 cases h with
 | non=>exact .non
 | bl b=>exact .bl b
 | int i=>exact .int i
 | str x=>exact .str x
 | tup h _=>exact .tup (sb _ _ h)
 | lst h _=>exact .lst (sb _ _ h)
 | dct h _=>exact h.elim (λh=>.dK (sb _ _ h)) λ⟨o,h⟩=>.frzD (sb _ _ h)
noncomputable def gJ (T:String) (t:String):Bool:=decide (t=T) || (decide (T="int") && decide (t="bool"))
noncomputable def fc (T:String) (i:zS):zS:=λρ=>(i ρ).bind λx=>.ret (.bool (gJ T (fy x)))
def ZdT (T:String):Prop:=T="int"\/T="bool"\/T="str"\/T="list"\/T="tuple"\/T="dict"
theorem Zm9 {K:zR} {T:String} (h:ZdT T) (d:PyData):PySem.W.kitOne K (.type (fy d)) (.type T)=some (gJ T (fy d)):=by
 rcases h with rfl | rfl | rfl | rfl | rfl | rfl <;> cases d <;> rfl
theorem fV {T:String} {tc:TE} (hT:ZdT T) (htc:tc=tC (.ty T)) (h:PE X e (f7 (λxs H Q=>∃ x T t b,xs=[x,.ty T]/\TyOf X.K H x t/\PySem.W.kitOne X.K t (.type T)=some b/\Q (.bl b) H) (fB (TAe PK i) (fB tc aY)))):PE X e (TAe PK (fc T i)):=h.imp λσ H Q hz0=>by
 obtain ⟨pa,Ag,H₀,m,ρ,G,R,z⟩:=hz0
 subst htc
 refine TAe.then R z λm1 x v G1 H1 s1 w1 R1 d1 q1=>?_
 exact ⟨v,T,_,_,rfl,d1.ty w1.sub,Zm9 hT x,(Kn.later q1 s1 w1.some).here w1 (.bl _)⟩
noncomputable def cV (xs:z9) (lo hi:Option Int):z9:=(xs.drop (HT.aU xs.length 0 lo)).take (HT.aU xs.length xs.length hi - HT.aU xs.length 0 lo)
theorem DnAll.take {H:Hp}:∀ {vs:Ad} {ds:z9} (n:Nat),DnAll H vs ds->DnAll H (vs.take n) (ds.take n)
 | _,_,0,_=>.nil
 | _,_,_+1,.nil=>.nil
 | _,_,n+1,.cons r t=>.cons r (DnAll.take n t)
theorem DnAll.drop {H:Hp}:∀ {vs:Ad} {ds:z9} (n:Nat),DnAll H vs ds->DnAll H (vs.drop n) (ds.drop n)
 | _,_,0,r=>r
 | _,_,_+1,.nil=>.nil
 | _,_,n+1,.cons r t=>DnAll.drop n t
theorem DnAll.cut {H:Hp} {vs:Ad} {ds:z9} (h:DnAll H vs ds) (lo hi:Option Int):DnAll H (fP vs lo hi) (cV ds lo hi):=by
 unfold fP cV
 rw [h.length]
 exact (h.drop _).take _
noncomputable abbrev gw:=List Sl->Tr (Option Int)
noncomputable def fW:gw:=λ_=>.ret none
noncomputable def eQ (i:zS):gw:=λρ=>(i ρ).bind λx=>match x with
 | .int n=>.ret (some n)
 | _=>.fail
noncomputable def TAp (PK:Pk) (i:gw):TO:=λσ H Q=>∃ pa Ag H₀ m ρ G,Rl PK pa Ag H₀ m σ ρ G H/\(i ρ).ok m λm' x=>∀ G' H',Stp pa G H G' H'->Wd PK pa m' G' H'->Q x H'
theorem PO.imp {e:Option Expr} {t t':TO} (h:PO X e t) (q:∀ σ H Q,t' σ H Q->t σ H Q):PO X e t':=λpins s σ H Q I z=>h pins s σ H Q I (q σ H Q z)
theorem gO:PO X none (TAp PK fW):=ZcE.imp λσ H Q hz0=>by
 obtain ⟨pa,Ag,H₀,m,ρ,G,R,z⟩:=hz0
 exact z G H .refl R.wd
theorem fS (h:PE X e (TAe PK i)):PO X (some e) (TAp PK (eQ i)):=(ZcD h).imp λσ H Q hz0=>by
 obtain ⟨pa,Ag,H₀,m,ρ,G,R,z⟩:=hz0
 refine TAe.then R z λm1 x v G1 H1 s1 w1 R1 d1 q1=>?_
 cases d1 with
 | int n=>exact ⟨n,rfl,q1 G1 H1 s1 w1⟩
 | _=>exact q1.elim
theorem ZnD {prog:Program} {w:World} {A:Around} {E:z0} {s:Shared} {t sl:Addr} {items:Array Value} {vl vu:Value} {lo hi:Option Int} {Q:z0} (ht:IsTup s.heap t items) (hs:s.heap.IsSliceOf sl vl vu .none) (pl:IsPart vl lo) (pu:IsPart vu hi)
  (hw:HT.aU items.size 0 lo=0/\HT.aU items.size items.size hi=items.size) (h:Q (.ref t) s):wpAny (model prog w) A (getItem (.ref t) (.ref sl)) Q E s:=by
 obtain ⟨os,hos,hcs,hds⟩:=id hs
 have hTs:s.TypeIs (.ref sl) "slice":=⟨os,hos,hcs⟩
 unfold getItem
 try with_reducible refine wpAny_holding ?_
 first | refine wpAny_bind (wpAny_pure ?_) | skip
 refine wpAny_bind (wpAny_sequenceKey ht.typeIs (by decide) ?_)
 refine wpAny_bind (wpAny_callSpecial?_slot (name:=Str.ofString "__getitem__") ht.typeIs xI
  (wpAny_call_entry xI ht.typeIs entry_tuple_getitem ?_ (args_tuple_getitem _ _)))
 show wpAny _ _ (Builtin.Tuple.tupleItemsOf (.ref t) >>= _) _ _ s
 refine wpAny_bind (tupleItemsOf_ ht ?_)
 refine wpAny_bind (wpAny_typeOf hTs ?_)
 rw [if_pos (by decide)]
 refine wpAny_bind (HT.ZaY hs pl pu ?_)
 have hyes:(((HT.aU items.size 0 lo:Nat):Int) == 0 && (1:Int) == 1 && (HT.aU items.size items.size hi - HT.aU items.size 0 lo) == items.size)=true:=by
  rw [hw.1,hw.2]
  simp
 show wpAny _ _ (if (((HT.aU items.size 0 lo:Nat):Int) == 0 && (1:Int) == 1 && (HT.aU items.size items.size hi - HT.aU items.size 0 lo) == items.size)=true then _ else _) _ _ s
 rw [if_pos hyes]
 refine wpAny_bind (m:=Builtin.Tuple.tupleIsExact (.ref t)) ?_
 unfold Builtin.Tuple.tupleIsExact
 refine wpAny_bind (wpAny_typeOf ht.typeIs ?_)
 refine wpAny_pure ?_
 rw [if_pos (by decide)]
 refine wpAny_bind (wpAny_rule ?_)
 exact wpAny_pure ⟨_,rfl,wpAny_pure h⟩
noncomputable def Zce (K:zR):V->Option Int->Option Int->Hp->VK->Prop:=λx lo hi H Q=>∃ a xs,x=.ref a/\SqT K H a xs/\(HT.aU xs.length 0 lo=0/\HT.aU xs.length xs.length hi=xs.length)/\Q (.ref a) H
theorem Zj8:SlR X (Zce X.K):=by
 intro pins s σ H x v vl vu lo hi sl Q I rx hs pl pu h
 obtain ⟨a,xs,rfl,hx,hw,q⟩:=h
 cases rx
 obtain ⟨its,r,ht,hz⟩:=I.tuple hx
 have hlen:its.toArray.size=xs.length:=by rw [wa]; exact r.length.symm
 refine ⟨"tuple",_,PyProof.Rows.slot_tuple_getitem.lookup,ht.typeIs,?_⟩
 exact ZnD ht hs pl pu (by rw [hlen]; exact hw) ⟨.ref a,H,I,rfl,q⟩
noncomputable def Zk3 (K:zR):V->Option Int->Option Int->Hp->VK->Prop:=λx lo hi H Q=>Zcg K x lo hi H Q\/Zcf K x lo hi H Q\/Zce K x lo hi H Q
theorem Zka:SlR X (Zk3 X.K):=ZaZ.or (Zj9.or Zj8)
noncomputable def ZaX (x:PyData) (lo hi:Option Int):Option PyData:=match x with
 | .list xs=>some (.list (cV xs lo hi))
 | .tuple xs=>some (.tuple (cV xs lo hi))
 | _=>none
noncomputable def fw (i:zS) (p q:gw):zS:=λρ=>(i ρ).bind λx=>(p ρ).bind λlo=>(q ρ).bind λhi=>Tr.of (ZaX x lo hi)
theorem TAp.then {p:gw} {σ:St} {H:Hp} {β:Type} {k:Option Int->Tr β} {Z:Nat->β->Prop} {Q:Option Int->Hp->Prop} {pa:Addr} {Ag H₀ G:Hp} {m:Nat} {ρ:Af} (R:Rl PK pa Ag H₀ m σ ρ G H) (h:((p ρ).bind k).ok m Z)
  (hq:∀ m1 x G1 H1,Stp pa G H G1 H1->Wd PK pa m1 G1 H1->Rl PK pa Ag H₀ m1 σ ρ G1 H1->(k x).ok m1 Z->Q x H1):TAp PK p σ H Q:=by
 refine ⟨pa,Ag,H₀,m,ρ,G,R,Tr.ok_mono (Tr.ok_bind.mp h) λm1 x hx G1 H1 s1 w1=>?_⟩
 exact hq m1 x G1 H1 s1 w1 (R.step s1 w1) hx
theorem gv {p q:gw} {lo hi:Option Expr} {p2:Pos} (he:PE X e (TAe PK i)) (hl:PO X lo (TAp PK p)) (hu:PO X hi (TAp PK q)):PE X (.Subscript e (.Slice lo hi none p2) pos) (TAe PK (fw i p q)):=(ZcM Zka he hl hu).imp λσ H Q hz0=>by
 obtain ⟨pa,Ag,H₀,m,ρ,G,R,z⟩:=hz0
 refine TAe.then R z λm1 x v G1 H1 s1 w1 R1 d1 q1=>?_
 refine TAp.then R1 q1 λm2 lo G2 H2 s2 w2 R2 q2=>?_
 refine TAp.then R2 q2 λm3 hi G3 H3 s3 w3 R3 q3=>?_
 obtain ⟨d,hd,k⟩:=Tr.ok_of q3
 have s13:=(s1.trans s2 w1.some).trans s3 w2.some
 have k':=Kn.later k s13 w3.some
 have d3:=d1.mono (s2.gs.trans s3.gs)
 cases d3 with
 | lst a1 a2=>cases hd; exact .inl ⟨_,_,rfl,SqL.of (w3.sub _ _ a1),λp hp=>k'.lst w3 (a2.cut lo hi) hp⟩
 | @tup a xs ds a1 a2 =>
  cases hd
  by_cases hw:HT.aU xs.length 0 lo=0/\HT.aU xs.length xs.length hi=xs.length
  ·refine .inr (.inr ⟨_,_,rfl,SqT.of (w3.sub _ _ a1),hw,k'.here w3 ?_⟩)
   have e:cV ds lo hi=ds:=by
    unfold cV
    rw [<- a2.length,hw.1,hw.2]
    simp
    rw [a2.length]
    exact zm
   rw [e]
   exact .tup a1 a2
  ·exact .inr (.inl ⟨_,_,rfl,SqT.of (w3.sub _ _ a1),hw,λp hp=>k'.tup w3 (a2.cut lo hi) hp⟩)
 | _=>cases hd
theorem DnAll.range {H:Hp} (lo:Int) (n:Nat):DnAll H (gb lo n) ((aI lo n).map PyData.int):=by
 rw [Zk1]
 exact DnAll.ints _
noncomputable def l7 (lo hi:Int):Bool:=gk lo && gk hi && decide ((hi - lo).toNat<=1000)
noncomputable def l6:List PyData->Option z9
 | [.int lo,.int hi]=>if l7 lo hi=true then some (aL lo hi) else none
 | _=>none
theorem ZkO {G:Hp} {vs:Ad} {xs ys:z9} (d:DnAll G vs xs) (h:l6 xs=some ys):∃ k n:Int,vs=[.int k,.int n]/\(-(2 ^ 62)<=k/\k < 2 ^ 62/\-(2 ^ 62)<=n/\n < 2 ^ 62/\(n - k).toNat<=1000)/\ys=aL k n:=by
 unfold l6 at h
 split at h
 ·split at h
  ·rename_i hn
   cases h
   cases d with
   | cons d1 d2 =>
    cases d2 with
    | cons d2 d3 =>
     cases d3
     cases d1
     cases d2
     unfold l7 at hn
     rw [wl,wl] at hn
     have h1:=of_decide_eq_true hn.1.1
     have h2:=of_decide_eq_true hn.1.2
     exact ⟨_,_,rfl,⟨h1.1,h1.2,h2.1,h2.2,of_decide_eq_true hn.2⟩,rfl⟩
  ·cases h
 ·cases h
def Zju (t:TA):TE:=f7 (λxs H Q=>∃ a lo hi,xs=[.ref a]/\H a=some (.rng lo hi)/\-(2 ^ 62)<=lo/\lo < 2 ^ 62/\-(2 ^ 62)<=hi/\hi < 2 ^ 62/\(hi - lo).toNat<=1000/\∀ p,H p=none->Q (.ref p) (upd H p (.tup (gb lo (hi - lo).toNat))))
 (fB (f7 (λxs H Q=>∃ i j:Int,xs=[.int i,.int j]/\∀ p,H p=none->Q (.ref p) (upd H p (.rng i j))) t) aY)
noncomputable def vF (is:zT):zS:=λρ=>(is ρ).bind λxs=>(Tr.of (l6 xs)).bind λys=>.ret (.tuple ys)
theorem ZqB (h:PE X e (Zju (TAd PK is))):PE X e (TAe PK (vF is)):=h.imp λσ H Q hz0=>by
 obtain ⟨pa,Ag,H₀,m,ρ,G,R,z⟩:=hz0
 refine TAd.then R z λm1 xs vs G1 H1 s1 w1 R1 d1 q1=>?_
 rw [Tr.ok_bind] at q1
 obtain ⟨ys,hy,k⟩:=Tr.ok_of q1
 obtain ⟨lo,hi,rfl,⟨b1,b2,b3,b4,b5⟩,rfl⟩:=ZkO d1 hy
 refine ⟨lo,hi,rfl,λp hp=>?_⟩
 obtain ⟨w2,s2⟩:=w1.own (o:=.rng lo hi) hp
 refine ⟨p,lo,hi,rfl,cA,b1,b2,b3,b4,b5,λq hq=>?_⟩
 exact (Kn.later k (s1.trans s2 w1.some) w2.some).tup w2 (DnAll.range _ _) hq
noncomputable def ints?:List PyData->Option Aa
 | []=>some []
 | .int n::xs=>(ints? xs).bind λns=>some (n::ns)
 | _=>none
@[simp] theorem ints?_map:∀ ns:Aa,ints? (ns.map PyData.int)=some ns
 | []=>rfl
 | n::ns=>by rw [v9,ints?,ints?_map ns]; rfl
theorem DnAll.ints_inv {H:Hp} {vs:Ad} {ds:z9} {ns:Aa} (a:DnAll H vs ds) (h:ints? ds=some ns):vs=ns.map V.int/\ds=ns.map PyData.int:=by
 induction vs generalizing ds ns with
 | nil=>cases a; cases h; exact ⟨rfl,rfl⟩
 | cons v vs ih =>
  cases a with
  | cons g t =>
   cases g with
   | int n =>
    unfold ints? at h
    rename_i ds
    cases e:ints? ds with
    | none=>rw [e] at h; cases h
    | some ms =>
     rw [e] at h
     cases h
     obtain ⟨h1,h2⟩:=ih t e
     exact ⟨by rw [h1]; rfl,by rw [h2]; rfl⟩
   | _=>unfold ints? at h; cases h
end L2
set_option Elab.async false
set_option linter.all false
set_option maxRecDepth 100000
namespace L2
section
variable {prog:Program} {w:World} {A:Around} {E:z0} {s:Shared}
def ItAt (b:Bool) (h:Heap) (it a:Addr) (k:Nat):Prop:=match b with
 | true=>h.IsListIter it a k
 | false=>h.IsTupleIter it a k
def SqAt (b:Bool) (h:Heap) (a:Addr) (items:Array Value):Prop:=match b with
 | true=>h.IsList a items
 | false=>h.IsTuple a items
theorem ItAt.at {b:Bool} {h h':Heap} {it a:Addr} {k:Nat} (x:ItAt b h it a k) (e:∀ o,h.get? it=some o->h'.get? it=some o):ItAt b h' it a k:=by
 cases b with
 | true=>exact Heap.IsListIter.at x e
 | false=>obtain ⟨o,ho,r⟩:=(show h.IsTupleIter it a k from x); exact ⟨o,e o ho,r⟩
theorem SqAt.at {b:Bool} {h h':Heap} {a:Addr} {items:Array Value} (x:SqAt b h a items) (e:∀ o,h.get? a=some o->h'.get? a=some o):SqAt b h' a items:=by
 cases b with
 | true=>exact Heap.IsList.at x e
 | false=>exact Heap.IsTuple.at x e
theorem ItAt.there {b:Bool} {h:Heap} {it a:Addr} {k:Nat} (x:ItAt b h it a k):∃ o,h.get? it=some o/\∀ v,o.data≠.cell v:=by
 cases b with
 | true=>obtain ⟨o,ho,_,hd⟩:=(show h.IsListIter it a k from x); exact ⟨o,ho,λv z=>by rw [hd] at z; cases z⟩
 | false=>obtain ⟨o,ho,_,hd⟩:=(show h.IsTupleIter it a k from x); exact ⟨o,ho,λv z=>by rw [hd] at z; cases z⟩
theorem Zmp {it l:Addr} {i:Nat} {items:Array Value} {x:Value} {Q:z0} (hit:s.heap.IsTupleIter it l i) (hl:s.heap.IsTuple l items) (hx:items[i]?=some x)
  (hQ:∀ h',h'.IsTupleIter it l (i+1)->Heap.SameBut it s.heap h'->Q x { s with heap:=h' }):wpAny (model prog w) A (Builtin.SmallTypes.nextOf (.ref it)) Q E s:=by
 obtain ⟨o,ho,hc,hd⟩:=id hit; obtain ⟨ol,hol,_,nl,hdl⟩:=hl
 unfold Builtin.SmallTypes.nextOf
 refine wpAny_bind (wpAny_callSpecial?_slot (name:=Str.ofString "__next__") hit.typeIs x8 (wpAny_call_entry x8 hit.typeIs F.entry_tuple_iterator_next ?_ (F.args_tuple_iterator_next_1 _)))
 show wpAny _ _ (field (.ref it) 0 >>= _) _ _ s; refine wpAny_bind (wpAny_field ho hd (x:=.ref l) rfl ?_)
 show wpAny _ _ (if (Value.ref l == Value.none)=true then _ else _) _ _ s; rw [if_neg (show ¬ ((Value.ref l == Value.none)=true) from wj)]
 show wpAny _ _ (field (.ref it) 1 >>= _) _ _ s; refine wpAny_bind (wpAny_field ho hd (x:=.int i 0) rfl ?_)
 show wpAny _ _ (seqItems? (.ref l) >>= _) _ _ s; refine wpAny_bind (wpAny_seqItems hol hdl ?_); simp only [wD,hx]
 refine wpAny_bind (wpAny_setField ho hd (by simp) (wpAny_pure ⟨x,rfl,wpAny_pure (hQ _ ⟨_,xL _ ho (za (xV hd _)),(Obj.cls_mapFields ..).trans hc,?_⟩ (yb ..))⟩))
 rw [xV hd]; simp [rawInt]
theorem Zmq {it l:Addr} {i:Nat} {items:Array Value} {Q:z0} (hh:A.handled=none) (hit:s.heap.IsTupleIter it l i) (hl:s.heap.IsTuple l items) (hx:items[i]?=none)
  (hE:∀ h' e,Heap.ExtBut it s.heap h'->(∃ o,h'.get? e=some o/\o.cls=.type "StopIteration")->E (.ref e) { s with heap:=h' }):wpAny (model prog w) A (Builtin.SmallTypes.nextOf (.ref it)) Q E s:=by
 obtain ⟨o,ho,hc,hd⟩:=id hit; obtain ⟨ol,hol,_,nl,hdl⟩:=hl
 unfold Builtin.SmallTypes.nextOf
 refine wpAny_bind (wpAny_callSpecial?_slot (name:=Str.ofString "__next__") hit.typeIs x8 (wpAny_call_entry x8 hit.typeIs F.entry_tuple_iterator_next ?_ (F.args_tuple_iterator_next_1 _)))
 show wpAny _ _ (field (.ref it) 0 >>= _) _ _ s; refine wpAny_bind (wpAny_field ho hd (x:=.ref l) rfl ?_)
 show wpAny _ _ (if (Value.ref l == Value.none)=true then _ else _) _ _ s; rw [if_neg (show ¬ ((Value.ref l == Value.none)=true) from wj)]
 show wpAny _ _ (field (.ref it) 1 >>= _) _ _ s; refine wpAny_bind (wpAny_field ho hd (x:=.int i 0) rfl ?_)
 show wpAny _ _ (seqItems? (.ref l) >>= _) _ _ s; refine wpAny_bind (wpAny_seqItems hol hdl ?_); simp only [wD,hx]
 refine wpAny_bind (wpAny_rule (wpAny_bind (wpAny_setField ho hd (by simp) ?_))); show wpAny _ _ (newExc (.type "StopIteration") [] >>= _) _ _ _
 refine wpAny_bind ?_; simp only [newExc,newTuple]; refine wpAny_bind (wpAny_newObj_type ?_ (by size_fits))
 refine wpAny_bind (m:=firstArgMember _ _) (wpAny_of_eq (a:=Value.none) (by first | rfl | (simp only [firstArgMember]; rfl)) ?_); refine wpAny_newObj_type ?_ (by size_fits); simp only [raiseNew]
 refine wpAny_bind (wpAny_handled ?_); first | rw [show A.in1.handled=none from hh] | rw [hh]
 refine wpAny_bind (wpAny_pure (wpAny_throw (hE _ _ (((yb ..).extBut.push _).push _) ⟨_,v7 _ rfl,rfl⟩)))
theorem oS {b:Bool} {it l:Addr} {i:Nat} {items:Array Value} {x:Value} {Q:z0} (hit:ItAt b s.heap it l i) (hl:SqAt b s.heap l items) (hx:items[i]?=some x)
  (hQ:∀ h',ItAt b h' it l (i+1)->Heap.SameBut it s.heap h'->Q x { s with heap:=h' }):wpAny (model prog w) A (Builtin.SmallTypes.nextOf (.ref it)) Q E s:=by
 cases b with
 | true=>exact wpAny_nextOf_list_item hit hl hx hQ
 | false=>exact Zmp hit hl hx hQ
theorem tK {b:Bool} {it l:Addr} {i:Nat} {items:Array Value} {Q:z0} (hh:A.handled=none) (hit:ItAt b s.heap it l i) (hl:SqAt b s.heap l items) (hx:items[i]?=none)
  (hE:∀ h' e,Heap.ExtBut it s.heap h'->(∃ o,h'.get? e=some o/\o.cls=.type "StopIteration")->E (.ref e) { s with heap:=h' }):wpAny (model prog w) A (Builtin.SmallTypes.nextOf (.ref it)) Q E s:=by
 cases b with
 | true=>exact wpAny_nextOf_list_end hh hit hl hx hE
 | false=>exact Zmq hh hit hl hx hE
theorem ItAt.bt {b:Bool} {h h':Heap} {it a c:Addr} {k:Nat} (x:ItAt b h it a k) (e:Heap.ExtBut c h h') (n:it≠c):ItAt b h' it a k:=x.at λo q=>e it o n q
theorem SqAt.bt {b:Bool} {h h':Heap} {a c:Addr} {items:Array Value} (x:SqAt b h a items) (e:Heap.ExtBut c h h') (n:a≠c):SqAt b h' a items:=x.at λo q=>e a o n q
theorem ZiT {b1 b2:Bool} {z TI TO i1 i2 l1 l2:Addr} {k1 k2:Nat} {xs ys:Array Value} {x y a b:Value} {Q:z0} (D:ZipApart z TI TO i1 i2 l1 l2)
  (hz:IsZip s.heap z TI TO .none) (hTI:IsPair s.heap TI (.ref i1) (.ref i2)) (hTO:IsPair s.heap TO a b) (h1:ItAt b1 s.heap i1 l1 k1) (h2:ItAt b2 s.heap i2 l2 k2) (hl1:SqAt b1 s.heap l1 xs) (hl2:SqAt b2 s.heap l2 ys) (hx:xs[k1]?=some x) (hy:ys[k2]?=some y)
  (hQ:∀ h',IsZip h' z TI TO (rawInt s.heap.objs.size)->IsPair h' TO x y->ItAt b1 h' i1 l1 (k1+1)->ItAt b2 h' i2 l2 (k2+1)->IsPair h' s.heap.objs.size x y ->
   (∀ c o,c≠z->c≠TO->c≠i1->c≠i2->s.heap.get? c=some o->h'.get? c=some o)->Q (.ref s.heap.objs.size) { s with heap:=h' }) :
  wpAny (model prog w) A (Builtin.«zip.__next__» ⟨[.ref z],[]⟩) (λfin s'=>∃ v,fin=.done (.ret v)/\Q v s') E s:=by
 show wpAny _ _ (field (.ref z) 2 >>= _) _ _ _; refine wpAny_bind (wpAny_field hz rfl (x:=.bool false) rfl ?_)
 show wpAny _ _ (field (.ref z) 3 >>= _) _ _ _; refine wpAny_bind (wpAny_field hz rfl (x:=.ref TI) rfl ?_); refine wpAny_bind (wpAny_seqItems hTI rfl ?_)
 show wpAny _ _ (Builtin.SmallTypes.ownedTupleIsFree (.ref z) >>= _) _ _ _; refine wpAny_bind ?_; unfold Builtin.SmallTypes.ownedTupleIsFree
 refine wpAny_bind (wpAny_field hz rfl (x:=.none) rfl (wpAny_pure ?_)); simp only [if_true]; refine wpAny_bind (wpAny_rule ?_); refine wpAny_bind (wpAny_field hz rfl (x:=.ref TO) rfl ?_)
 refine wpAny_bind (wpAny_setField_rec hz (by simp) λg1 hz1 e1=>?_); replace hz1:IsZip g1 z TI TO .ellipsis:=hz1
 refine wpAny_bind ?_; simp only [List.zipIdx_cons,List.zipIdx_nil,yV,zJ]; refine wpAny_bind (wpAny_bind (wpAny_onRaise ?_))
 show wpAny _ _ (Builtin.SmallTypes.nextOf (.ref i1) >>= _) _ _ _; refine wpAny_bind (oS (h1.bt e1.extBut D.i1z) (hl1.bt e1.extBut D.l1z) hx λg2 t1 e2=>wpAny_pure ?_)
 have p2:IsPair g2 TO a b:=e2.extBut _ _ D.TOi1 (e1.extBut _ _ D.TOz hTO)
 refine wpAny_bind (wpAny_seqItems p2 rfl ?_); refine wpAny_bind (wpAny_updateSeq_pair p2 λg3 p3 e3=>?_); replace p3:IsPair g3 TO x b:=p3
 refine wpAny_bind (wpAny_letGo (wpAny_pure ?_)); refine wpAny_bind (wpAny_bind (wpAny_onRaise ?_))
 show wpAny _ _ (Builtin.SmallTypes.nextOf (.ref i2) >>= _) _ _ _
 refine wpAny_bind (oS (((h2.bt e1.extBut D.i2z).bt e2.extBut D.i12.symm).bt e3.extBut D.TOi2.symm) (((hl2.bt e1.extBut D.l2z).bt e2.extBut D.l2i1).bt e3.extBut D.l2TO) hy λg4 t2 e4=>wpAny_pure ?_)
 have p4:IsPair g4 TO x b:=e4.extBut _ _ D.TOi2 p3
 refine wpAny_bind (wpAny_seqItems p4 rfl ?_); refine wpAny_bind (wpAny_updateSeq_pair p4 λg5 p5 e5=>?_); replace p5:IsPair g5 TO x y:=p5
 refine wpAny_bind (wpAny_letGo (wpAny_pure (wpAny_pure ?_))); refine wpAny_bind (wpAny_seqItems p5 rfl ?_); refine wpAny_bind (wpAny_newTuple ?_)
 have hsz:g5.objs.size=s.heap.objs.size:=by rw [e5.1,e4.1,e3.1,e2.1,e1.1]
 have z5:IsZip g5 z TI TO .ellipsis:=e5.extBut _ _ D.TOz.symm (e4.extBut _ _ D.i2z.symm (e3.extBut _ _ D.TOz.symm (e2.extBut _ _ D.i1z.symm hz1)))
 have k5:∀ c o,c≠z->c≠TO->c≠i1->c≠i2->s.heap.get? c=some o->g5.get? c=some o:=λc o c1 c2 c3 c4 q=>e5.extBut _ _ c2 (e4.extBut _ _ c4 (e3.extBut _ _ c2 (e2.extBut _ _ c3 (e1.extBut _ _ c1 q))))
 have u1:ItAt b1 g5 i1 l1 (k1+1):=((t1.bt e3.extBut D.TOi1.symm).bt e4.extBut D.i12).bt e5.extBut D.TOi1.symm
 have u2:ItAt b2 g5 i2 l2 (k2+1):=t2.bt e5.extBut D.TOi2.symm
 have zlt:z < g5.objs.size:=wk z5
 show wpAny _ _ (Builtin.SmallTypes.ownedTupleHandOut (.ref z) (.ref g5.objs.size) >>= _) _ _ _; refine wpAny_bind ?_; unfold Builtin.SmallTypes.ownedTupleHandOut
 have z6:IsZip (g5.push { cls:=.type "tuple",data:=.seq #[x,y] }) z TI TO .ellipsis:=vY _ z5
 refine wpAny_bind (wpAny_setField_rec z6 (by simp) λg7 z7 e7=>?_); replace z7:IsZip g7 z TI TO (rawInt g5.objs.size):=z7
 refine wpAny_setField_rec z7 (by simp) λg8 z8 e8=>?_; replace z8:IsZip g8 z TI TO (rawInt g5.objs.size):=z8
 have up:∀ c o,c≠z->g5.get? c=some o->g8.get? c=some o:=λc o c1 q=>e8.extBut _ _ c1 (e7.extBut _ _ c1 (vY _ q))
 have t8:IsPair g8 g5.objs.size x y:=e8.extBut _ _ (wZ zlt) (e7.extBut _ _ (wZ zlt) (v7 _ rfl))
 rw [hsz] at z8 t8
 refine wpAny_pure ⟨_,rfl,?_⟩; show Q (.ref g5.objs.size) _; rw [hsz]
 exact hQ g8 z8 (up _ _ D.TOz p5) (u1.at λo q=>up _ o D.i1z q) (u2.at λo q=>up _ o D.i2z q) t8 λc o c1 c2 c3 c4 q=>up c o c1 (k5 c o c1 c2 c3 c4 q)
theorem ZiU {b1 b2:Bool} {z TI TO i1 i2 l1 l2:Addr} {k1 k2:Nat} {xs ys:Array Value} {a b:Value} {Q:Fin->Shared->Prop} (hh:A.handled=none) (D:ZipApart z TI TO i1 i2 l1 l2)
  (hz:IsZip s.heap z TI TO .none) (hTI:IsPair s.heap TI (.ref i1) (.ref i2)) (hTO:IsPair s.heap TO a b) (h1:ItAt b1 s.heap i1 l1 k1) (h2:ItAt b2 s.heap i2 l2 k2) (hl1:SqAt b1 s.heap l1 xs) (hl2:SqAt b2 s.heap l2 ys) (hend:xs[k1]?=none\/ys[k2]?=none)
  (hE:∀ h' e,(∀ c o,c≠z->c≠TO->c≠i1->c≠i2->s.heap.get? c=some o->h'.get? c=some o)->(∃ o,h'.get? e=some o/\o.cls=.type "StopIteration")->E (.ref e) { s with heap:=h' }) :
  wpAny (model prog w) A (Builtin.«zip.__next__» ⟨[.ref z],[]⟩) Q E s:=by
 show wpAny _ _ (field (.ref z) 2 >>= _) _ _ _; refine wpAny_bind (wpAny_field hz rfl (x:=.bool false) rfl ?_)
 show wpAny _ _ (field (.ref z) 3 >>= _) _ _ _; refine wpAny_bind (wpAny_field hz rfl (x:=.ref TI) rfl ?_); refine wpAny_bind (wpAny_seqItems hTI rfl ?_)
 show wpAny _ _ (Builtin.SmallTypes.ownedTupleIsFree (.ref z) >>= _) _ _ _; refine wpAny_bind ?_; unfold Builtin.SmallTypes.ownedTupleIsFree
 refine wpAny_bind (wpAny_field hz rfl (x:=.none) rfl (wpAny_pure ?_)); simp only [if_true]; refine wpAny_bind (wpAny_rule ?_); refine wpAny_bind (wpAny_field hz rfl (x:=.ref TO) rfl ?_)
 refine wpAny_bind (wpAny_setField_rec hz (by simp) λg1 hz1 e1=>?_); replace hz1:IsZip g1 z TI TO .ellipsis:=hz1
 refine wpAny_bind ?_; simp only [List.zipIdx_cons,List.zipIdx_nil,yV,zJ]; refine wpAny_bind (wpAny_bind (wpAny_onRaise ?_))
 show wpAny _ _ (Builtin.SmallTypes.nextOf (.ref i1) >>= _) _ _ _
 cases hx:xs[k1]? with
 | none =>
  refine wpAny_bind (tK hh (h1.bt e1.extBut D.i1z) (hl1.bt e1.extBut D.l1z) hx λg2 e e2 he=>?_)
  obtain ⟨oe,hoe,hce⟩:=he
  have z2:IsZip g2 z TI TO .ellipsis:=e2 _ _ D.i1z.symm hz1
  have ne:e≠z:=λq=>by subst q; rw [z2] at hoe; cases hoe; simp at hce
  exact wpAny_setField_rec z2 (by simp) λg3 _ e3=>hE g3 e (λc o c1 _ c3 _ q=>e3.extBut _ _ c1 (e2 _ _ c3 (e1.extBut _ _ c1 q))) ⟨oe,e3.extBut _ _ ne hoe,hce⟩
 | some x =>
  have hy:ys[k2]?=none:=by rcases hend with h | h; rw [hx] at h; cases h; exact h
  refine wpAny_bind (oS (h1.bt e1.extBut D.i1z) (hl1.bt e1.extBut D.l1z) hx λg2 t1 e2=>wpAny_pure ?_)
  have p2:IsPair g2 TO a b:=e2.extBut _ _ D.TOi1 (e1.extBut _ _ D.TOz hTO)
  refine wpAny_bind (wpAny_seqItems p2 rfl ?_); refine wpAny_bind (wpAny_updateSeq_pair p2 λg3 p3 e3=>?_)
  refine wpAny_bind (wpAny_letGo (wpAny_pure ?_)); refine wpAny_bind (wpAny_bind (wpAny_onRaise ?_))
  show wpAny _ _ (Builtin.SmallTypes.nextOf (.ref i2) >>= _) _ _ _
  refine wpAny_bind (tK hh (((h2.bt e1.extBut D.i2z).bt e2.extBut D.i12.symm).bt e3.extBut D.TOi2.symm) (((hl2.bt e1.extBut D.l2z).bt e2.extBut D.l2i1).bt e3.extBut D.l2TO) hy λg4 e e4 he=>?_)
  obtain ⟨oe,hoe,hce⟩:=he
  have z4:IsZip g4 z TI TO .ellipsis:=e4 _ _ D.i2z.symm (e3.extBut _ _ D.TOz.symm (e2.extBut _ _ D.i1z.symm hz1))
  have ne:e≠z:=λq=>by subst q; rw [z4] at hoe; cases hoe; simp at hce
  exact wpAny_setField_rec z4 (by simp) λg5 _ e5=>hE g5 e (λc o c1 c2 c3 c4 q=>e5.extBut _ _ c1 (e4 _ _ c4 (e3.extBut _ _ c2 (e2.extBut _ _ c3 (e1.extBut _ _ c1 q))))) ⟨oe,e5.extBut _ _ ne hoe,hce⟩
noncomputable def eY (b:Bool) (l:Addr):Obj:=match b with
 | true=>{ cls:=.type "list_iterator",data:=.fields #[.ref l,.int 0 0] }
 | false=>{ cls:=.type "tuple_iterator",data:=.fields #[.ref l,.int 0 0] }
theorem hU {b:Bool} {l:Addr} {items:Array Value} {Q:z0} (hl:SqAt b s.heap l items) (hQ:Q (.ref s.heap.objs.size) { s with heap:=s.heap.push (eY b l) }):wpAny (model prog w) A (pyIter (.ref l)) Q E s:=by
 cases b with
 | true=>exact wpAny_pyIter_list hl hQ
 | false=>exact wpAny_pyIter_tuple hl hQ
theorem SqAt.push {b:Bool} {h:Heap} {l:Addr} {items:Array Value} (x:SqAt b h l items) (o:Obj):SqAt b (h.push o) l items:=x.at λ_ q=>vY _ q
theorem j0 {b:Bool} {h:Heap} {it l:Addr} (e:h.get? it=some (eY b l)):ItAt b h it l 0:=by
 cases b with
 | true=>exact ⟨_,e,rfl,rfl⟩
 | false=>exact ⟨_,e,rfl,rfl⟩
noncomputable abbrev zA (b1:Bool) (h:Heap) (l1:Addr):Heap:=h.push (eY b1 l1)
noncomputable abbrev zB (b1 b2:Bool) (h:Heap) (l1 l2:Addr):Heap:=(zA b1 h l1).push (eY b2 l2)
noncomputable abbrev zC (b1 b2:Bool) (h:Heap) (l1 l2:Addr):Heap:=(zB b1 b2 h l1 l2).push { cls:=.type "tuple",data:=.seq #[.ref h.objs.size,.ref (zA b1 h l1).objs.size] }
noncomputable abbrev zD (b1 b2:Bool) (h:Heap) (l1 l2:Addr):Heap:=(zC b1 b2 h l1 l2).push { cls:=.type "tuple",data:=.seq #[.none,.none] }
noncomputable abbrev zH (b1 b2:Bool) (h:Heap) (l1 l2:Addr):Heap:=(zD b1 b2 h l1 l2).push { cls:=.type "zip",data:=.fields #[.none,.bool false,.bool false,.ref (zB b1 b2 h l1 l2).objs.size,.ref (zC b1 b2 h l1 l2).objs.size] }
theorem ZmE (b1 b2:Bool) (l1 l2:Addr) (xs ys:Array Value) :
  Meets (Builtin.«zip.__new__» ⟨[.type "zip",.ref l1,.ref l2],[]⟩) (λ_ R s=>SqAt b1 s.heap l1 xs/\SqAt b2 s.heap l2 ys/\R (.ok (.ret (.ref (zD b1 b2 s.heap l1 l2).objs.size))) { s with heap:=zH b1 b2 s.heap l1 l2 }) :=
 .of_wp λprog w A R s h=>by
  obtain ⟨hp,g,d,tk,os⟩:=s
  obtain ⟨hl1,hl2,h⟩:=h
  have hsub:=sub_zip
  have q1:SqAt b1 (Shared.heap ⟨hp,g,d,tk,os⟩) l1 xs:=hl1
  have q2:SqAt b2 (Shared.heap ⟨hp.push (eY b1 l1),g,d,tk,os⟩) l2 ys:=hl2.push _
  wp_walk using hU q1,hU q2
  exact ⟨_,rfl,h⟩
theorem ZpA {b1 b2:Bool} {l1 l2:Addr} {xs ys:Array Value} {Q:z0} (hl1:SqAt b1 s.heap l1 xs) (hl2:SqAt b2 s.heap l2 ys)
  (h:∀ h',IsZip h' (s.heap.objs.size+4) (s.heap.objs.size+2) (s.heap.objs.size+3) .none->IsPair h' (s.heap.objs.size+2) (.ref s.heap.objs.size) (.ref (s.heap.objs.size+1))->IsPair h' (s.heap.objs.size+3) .none .none ->
   ItAt b1 h' s.heap.objs.size l1 0->ItAt b2 h' (s.heap.objs.size+1) l2 0->(∀ c o,s.heap.get? c=some o->h'.get? c=some o)->Q (.ref (s.heap.objs.size+4)) { s with heap:=h' }) :
  wpAny (model prog w) A (call (.type "zip") [.ref l1,.ref l2]) Q E s:=by
 refine callType_new F.called_zip (by decide) (F.typeCall_zip_2 _ _) (F.newCall_zip_2 _ _) (λobj=>F.args_object_init_3 obj _ _) F.entry_zip_new (ZmE b1 b2 l1 l2 xs ys) ⟨hl1,hl2,?_⟩
 have n1:(zA b1 s.heap l1).objs.size=s.heap.objs.size+1:=wT ..
 have n2:(zB b1 b2 s.heap l1 l2).objs.size=s.heap.objs.size+2:=(wT ..).trans (by rw [n1])
 have n3:(zC b1 b2 s.heap l1 l2).objs.size=s.heap.objs.size+3:=(wT ..).trans (by rw [n2])
 have n4:(zD b1 b2 s.heap l1 l2).objs.size=s.heap.objs.size+4:=(wT ..).trans (by rw [n3])
 have a5:IsZip (zH b1 b2 s.heap l1 l2) (zD b1 b2 s.heap l1 l2).objs.size (zB b1 b2 s.heap l1 l2).objs.size (zC b1 b2 s.heap l1 l2).objs.size .none:=v7 _ rfl
 have a4:IsPair (zH b1 b2 s.heap l1 l2) (zC b1 b2 s.heap l1 l2).objs.size .none .none:=vY _ (v7 _ rfl)
 have a3:IsPair (zH b1 b2 s.heap l1 l2) (zB b1 b2 s.heap l1 l2).objs.size (.ref s.heap.objs.size) (.ref (zA b1 s.heap l1).objs.size):=vY _ (vY _ (v7 _ rfl))
 have a2:(zH b1 b2 s.heap l1 l2).get? (zA b1 s.heap l1).objs.size=some (eY b2 l2):=vY _ (vY _ (vY _ (v7 _ (by cases b2 <;> rfl))))
 have a1:(zH b1 b2 s.heap l1 l2).get? s.heap.objs.size=some (eY b1 l1):=vY _ (vY _ (vY _ (vY _ (v7 _ (by cases b1 <;> rfl)))))
 rw [n2,n3,n4] at a5
 rw [n3] at a4
 rw [n1,n2] at a3
 rw [n1] at a2
 show _/\_
 rw [n4]
 exact ⟨⟨_,a5,rfl⟩,h _ a5 a3 a4 (j0 a1) (j0 a2) λc o x=>vY _ (vY _ (vY _ (vY _ (vY _ x))))⟩
theorem Zk4 {b1 b2:Bool} {z TI TO i1 i2 l1 l2:Addr} {k1 k2:Nat} {xs ys:Array Value} {x y a b:Value} {Q:Option Value->Shared->Prop} (D:ZipApart z TI TO i1 i2 l1 l2)
  (hz:IsZip s.heap z TI TO .none) (hTI:IsPair s.heap TI (.ref i1) (.ref i2)) (hTO:IsPair s.heap TO a b) (h1:ItAt b1 s.heap i1 l1 k1) (h2:ItAt b2 s.heap i2 l2 k2) (hl1:SqAt b1 s.heap l1 xs) (hl2:SqAt b2 s.heap l2 ys) (hx:xs[k1]?=some x) (hy:ys[k2]?=some y)
  (hQ:∀ h',IsZip h' z TI TO (rawInt s.heap.objs.size)->IsPair h' TO x y->ItAt b1 h' i1 l1 (k1+1)->ItAt b2 h' i2 l2 (k2+1)->IsPair h' s.heap.objs.size x y ->
   (∀ c o,c≠z->c≠TO->c≠i1->c≠i2->s.heap.get? c=some o->h'.get? c=some o)->Q (some (.ref s.heap.objs.size)) { s with heap:=h' }):wpAny (model prog w) A (pyNext (.ref z)) Q E s:=by
 have hT:s.TypeIs (.ref z) "zip":=⟨_,hz,rfl⟩
 unfold pyNext
 exact wpAny_bind (wpAny_attempt (wpAny_callSpecial?_slot (name:=Str.ofString "__next__") hT zd (wpAny_call_entry zd hT F.entry_zip_next (ZiT D hz hTI hTO h1 h2 hl1 hl2 hx hy λh' a1 a2 a3 a4 a5 a6=>wpAny_pure (hQ h' a1 a2 a3 a4 a5 a6)) (F.args_zip_next_1 _))))
theorem Zk5 {b1 b2:Bool} {z TI TO i1 i2 l1 l2:Addr} {k1 k2:Nat} {xs ys:Array Value} {a b:Value} {Q:Option Value->Shared->Prop} (hh:A.handled=none) (D:ZipApart z TI TO i1 i2 l1 l2)
  (hz:IsZip s.heap z TI TO .none) (hTI:IsPair s.heap TI (.ref i1) (.ref i2)) (hTO:IsPair s.heap TO a b) (h1:ItAt b1 s.heap i1 l1 k1) (h2:ItAt b2 s.heap i2 l2 k2) (hl1:SqAt b1 s.heap l1 xs) (hl2:SqAt b2 s.heap l2 ys) (hend:xs[k1]?=none\/ys[k2]?=none)
  (hQ:∀ h',(∀ c o,c≠z->c≠TO->c≠i1->c≠i2->s.heap.get? c=some o->h'.get? c=some o)->Q none { s with heap:=h' }):wpAny (model prog w) A (pyNext (.ref z)) Q E s:=by
 have hT:s.TypeIs (.ref z) "zip":=⟨_,hz,rfl⟩
 unfold pyNext
 refine wpAny_bind (wpAny_attempt (wpAny_callSpecial?_slot (name:=Str.ofString "__next__") hT zd (wpAny_call_entry zd hT F.entry_zip_next (ZiU hh D hz hTI hTO h1 h2 hl1 hl2 hend λh' e hk he=>?_) (F.args_zip_next_1 _))))
 obtain ⟨o,ho,hc⟩:=he
 exact wpAny_bind (wpAny_isInstance (T:="StopIteration") (b:=true) ⟨o,ho,hc⟩ isSubtype_stop (wpAny_pure (hQ _ hk)))
end
section
variable {X:Cx} {pins:List (Addr×Obj)} {σ:St} {H:Hp} {s:Shared} {h':Heap}
theorem Inv.turns {t':Nat} {ch:List Addr} (I:Inv X pins σ H s) (k:∀ b o,b ∉ ch->s.heap.get? b=some o->h'.get? b=some o) (hf:∀ b∈ch,gx X pins H b):Inv X pins σ H { s with heap:=h',toks:=t' }:=by
 have nit:∀ b u,H b=some u->b ∉ ch:=λb u e z=>by rw [(hf b z).1] at e; cases e
 refine I.step (g':=s.gens) (d':=s.drawn) (ch:=ch) (λb hb=>?_) (λb o _ _ hc e _=>k b o hc e) (λb o _ _ hc e _=>⟨o.slots,k b o hc e⟩) (λ_ _ _ _ n=>n)
  (λb o hc e=>⟨o,k b o hc e⟩) (λ_ _ e=>e) (λ_ _ _ e=>e) (λb ps e=>⟨#[],by rw [e]; simp⟩) (λm hm=>?_) (λb u e=>?_) I.bare
 ·obtain ⟨_,f1,_,f3,f4,f5⟩:=hf b hb
  exact ⟨f3,f1,f4,f5⟩
 ·obtain ⟨o,es,ep,ho,r⟩:=hm
  exact ⟨o,es,ep,k _ o (λz=>(hf _ z).2.1 rfl) ho,r⟩
 ·refine (I.hok b u e).stay (λc v hc q=>k c v ?_ q) (λ_ q=>q) λ_ _ q=>q
  rcases hc with z | z
  ·rw [z]; exact nit b u e
  ·exact nit c _ z
theorem Inv.pair {T:Addr} {x y:V} {u v:Value} (I:Inv X pins σ H s) (hT:H T=none) (ho:IsPair s.heap T u v) (r1:RelV x u) (r2:RelV y v)
  (hL:T≠X.env.locals) (hs0:X.s₀.heap.objs.size<=T) (hc:∀ x c,X.env.cells.lookup x=some c->c≠T) (hp:∀ p∈X.pn++pins,p.1≠T):Inv X pins σ (upd H T (.tup [x,y])) s:=by
 have ne:∀ {b:Addr} {o:HO},H b=some o->b≠T:=λe=>dh e hT
 refine I.step (g':=s.gens) (d':=s.drawn) (t':=s.toks) (h':=s.heap) (ch:=[T]) (λb hb=>?_) (λb o _ _ _ e _=>e) (λb o _ _ _ e _=>⟨o.slots,e⟩) (λb o hb e n=>?_) (λb o _ e=>⟨o,e⟩)
  (λb xs e=>by rw [a9 (ne e)]; exact e) (λb o u e=>by rw [a9 (ne e)]; exact e) (λb ps e=>⟨#[],by rw [a9 (ne e),e]; simp⟩) (λm hm=>hm) (λb u e=>?_) I.bare
 ·have e:b=T:=by simpa using hb
  subst e
  exact ⟨.inr hs0,hL,hc,hp⟩
 ·have hb':b≠T:=by simpa using hb
  rw [a9 hb']
  exact n
 ·by_cases hb:b=T
  ·subst hb
   rw [cA] at e
   cases e
   exact ⟨by show 2<=sizeLine; decide,[_,_],.cons r1 (.cons r2 .nil),⟨_,ho,rfl,_,rfl⟩⟩
  ·rw [a9 hb] at e
   exact (I.hok b u e).stay (λc v _ q=>q) (λc q=>by rw [a9 (ne q)]; exact q) λc xs q=>by rw [a9 (ne q)]; exact q
end
noncomputable def bq (b:Bool) (xs:Ad):HO:=match b with
 | true=>.lst xs
 | false=>.tup xs
theorem dO {P:Program} {w:World} {H:Hp} {h:Heap} (ok:HOk P w H h) {b:Bool} {a:Addr} {xs:Ad} (e:H a=some (bq b xs)):∃ its:Ab,Vals xs its/\SqAt b h a its.toArray:=by
 cases b with
 | true=>obtain ⟨_,its,n,r,q⟩:=ok a _ e; exact ⟨its,r,⟨_,q,rfl,n,rfl⟩⟩
 | false=>obtain ⟨_,its,r,q⟩:=ok a _ e; exact ⟨its,r,q⟩
noncomputable def jw (b1 b2:Bool) (l1 l2:Addr):It :=
 ⟨λi H=>∃ xs ys x y,H l1=some (bq b1 xs)/\H l2=some (bq b2 ys)/\xs[i]?=some x/\ys[i]?=some y,
  λi H v H'=>∃ xs ys x y p,H l1=some (bq b1 xs)/\H l2=some (bq b2 ys)/\xs[i]?=some x/\ys[i]?=some y/\H p=none/\v=.ref p/\H'=upd H p (.tup [x,y]),
  λi H=>∃ xs ys,H l1=some (bq b1 xs)/\H l2=some (bq b2 ys)/\(xs[i]?=none\/ys[i]?=none)⟩
noncomputable def ZSt (b1 b2:Bool) (z TI TO i1 i2 l1 l2:Addr) (i:Nat) (h:Heap):Prop :=
 IsZip h z TI TO .none/\IsPair h TI (.ref i1) (.ref i2)/\(∃ a b,IsPair h TO a b)/\ItAt b1 h i1 l1 i/\ItAt b2 h i2 l2 i
theorem Zja {P:Program} {w:World} {K:zR} {elts:List Expr} {x1:Nat} {pos:Pos} {b1 b2:Bool} {l1 l2:Addr} (z TI TO i1 i2:Addr)
  (d:TI≠z/\TO≠z/\i1≠z/\i2≠z/\TI≠TO/\TI≠i1/\TI≠i2/\TO≠i1/\TO≠i2/\i1≠i2) :
  Turn P w K (.Tuple elts x1 pos) (jw b1 b2 l1 l2) [z,TI,TO,i1,i2] z (ZSt b1 b2 z TI TO i1 i2 l1 l2) where
 mem:=by simp
 obj:=λi h st b hb=>by
  obtain ⟨hz,hTI,⟨a,c,hTO⟩,h1,h2⟩:=st
  simp at hb
  rcases hb with rfl | rfl | rfl | rfl | rfl
  ·exact ⟨_,hz,λv q=>by cases q⟩
  ·exact ⟨_,hTI,λv q=>by cases q⟩
  ·exact ⟨_,hTO,λv q=>by cases q⟩
  ·exact h1.there
  ·exact h2.there
 keep:=λi h h' st k=>by
  obtain ⟨hz,hTI,⟨a,c,hTO⟩,h1,h2⟩:=st
  exact ⟨k _ (by simp) _ hz,k _ (by simp) _ hTI,⟨a,c,k _ (by simp) _ hTO⟩,h1.at λo e=>k _ (by simp) o e,h2.at λo e=>k _ (by simp) o e⟩
 item:=by
  intro X hP hw hK hc i pins s σ H E I hf st hg
  subst hP hw hK
  obtain ⟨xs,ys,x,y,e1,e2,hx,hy⟩:=hg
  obtain ⟨hz,hTI,⟨a,c,hTO⟩,h1,h2⟩:=st
  obtain ⟨us,r1,q1⟩:=dO I.hok e1
  obtain ⟨vs,r2,q2⟩:=dO I.hok e2
  obtain ⟨u,hu,ru⟩:=r1.get hx
  obtain ⟨v,hv,rv⟩:=r2.get hy
  have n1:∀ b∈[z,TI,TO,i1,i2],l1≠b/\l2≠b:=λb hb=>⟨dh e1 (hf b hb).1,dh e2 (hf b hb).1⟩
  obtain ⟨d1,d2,d3,d4,d5,d6,d7,d8,d9,d10⟩:=d
  have D:ZipApart z TI TO i1 i2 l1 l2:=⟨d1,d2,d3,d4,d5,d6,d7,d8,d9,d10,(n1 z (by simp)).1,(n1 TO (by simp)).1,(n1 i1 (by simp)).1,(n1 i2 (by simp)).1,(n1 z (by simp)).2,(n1 TO (by simp)).2,(n1 i1 (by simp)).2,(n1 i2 (by simp)).2⟩
  refine Zk4 D hz hTI hTO h1 h2 q1 q2 (by simpa using hu) (by simpa using hv) λh' z' p' t1 t2 pr kk=>?_
  refine ⟨_,rfl,wpAny_letOwnedTupleGo_zip z' λh2' z2 sb=>?_⟩
  have lt:∀ {b:Addr} {o:Obj},s.heap.get? b=some o->s.heap.objs.size≠b:=λq=>wZ (wk q)
  have zlt:=lt hz
  have I1:Inv X pins σ H { s with heap:=h2' }:=I.turns (ch:=[z,TI,TO,i1,i2]) (t':=s.toks) (λb o hb e=>by
   simp at hb
   exact sb.extBut _ _ hb.1 (kk b o hb.1 hb.2.2.1 hb.2.2.2.1 hb.2.2.2.2 e)) hf
  have hTn:H s.heap.objs.size=none:=I.hok.fresh (v4 _)
  have I2:=I1.pair (T:=s.heap.objs.size) (x:=x) (y:=y) hTn (sb.extBut _ _ zlt pr) ru rv (wZ I.lt) I.sz
   (λq cc e hq=>by obtain ⟨vv,zz⟩:=I.cell q cc e; exact absurd zz.lt (by rw [hq]; exact wF _)) (λp hp hq=>absurd (wk (I.pin p hp).1) (by rw [hq]; exact wF _))
  refine ⟨.ref s.heap.objs.size,_,I2,rfl,⟨xs,ys,x,y,_,e1,e2,hx,hy,hTn,rfl,rfl⟩,⟨z2,sb.extBut _ _ d1 (kk _ _ d1 d5 d6 d7 hTI),⟨u,v,sb.extBut _ _ d2 p'⟩,t1.at λo e=>sb.extBut _ _ d3 e,t2.at λo e=>sb.extBut _ _ d4 e⟩,λb hb=>?_⟩
  have hbn:b≠s.heap.objs.size:=by
   simp at hb
   obtain ⟨o1,g1,_⟩:=h1.there
   obtain ⟨o2,g2,_⟩:=h2.there
   rcases hb with rfl | rfl | rfl | rfl | rfl
   ·exact (lt hz).symm
   ·exact (lt hTI).symm
   ·exact (lt hTO).symm
   ·exact (lt g1).symm
   ·exact (lt g2).symm
  rw [a9 hbn]
  exact (hf b hb).1
 done:=by
  intro X hP hw hK hc i pins s σ H E I hf st hg
  subst hP hw hK
  obtain ⟨xs,ys,e1,e2,hend⟩:=hg
  obtain ⟨hz,hTI,⟨a,c,hTO⟩,h1,h2⟩:=st
  obtain ⟨us,r1,q1⟩:=dO I.hok e1
  obtain ⟨vs,r2,q2⟩:=dO I.hok e2
  have n1:∀ b∈[z,TI,TO,i1,i2],l1≠b/\l2≠b:=λb hb=>⟨dh e1 (hf b hb).1,dh e2 (hf b hb).1⟩
  obtain ⟨d1,d2,d3,d4,d5,d6,d7,d8,d9,d10⟩:=d
  have D:ZipApart z TI TO i1 i2 l1 l2:=⟨d1,d2,d3,d4,d5,d6,d7,d8,d9,d10,(n1 z (by simp)).1,(n1 TO (by simp)).1,(n1 i1 (by simp)).1,(n1 i2 (by simp)).1,(n1 z (by simp)).2,(n1 TO (by simp)).2,(n1 i1 (by simp)).2,(n1 i2 (by simp)).2⟩
  refine Zk5 (I.ok.hd hc) D hz hTI hTO h1 h2 q1 q2 (hend.imp (λq=>by simpa using r1.none_of q) (λq=>by simpa using r2.none_of q)) λh' kk=>⟨rfl,?_⟩
  exact I.turns (ch:=[z,TI,TO,i1,i2]) (t':=s.toks) (λb o hb e=>by
   simp at hb
   exact kk b o hb.1 hb.2.2.1 hb.2.2.2.1 hb.2.2.2.2 e) hf
 self:=λ_ _ _ _ _ st h=>wpAny_pyIter_zip st.1 h
end L2
set_option Elab.async false
set_option linter.all false
set_option maxRecDepth 100000
namespace L2
open AutoSeq1 (wpAny_loadPart')
section
variable {X:Cx} {tg:Expr} {PK:Pk} {a b:Expr} {i j:zS} {p pos:Pos}
def Zd0 (ta tb:TE):TI:=λσ H R=>ta σ H λx H1=>tb σ H1 λy H2=>∃ b1 b2 l1 l2 xs ys,x=.ref l1/\y=.ref l2/\H2 l1=some (bq b1 xs)/\H2 l2=some (bq b2 ys)/\R (jw b1 b2 l1 l2) H2
theorem mn {elts:List Expr} {x1:Nat} {tpos:Pos} {ta tb:TE} (hc:X.calm=true) (hg:Gl X "zip") (hm:X.mg "zip"=none) (ha:PE X a ta) (hb:PE X b tb)
  (hs:starEach [a,b] X.env=[(false,eval a X.env),(false,eval b X.env)]:=by rfl) (hs2:starEach [b] X.env=[(false,eval b X.env)]:=by rfl):PI X (.Tuple elts x1 tpos) (.Call (.Name "zip" p) [a,b] [] pos) (Zd0 ta tb):=by
 intro pins s σ H R I h
 have hab:PA X [a,b] (fB ta (fB tb aY)):=bp ha (bp hb cm (by rw [hs2]; rfl)) (by rw [hs,hs2])
 refine Call_ (jb I hg hm boot_zip (xh (thn (hab pos pins s σ H (λvs H2=>∃ b1 b2 l1 l2 xs ys,vs=[.ref l1,.ref l2]/\H2 l1=some (bq b1 xs)/\H2 l2=some (bq b2 ys)/\R (jw b1 b2 l1 l2) H2) I ?_) λus s1 ⟨vs,H1,I1,r1,q1⟩=>?_) (by rw [hs,hs2]) (by rw [hs2]; rfl)))
 ·refine (show ta σ H _ from ?_)
  have h':ta σ H λx H1=>tb σ H1 λy H2=>∃ b1 b2 l1 l2 xs ys,x=.ref l1/\y=.ref l2/\H2 l1=some (bq b1 xs)/\H2 l2=some (bq b2 ys)/\R (jw b1 b2 l1 l2) H2:=h
  have e:(λ(x:V) (H1:Hp)=>tb σ H1 λy H2=>∃ b1 b2 l1 l2 xs ys,x=.ref l1/\y=.ref l2/\H2 l1=some (bq b1 xs)/\H2 l2=some (bq b2 ys)/\R (jw b1 b2 l1 l2) H2) =
    λx H1=>fB tb aY σ H1 λxs H2=>∃ b1 b2 l1 l2 us ys,x::xs=[.ref l1,.ref l2]/\H2 l1=some (bq b1 us)/\H2 l2=some (bq b2 ys)/\R (jw b1 b2 l1 l2) H2:=by
   funext x H1
   show _=tb σ H1 _
   congr 1
   funext y H2
   show _=(∃ b1 b2 l1 l2 us ys,[x,y]=[.ref l1,.ref l2]/\H2 l1=some (bq b1 us)/\H2 l2=some (bq b2 ys)/\R (jw b1 b2 l1 l2) H2)
   apply propext
   constructor
   ·rintro ⟨b1,b2,l1,l2,xs,ys,rfl,rfl,q⟩; exact ⟨b1,b2,l1,l2,xs,ys,rfl,q⟩
   ·rintro ⟨b1,b2,l1,l2,xs,ys,e,q⟩
    have e1:x=V.ref l1/\y=V.ref l2:=by simpa using e
    exact ⟨b1,b2,l1,l2,xs,ys,e1.1,e1.2,q⟩
  rw [e] at h'
  exact h'
 ·obtain ⟨b1,b2,l1,l2,xs,ys,rfl,e1,e2,q⟩:=q1
  obtain ⟨u1,u2,rfl,r1,r2⟩:=nX r1
  cases r1
  cases r2
  obtain ⟨us,ru,q1⟩:=dO I1.hok e1
  obtain ⟨vs,rv,q2⟩:=dO I1.hok e2
  refine ZpA q1 q2 λh' z pTI pTO t1 t2 kk=>?_
  have I2:Inv X pins σ H1 { s1 with heap:=h' }:=I1.kept (t':=s1.toks) kk
  have na:∀ n k:Nat,n≠k->(s1.heap.objs.size+n:Nat)≠s1.heap.objs.size+k:=λn k h e=>h (by omega)
  refine wpAny_pyIter_zip z ⟨s1.heap.objs.size+4,[s1.heap.objs.size+4,s1.heap.objs.size+2,s1.heap.objs.size+3,s1.heap.objs.size,s1.heap.objs.size+1],_,_,H1,rfl,I2,Zja _ _ _ _ _ ⟨na 2 4 (by decide),na 3 4 (by decide),na 0 4 (by decide),na 1 4 (by decide),na 2 3 (by decide),na 2 0 (by decide),na 2 1 (by decide),na 3 0 (by decide),na 3 1 (by decide),na 0 1 (by decide)⟩,⟨z,pTI,⟨_,_,pTO⟩,t1,t2⟩,λb hb=>?_,q⟩
  have hle:s1.heap.objs.size<=b:=by
   simp at hb
   rcases hb with rfl | rfl | rfl | rfl | rfl <;> first | exact Nat.le_add_right _ _ | exact v4 _
  exact I1.fpOk hle (I1.hok.fresh hle)
noncomputable def b7 (xs ys:z9):z9:=(xs.zip ys).map λ(x,y)=>.tuple [x,y]
theorem pQ {G:Hp} {v:V} {x:PyData} {xs:z9} (d:Dn G v x) (h:gI x=some xs):∃ b a vs,v=.ref a/\G a=some (bq b vs)/\DnAll G vs xs:=by
 cases d with
 | lst h1 h2=>cases h; exact ⟨true,_,_,rfl,h1,h2⟩
 | tup h1 h2=>cases h; exact ⟨false,_,_,rfl,h1,h2⟩
 | _=>cases h
theorem ul {b:Bool} {xs ys:Ad} (h:some (bq b xs)=some (bq b ys)):xs=ys:=by
 cases b <;> (cases h; rfl)
theorem Zni {pa:Addr} {G:Hp} {b1 b2:Bool} {l1 l2:Addr} {us vs:Ad} {xs ys:z9} (h1:G l1=some (bq b1 us)) (h2:G l2=some (bq b2 vs)) (d1:DnAll G us xs) (d2:DnAll G vs ys):kd PK pa (jw b1 b2 l1 l2) G (b7 xs ys):=λm G2 H2 sb w=>by
 have e1:H2 l1=some (bq b1 us):=w.sub _ _ (sb _ _ h1)
 have e2:H2 l2=some (bq b2 vs):=w.sub _ _ (sb _ _ h2)
 refine ⟨λn d hd=>?_,us,vs,e1,e2,?_⟩
 ·unfold b7 at hd
  rw [v5] at hd
  cases hz:(xs.zip ys)[n]? with
  | none=>rw [hz] at hd; cases hd
  | some xy =>
   rw [hz] at hd
   cases hd
   have hxy:=zG.mp hz
   obtain ⟨u,hu,du⟩:=d1.get n hxy.1
   obtain ⟨v,hv,dv⟩:=d2.get n hxy.2
   refine ⟨⟨us,vs,u,v,e1,e2,hu,hv⟩,λx H3 hz0=>?_⟩
   obtain ⟨us',vs',u',v',p,f1,f2,hu',hv',hp,ex,eH⟩:=hz0
   rw [e1] at f1
   rw [e2] at f2
   have:=ul f1
   have:=ul f2
   subst us' vs'
   rw [hu] at hu'
   rw [hv] at hv'
   cases hu'
   cases hv'
   subst ex eH
   obtain ⟨w3,s3⟩:=w.new (o:=.tup [u,v]) hp
   exact ⟨_,s3,w3,.tup cA (.cons ((du.mono sb).mono s3.gs) (.cons ((dv.mono sb).mono s3.gs) .nil))⟩
 ·unfold b7
  rw [vZ,yr,d1.length.symm,d2.length.symm]
  rcases Nat.le_total us.length vs.length with hle | hle
  ·left
   rw [xt hle]
   simp
  ·right
   rw [Nat.min_eq_right hle]
   simp
noncomputable def j9 (i j:zS):zT:=λρ=>(i ρ).bind λx=>(j ρ).bind λy=>(Tr.of (gI x)).bind λxs=>(Tr.of (gI y)).bind λys=>.ret (b7 xs ys)
theorem nq {iter:Expr} (h:PI X tg iter (Zd0 (TAe PK i) (TAe PK j))):PI X tg iter (fX PK (j9 i j)):=h.imp λσ H R0 hz0=>by
 obtain ⟨pa,Ag,H₀,m,ρ,G,R,z⟩:=hz0
 refine TAe.then R z λm1 x v G1 H1 s1 w1 R1 d1 q1=>?_
 refine TAe.then R1 q1 λm2 y u G2 H2 s2 w2 R2 d2 q2=>?_
 rw [Tr.ok_bind] at q2
 obtain ⟨xs,hx,q2⟩:=Tr.ok_of q2
 rw [Tr.ok_bind] at q2
 obtain ⟨ys,hy,q2⟩:=Tr.ok_of q2
 obtain ⟨b1,l1,us,rfl,e1,f1⟩:=pQ (d1.mono s2.gs) hx
 obtain ⟨b2,l2,vs,rfl,e2,f2⟩:=pQ d2 hy
 exact ⟨b1,b2,l1,l2,us,vs,rfl,rfl,w2.sub _ _ e1,w2.sub _ _ e2,q2 _ G2 H2 (s1.trans s2 w1.some) w2 (Zni e1 e2 f1 f2)⟩
end
theorem ZhF {prog:Program} {w:World} {A:Around} (hh:A.handled=none) (b:Bool) (it l:Addr) (hne:l≠it) (items:Array Value):Draws prog w A it [it,l] items.size (λi v=>items[i]?=some v) (λi h=>ItAt b h it l i/\SqAt b h l items) where
 live:=λ_ _ st=>let ⟨o,ho,_⟩:=st.1.there; ⟨o,ho⟩
 frame:=λ_ _ _ st hk=>⟨st.1.at λo e=>hk it (by simp) o e,st.2.at λo e=>hk l (by simp) o e⟩
 item:=λi s Q E hi st hQ=>oS st.1 st.2 (x:=items[i]) (by simp [hi]) λh' hit' hs'=>hQ _ h' s.toks (by simp [hi]) ⟨hit',st.2.bt hs'.extBut hne⟩ hs'
 done:=λs Q E st hE=>tK hh st.1 st.2 (by simp) hE
theorem ZmH (b:Bool) (l:Addr) (items:Array Value) :
  Meets (Builtin.«enumerate.__new__» ⟨[.type "enumerate",.ref l],[]⟩) (λ_ R s=>SqAt b s.heap l items /\
   R (.ok (.ret (.ref (s.heap.push (eY b l)).objs.size))) { s with heap:=(s.heap.push (eY b l)).push { cls:=.type "enumerate",data:=.fields #[.none,.bool false,.ref s.heap.objs.size,rawInt 0,.none,.none] } }) :=
 .of_wp λprog w A R s h=>by
  obtain ⟨hp,g,d,tk,os⟩:=s
  obtain ⟨hl,h⟩:=h
  have hsub:=sub_enumerate
  have q:SqAt b (Shared.heap ⟨hp,g,d,tk,os⟩) l items:=hl
  have ho:∃ ob,hp.get? l=some ob:=by
   cases b with
   | true=>obtain ⟨ob,e,_⟩:=hl; exact ⟨ob,e⟩
   | false=>obtain ⟨ob,e,_⟩:=hl; exact ⟨ob,e⟩
  obtain ⟨ob,ho⟩:=ho
  wp_walk using wpAny_loadPart' ho
  refine wpAny_stack_any λst=>wpAny_pure ?_
  split
  ·rename_i c _ _ _ _ _
   cases (c == Value.type "enumerate")
   ·wp_walk using wpAny_loadPart' ho,hU q
    exact ⟨_,rfl,h⟩
   ·wp_walk using wpAny_loadPart' ho,hU q
    exact ⟨_,rfl,h⟩
  ·wp_walk using wpAny_loadPart' ho,hU q
   exact ⟨_,rfl,h⟩
section
variable {prog:Program} {w:World} {A:Around} {E:z0} {s:Shared}
theorem ZpG {b:Bool} {l:Addr} {items:Array Value} {Q:z0} (hl:SqAt b s.heap l items)
  (h:∀ h',IsEnum h' (s.heap.objs.size+1) s.heap.objs.size 0 .none->ItAt b h' s.heap.objs.size l 0->(∀ c o,s.heap.get? c=some o->h'.get? c=some o)->Q (.ref (s.heap.objs.size+1)) { s with heap:=h' }) :
  wpAny (model prog w) A (call (.type "enumerate") [.ref l]) Q E s:=by
 refine callType_new F.called_enumerate (by decide) (F.typeCall_enumerate_1 _) (F.newCall_enumerate_1 _) (λobj=>zg obj _) F.entry_enumerate_new (ZmH b l items) ⟨hl,?_⟩
 have n1:(s.heap.push (eY b l)).objs.size=s.heap.objs.size+1:=wT ..
 have a2:IsEnum ((s.heap.push (eY b l)).push { cls:=.type "enumerate",data:=.fields #[.none,.bool false,.ref s.heap.objs.size,rawInt 0,.none,.none] }) (s.heap.push (eY b l)).objs.size s.heap.objs.size 0 .none:=v7 _ rfl
 have a1:((s.heap.push (eY b l)).push { cls:=.type "enumerate",data:=.fields #[.none,.bool false,.ref s.heap.objs.size,rawInt 0,.none,.none] }).get? s.heap.objs.size=some (eY b l):=vY _ (v7 _ (by cases b <;> rfl))
 rw [n1] at a2
 show _/\_
 rw [n1]
 exact ⟨⟨_,a2,rfl⟩,h _ a2 (j0 a1) λc o x=>vY _ (vY _ x)⟩
end
noncomputable def kg (b:Bool) (l:Addr):It :=
 ⟨λi H=>∃ xs x,H l=some (bq b xs)/\xs[i]?=some x,
  λi H v H'=>∃ xs x p,H l=some (bq b xs)/\xs[i]?=some x/\H p=none/\v=.ref p/\H'=upd H p (.tup [.int i,x]),
  λi H=>∃ xs,H l=some (bq b xs)/\xs.length=i⟩
theorem Zjf {P:Program} {w:World} {K:zR} {elts:List Expr} {x1:Nat} {pos:Pos} {b:Bool} {l:Addr} (e it:Addr) (hne:e≠it) :
  Turn P w K (.Tuple elts x1 pos) (kg b l) [e,it] e (λi h=>(∃ old,IsEnum h e it i old)/\ItAt b h it l i) where
 mem:=by simp
 obj:=λi h st c hb=>by
  obtain ⟨⟨old,he⟩,h1⟩:=st
  simp at hb
  rcases hb with rfl | rfl
  ·exact ⟨_,he,λv q=>by cases q⟩
  ·exact h1.there
 keep:=λi h h' st k=>by
  obtain ⟨⟨old,he⟩,h1⟩:=st
  exact ⟨⟨old,k _ (by simp) _ he⟩,h1.at λo q=>k _ (by simp) o q⟩
 item:=by
  intro X hP hw hK hc i pins s σ H E I hf st hg
  subst hP hw hK
  obtain ⟨xs,x,e1,hx⟩:=hg
  obtain ⟨⟨old,he⟩,h1⟩:=st
  obtain ⟨us,r1,q1⟩:=dO I.hok e1
  obtain ⟨u,hu,ru⟩:=r1.get hx
  have nl:∀ c∈[e,it],l≠c:=λc hc=>dh e1 (hf c hc).1
  have hlt:i < us.toArray.size:=by
   have:=(v8.mp hu).1
   simpa using this
  refine wpAny_pyNext_enum_itemD (ZhF (A:=X.A.in1) (show X.A.in1.handled=none from I.ok.hd hc) b it l (nl it (by simp)) us.toArray) he ⟨h1,q1⟩ hlt hne (by simp only [wo,zo,or_false,not_or]; exact ⟨hne,(nl e (by simp)).symm⟩) λx' h' tk hP' ho st' hT hsz kk=>?_
  have hxu:x'=u:=by
   have q:us[i]?=some x':=by simpa using hP'
   rw [hu] at q
   cases q
   rfl
  subst hxu
  refine ⟨_,rfl,wpAny_letOwnedTupleGo_enum ho λh2' z2 sb=>?_⟩
  have lt:∀ {c:Addr} {o:Obj},s.heap.get? c=some o->s.heap.objs.size≠c:=λq=>wZ (wk q)
  have I1:Inv X pins σ H { s with heap:=h2',toks:=tk+1 }:=I.turns (ch:=[e,it]) (λc o hb q=>by
   simp at hb
   exact sb.extBut _ _ hb.1 (kk c o hb.1 hb.2 q)) hf
  have hTn:H s.heap.objs.size=none:=I.hok.fresh (v4 _)
  have I2:=I1.pair (T:=s.heap.objs.size) (x:=.int i) (y:=x) hTn (sb.extBut _ _ (lt he) hT) ⟨tk,rfl⟩ ru (wZ I.lt) I.sz
   (λq cc ee hq=>by obtain ⟨vv,zz⟩:=I.cell q cc ee; exact absurd zz.lt (by rw [hq]; exact wF _)) (λp hp hq=>absurd (wk (I.pin p hp).1) (by rw [hq]; exact wF _))
  refine ⟨.ref s.heap.objs.size,_,I2,rfl,⟨xs,x,_,e1,hx,hTn,rfl,rfl⟩,⟨⟨_,z2⟩,st'.1.at λo q=>sb.extBut _ _ (Ne.symm hne) q⟩,λc hb=>?_⟩
  have hbn:c≠s.heap.objs.size:=by
   simp at hb
   obtain ⟨o1,g1,_⟩:=h1.there
   rcases hb with rfl | rfl
   ·exact (lt he).symm
   ·exact (lt g1).symm
  rw [a9 hbn]
  exact (hf c hb).1
 done:=by
  intro X hP hw hK hc i pins s σ H E I hf st hg
  subst hP hw hK
  obtain ⟨xs,e1,hend⟩:=hg
  obtain ⟨⟨old,he⟩,h1⟩:=st
  obtain ⟨us,r1,q1⟩:=dO I.hok e1
  have nl:∀ c∈[e,it],l≠c:=λc hc=>dh e1 (hf c hc).1
  have hsz:us.toArray.size=i:=by rw [wa,<- r1.length]; exact hend
  subst hsz
  refine wpAny_pyNext_enum_endD (ZhF (A:=X.A.in1) (show X.A.in1.handled=none from I.ok.hd hc) b it l (nl it (by simp)) us.toArray) he ⟨h1,q1⟩ λh' eb=>⟨rfl,?_⟩
  exact I.turns (ch:=[e,it]) (t':=s.toks) (λc o hb q=>by
   simp at hb
   exact eb c o hb.2 q) hf
 self:=λ_ _ _ _ _ st h=>by
  obtain ⟨⟨old,he⟩,_⟩:=st
  exact wpAny_pyIter_enum he h
section
variable {X:Cx} {tg:Expr} {PK:Pk} {a b:Expr} {i j:zS} {p pos:Pos}
def Zd4 (ta:TE):TI:=λσ H R=>ta σ H λx H1=>∃ b l xs,x=.ref l/\H1 l=some (bq b xs)/\R (kg b l) H1
theorem oE {elts:List Expr} {x1:Nat} {tpos:Pos} {ta:TE} (hc:X.calm=true) (hg:Gl X "enumerate") (hm:X.mg "enumerate"=none) (ha:PE X a ta)
  (hs:starEach [a] X.env=[(false,eval a X.env)]:=by rfl):PI X (.Tuple elts x1 tpos) (.Call (.Name "enumerate" p) [a] [] pos) (Zd4 ta):=by
 intro pins s σ H R I h
 have hab:PA X [a] (fB ta aY):=bp ha cm (by rw [hs]; rfl)
 have h':fB ta aY σ H λvs H1=>∃ x,vs=[x]/\∃ b l xs,x=.ref l/\H1 l=some (bq b xs)/\R (kg b l) H1:=by
  have e:(λ(x:V) (H1:Hp)=>∃ b l xs,x=.ref l/\H1 l=some (bq b xs)/\R (kg b l) H1)=λx H1=>aY σ H1 λxs H2=>∃ y,x::xs=[y]/\∃ b l xs,y=.ref l/\H2 l=some (bq b xs)/\R (kg b l) H2:=by
   funext x H1
   apply propext
   constructor
   ·exact λq=>⟨x,rfl,q⟩
   ·rintro ⟨y,e,q⟩
    have e':x=y:=by simpa using e
    subst e'
    exact q
  have h0:ta σ H λx H1=>∃ b l xs,x=.ref l/\H1 l=some (bq b xs)/\R (kg b l) H1:=h
  rw [e] at h0
  exact h0
 refine Call_ (jb I hg hm boot_enumerate (xh (thn (hab pos pins s σ H _ I h') λus s1 hz0=>?_) (by rw [hs]; rfl) rfl))
 obtain ⟨vs,H1,I1,r1,q1⟩:=hz0
 obtain ⟨x,rfl,b,l,xs,rfl,e1,q⟩:=q1
 obtain ⟨u,rfl,ru⟩:=eB r1
 cases ru
 obtain ⟨us,ru,q1⟩:=dO I1.hok e1
 refine ZpG q1 λh' z t1 kk=>?_
 have I2:Inv X pins σ H1 { s1 with heap:=h' }:=I1.kept (t':=s1.toks) kk
 refine wpAny_pyIter_enum z ⟨s1.heap.objs.size+1,[s1.heap.objs.size+1,s1.heap.objs.size],_,_,H1,rfl,I2,Zjf _ _ (λq=>absurd (show (s1.heap.objs.size+1:Nat)=s1.heap.objs.size from q) (by omega)),⟨⟨_,z⟩,t1⟩,λc hb=>?_,q⟩
 have hle:s1.heap.objs.size<=c:=by
  simp at hb
  rcases hb with rfl | rfl <;> first | exact Nat.le_add_right _ _ | exact v4 _
 exact I1.fpOk hle (I1.hok.fresh hle)
noncomputable def eN (xs:z9):z9:=(List.range xs.length).zipWith (λ(n:Nat) x=>.tuple [.int n,x]) xs
theorem Znm {pa:Addr} {G:Hp} {b:Bool} {l:Addr} {us:Ad} {xs:z9} (h1:G l=some (bq b us)) (d1:DnAll G us xs):kd PK pa (kg b l) G (eN xs):=λm G2 H2 sb w=>by
 have e1:H2 l=some (bq b us):=w.sub _ _ (sb _ _ h1)
 have hlen:(eN xs).length=xs.length:=by unfold eN; simp
 refine ⟨λn d hd=>?_,us,e1,by rw [hlen,d1.length]⟩
 have hn:n < xs.length:=by rw [<- hlen]; exact (v8.mp hd).1
 have hd':d=.tuple [.int n,xs[n]]:=by
  unfold eN at hd
  rw [List.getElem?_zipWith] at hd
  simp [hn] at hd
  exact hd.symm
 subst hd'
 obtain ⟨u,hu,du⟩:=d1.get n (show xs[n]?=some xs[n] by simp [hn])
 refine ⟨⟨us,u,e1,hu⟩,λx H3 hz0=>?_⟩
 obtain ⟨us',u',p,f1,hu',hp,ex,eH⟩:=hz0
 rw [e1] at f1
 have:=ul f1
 subst us'
 rw [hu] at hu'
 cases hu'
 subst ex eH
 obtain ⟨w3,s3⟩:=w.new (o:=.tup [.int n,u]) hp
 exact ⟨_,s3,w3,.tup cA (.cons (.int n) (.cons ((du.mono sb).mono s3.gs) .nil))⟩
noncomputable def lw (i:zS):zT:=λρ=>(i ρ).bind λx=>(Tr.of (gI x)).bind λxs=>.ret (eN xs)
theorem qx {iter:Expr} (h:PI X tg iter (Zd4 (TAe PK i))):PI X tg iter (fX PK (lw i)):=h.imp λσ H R0 hz0=>by
 obtain ⟨pa,Ag,H₀,m,ρ,G,R,z⟩:=hz0
 refine TAe.then R z λm1 x v G1 H1 s1 w1 R1 d1 q1=>?_
 rw [Tr.ok_bind] at q1
 obtain ⟨xs,hx,q1⟩:=Tr.ok_of q1
 obtain ⟨b1,l1,us,rfl,e1,f1⟩:=pQ d1 hx
 exact ⟨b1,l1,us,rfl,w1.sub _ _ e1,q1 _ G1 H1 s1 w1 (Znm e1 f1)⟩
end
end L2
set_option Elab.async false
set_option linter.all false
set_option maxRecDepth 100000
namespace L2
section
variable {prog:Program} {w:World} {A:Around}
theorem nS (hh:A.handled=none) (b:Bool) (I ax:Addr) (hne:ax≠I) (items:Array Value):Walks prog w A I [I,ax] [I] items.size (λi v=>items[i]?=some v) (λi h=>ItAt b h I ax i/\SqAt b h ax items):=by
 cases b with
 | true=>exact Walks.list hh I ax hne items
 | false=>exact Walks.tuple hh I ax hne items
end
theorem mU {ns:Aa} {us:Ab} (r:Vals (ns.map V.int) us) {i:Nat} {v:Value} (h:us[i]?=some v):∃ t,v=.int ((ns[i]?).getD 0) t:=by
 have hi:i < us.length:=(v8.mp h).1
 have hl:us.length=ns.length:=by rw [<- r.length,vZ]
 obtain ⟨u,e1,e2⟩:=r.get (i:=i) (x:=V.int ns[i]) (by simp [show i < ns.length by omega])
 rw [h] at e1
 cases e1
 obtain ⟨t,e2⟩:=e2
 exact ⟨t,by simp [show i < ns.length by omega,e2]⟩
theorem Zln (ns:Aa):preSum (λi=>(ns[i]?).getD 0) ns.length=ns.sum:=by
 have key:∀ k,k<=ns.length->preSum (λi=>(ns[i]?).getD 0) k=(ns.take k).sum:=by
  intro k
  induction k with
  | zero=>intro _; simp [preSum]
  | succ k ih =>
   intro hk
   rw [preSum,ih (by omega),List.take_add_one,List.sum_append]
   simp [show k < ns.length by omega]
 rw [key _ (v4 _),zm]
section
variable {X:Cx} {PK:Pk}
theorem iE (hc:X.calm=true):dM X (.builtin "sum") (λxs H Q=>∃ (b:Bool) (l:Addr) (ns:Aa),xs=[.ref l]/\H l=some (bq b (ns.map V.int))/\Q (.int ns.sum) H):=by
 intro pins s σ H xs us Q I r h
 obtain ⟨b,l,ns,rfl,e1,q⟩:=h
 obtain ⟨u,rfl,ru⟩:=eB r
 cases ru
 obtain ⟨vs,rv,sq⟩:=dO I.hok e1
 have hlt:l < s.heap.objs.size:=I.hok.lt e1
 refine call_sum_walkG (hU sq ?_)
 refine ⟨s.heap.objs.size,[s.heap.objs.size,l],[s.heap.objs.size],vs.toArray.size,_,_,λi=>(ns[i]?).getD 0,rfl,nS (A:=X.A.in1) (I.ok.hd hc) b _ l (wy hlt) vs.toArray,
  ⟨j0 (v7 _ (by cases b <;> rfl)),sq.push _⟩,λc hc=>?_,λi v hv=>mU rv (by simpa using hv),λh' tk t' hk=>?_⟩
 ·rw [wT]
  simp at hc
  rcases hc with rfl | rfl
  ·exact yh _
  ·exact xU hlt
 ·refine ⟨.int ns.sum,H,I.kept (t':=tk) λc o e=>hk c o (λz=>?_) (vY _ e),⟨t',?_⟩,q⟩
  ·have:c=s.heap.objs.size:=by simpa using z
   subst this
   exact wF _ (wk e)
  ·have e:vs.toArray.size=ns.length:=by rw [wa,<- rv.length,vZ]
   rw [e,Zln]
theorem Zk0 (bs:List Bool):((List.range bs.length).all λi=>(bs[i]?).getD true)=bs.all id:=by
 rw [yv,xM,xM]
 constructor
 ·intro h x hx
  obtain ⟨i,hi,rfl⟩:=y4 hx
  have:=h i (wV.mpr hi)
  simpa [hi] using this
 ·intro h i hi
  have hi':=wV.mp hi
  simpa [hi'] using h _ (wN hi')
theorem Zqc {bs:List Bool} {us:Ab} (r:Vals (bs.map V.bl) us) {i:Nat} {v:Value} (h:us[i]?=some v):v=.bool ((bs[i]?).getD true):=by
 have hi:i < us.length:=(v8.mp h).1
 have hl:us.length=bs.length:=by rw [<- r.length,vZ]
 obtain ⟨u,e1,e2⟩:=r.get (i:=i) (x:=V.bl bs[i]) (by simp [show i < bs.length by omega])
 rw [h] at e1
 cases e1
 cases e2
 simp [show i < bs.length by omega]
theorem Zib (hc:X.calm=true):dM X (.builtin "all") (λxs H Q=>∃ (b:Bool) (l:Addr) (bs:List Bool),xs=[.ref l]/\H l=some (bq b (bs.map V.bl))/\Q (.bl (bs.all id)) H):=by
 intro pins s σ H xs us Q I r h
 obtain ⟨b,l,bs,rfl,e1,q⟩:=h
 obtain ⟨u,rfl,ru⟩:=eB r
 cases ru
 obtain ⟨vs,rv,sq⟩:=dO I.hok e1
 have hlt:l < s.heap.objs.size:=I.hok.lt e1
 refine call_all_walk (hU sq ?_)
 refine ⟨s.heap.objs.size,[s.heap.objs.size,l],[s.heap.objs.size],vs.toArray.size,_,_,λi=>(bs[i]?).getD true,rfl,nS (A:=X.A.in1) (I.ok.hd hc) b _ l (wy hlt) vs.toArray,
  ⟨j0 (v7 _ (by cases b <;> rfl)),sq.push _⟩,λi v s' Q' E' hP hQ=>?_,λh' tk hk=>?_⟩
 ·have e:=Zqc rv (i:=i) (v:=v) (by simpa using hP)
  subst e
  exact wpAny_truthy_bool hQ
 ·have e:vs.toArray.size=bs.length:=by rw [wa,<- rv.length,vZ]
  rw [e,Zk0]
  refine ⟨.bl _,H,I.kept (t':=tk) λc o e=>hk c o (λz=>?_) (vY _ e),rfl,q⟩
  have:c=s.heap.objs.size:=by simpa using z
  subst this
  exact wF _ (wk e)
noncomputable def fu:List Int->Int
 | []=>0
 | [n]=>n
 | n::m::r=>cf (fu (m::r)) n
noncomputable def dZ:List Int->Int
 | []=>0
 | [n]=>n
 | n::m::r=>Zdg (dZ (m::r)) n
theorem oY:∀ {ns:Aa},ns≠[]->fu ns∈ns/\∀ m∈ns,m<=fu ns
 | [],h=>absurd rfl h
 | [n],_=>⟨by simp [fu],by simp [fu]⟩
 | n::m::r,_=>by
  obtain ⟨h1,h2⟩:=oY (ns:=m::r) (by simp)
  unfold fu cf
  split
  ·refine ⟨by simp,λk hk=>?_⟩
   rcases wo.mp hk with rfl | hk
   ·exact wK _
   ·have:=h2 k hk; omega
  ·refine ⟨v3 _ h1,λk hk=>?_⟩
   rcases wo.mp hk with rfl | hk
   ·omega
   ·exact h2 k hk
theorem tP:∀ {ns:Aa},ns≠[]->dZ ns∈ns/\∀ m∈ns,dZ ns<=m
 | [],h=>absurd rfl h
 | [n],_=>⟨by simp [dZ],by simp [dZ]⟩
 | n::m::r,_=>by
  obtain ⟨h1,h2⟩:=tP (ns:=m::r) (by simp)
  unfold dZ Zdg
  split
  ·refine ⟨by simp,λk hk=>?_⟩
   rcases wo.mp hk with rfl | hk
   ·exact wK _
   ·have:=h2 k hk; omega
  ·refine ⟨v3 _ h1,λk hk=>?_⟩
   rcases wo.mp hk with rfl | hk
   ·omega
   ·exact h2 k hk
theorem Zis (f:Nat->Int):∀ k,argBest (λi j=>decide (f i > f j)) k<=k/\∀ j,j<=k->f j<=f (argBest (λi j=>decide (f i > f j)) k)
 | 0=>⟨v4 _,λj hj=>by
  have:j=0:=by omega
  subst this
  exact wK _⟩
 | k+1=>by
  obtain ⟨h1,h2⟩:=Zis f k
  unfold argBest
  by_cases hc:f (k+1) > f (argBest (λi j=>decide (f i > f j)) k)
  ·rw [if_pos (by simpa using hc)]
   refine ⟨v4 _,λj hj=>?_⟩
   rcases yw hj with h | h
   ·have:=h2 j (by omega); omega
   ·subst h; exact wK _
  ·rw [if_neg (by simpa using hc)]
   refine ⟨by omega,λj hj=>?_⟩
   rcases yw hj with h | h
   ·exact h2 j (by omega)
   ·subst h; omega
theorem Zir (f:Nat->Int):∀ k,argBest (λi j=>decide (f i < f j)) k<=k/\∀ j,j<=k->f (argBest (λi j=>decide (f i < f j)) k)<=f j
 | 0=>⟨v4 _,λj hj=>by
  have:j=0:=by omega
  subst this
  exact wK _⟩
 | k+1=>by
  obtain ⟨h1,h2⟩:=Zir f k
  unfold argBest
  by_cases hc:f (k+1) < f (argBest (λi j=>decide (f i < f j)) k)
  ·rw [if_pos (by simpa using hc)]
   refine ⟨v4 _,λj hj=>?_⟩
   rcases yw hj with h | h
   ·have:=h2 j (by omega); omega
   ·subst h; exact wK _
  ·rw [if_neg (by simpa using hc)]
   refine ⟨by omega,λj hj=>?_⟩
   rcases yw hj with h | h
   ·exact h2 j (by omega)
   ·subst h; omega
theorem ZpF (hc:X.calm=true):dM X (.builtin "max") (λxs H Q=>∃ (b:Bool) (l:Addr) (ns:Aa),xs=[.ref l]/\H l=some (bq b (ns.map V.int))/\ns≠[]/\Q (.int (fu ns)) H):=by
 intro pins s σ H xs us Q I r h
 obtain ⟨b,l,ns,rfl,e1,hne,q⟩:=h
 obtain ⟨u,rfl,ru⟩:=eB r
 cases ru
 obtain ⟨vs,rv,sq⟩:=dO I.hok e1
 have hlt:l < s.heap.objs.size:=I.hok.lt e1
 have hsz:vs.toArray.size=ns.length:=by rw [wa,<- rv.length,vZ]
 have hpos:0 < ns.length:=yt.mpr hne
 refine call_max_walk (hU sq ?_)
 refine ⟨s.heap.objs.size,[s.heap.objs.size,l],[s.heap.objs.size],vs.toArray.size,_,_,λi j=>decide ((ns[i]?).getD 0 > (ns[j]?).getD 0),rfl,nS (A:=X.A.in1) (I.ok.hd hc) b _ l (wy hlt) vs.toArray,
  ⟨j0 (v7 _ (by cases b <;> rfl)),sq.push _⟩,λc hc=>?_,by omega,CmpOf.ints_gt (λi=>(ns[i]?).getD 0) (λi v hv=>mU rv (by simpa using hv)),λv h' tk hv hk=>?_⟩
 ·rw [wT]
  simp at hc
  rcases hc with rfl | rfl
  ·exact yh _
  ·exact xU hlt
 ·obtain ⟨t,rfl⟩:=mU rv (by rw [<- List.getElem?_toArray]; exact hv)
  obtain ⟨b1,b2⟩:=Zis (λi=>(ns[i]?).getD 0) (vs.toArray.size - 1)
  obtain ⟨m1,m2⟩:=oY hne
  refine ⟨.int (fu ns),H,I.kept (t':=tk) λc o e=>hk c o (λz=>?_) (vY _ e),⟨t,?_⟩,q⟩
  ·have:c=s.heap.objs.size:=by simpa using z
   subst this
   exact wF _ (wk e)
  ·congr 1
   obtain ⟨i,hi,ei⟩:=y4 m1
   have h1:=b2 i (by omega)
   simp only [hi,v6,yN,ei] at h1
   have hb:argBest (λi j=>decide ((ns[i]?).getD 0 > (ns[j]?).getD 0)) (vs.toArray.size - 1) < ns.length:=by omega
   have h2:=m2 _ (wN hb)
   simp only [hb,v6,yN] at h1 ⊢
   omega
theorem ZpE (hc:X.calm=true):dM X (.builtin "min") (λxs H Q=>∃ (b:Bool) (l:Addr) (ns:Aa),xs=[.ref l]/\H l=some (bq b (ns.map V.int))/\ns≠[]/\Q (.int (dZ ns)) H):=by
 intro pins s σ H xs us Q I r h
 obtain ⟨b,l,ns,rfl,e1,hne,q⟩:=h
 obtain ⟨u,rfl,ru⟩:=eB r
 cases ru
 obtain ⟨vs,rv,sq⟩:=dO I.hok e1
 have hlt:l < s.heap.objs.size:=I.hok.lt e1
 have hsz:vs.toArray.size=ns.length:=by rw [wa,<- rv.length,vZ]
 have hpos:0 < ns.length:=yt.mpr hne
 refine call_min_walk (hU sq ?_)
 refine ⟨s.heap.objs.size,[s.heap.objs.size,l],[s.heap.objs.size],vs.toArray.size,_,_,λi j=>decide ((ns[i]?).getD 0 < (ns[j]?).getD 0),rfl,nS (A:=X.A.in1) (I.ok.hd hc) b _ l (wy hlt) vs.toArray,
  ⟨j0 (v7 _ (by cases b <;> rfl)),sq.push _⟩,λc hc=>?_,by omega,CmpOf.ints_lt (λi=>(ns[i]?).getD 0) (λi v hv=>mU rv (by simpa using hv)),λv h' tk hv hk=>?_⟩
 ·rw [wT]
  simp at hc
  rcases hc with rfl | rfl
  ·exact yh _
  ·exact xU hlt
 ·obtain ⟨t,rfl⟩:=mU rv (by rw [<- List.getElem?_toArray]; exact hv)
  obtain ⟨b1,b2⟩:=Zir (λi=>(ns[i]?).getD 0) (vs.toArray.size - 1)
  obtain ⟨m1,m2⟩:=tP hne
  refine ⟨.int (dZ ns),H,I.kept (t':=tk) λc o e=>hk c o (λz=>?_) (vY _ e),⟨t,?_⟩,q⟩
  ·have:c=s.heap.objs.size:=by simpa using z
   subst this
   exact wF _ (wk e)
  ·congr 1
   obtain ⟨i,hi,ei⟩:=y4 m1
   have h1:=b2 i (by omega)
   simp only [hi,v6,yN,ei] at h1
   have hb:argBest (λi j=>decide ((ns[i]?).getD 0 < (ns[j]?).getD 0)) (vs.toArray.size - 1) < ns.length:=by omega
   have h2:=m2 _ (wN hb)
   simp only [hb,v6,yN] at h1 ⊢
   omega
noncomputable def bools?:List PyData->Option (List Bool)
 | []=>some []
 | .bool n::xs=>(bools? xs).bind λns=>some (n::ns)
 | _=>none
@[simp] theorem bools?_map:∀ ns:List Bool,bools? (ns.map PyData.bool)=some ns
 | []=>rfl
 | n::ns=>by rw [v9,bools?,bools?_map ns]; rfl
theorem DnAll.bools_inv {H:Hp} {vs:Ad} {ds:z9} {ns:List Bool} (a:DnAll H vs ds) (h:bools? ds=some ns):vs=ns.map V.bl/\ds=ns.map PyData.bool:=by
 induction vs generalizing ds ns with
 | nil=>cases a; cases h; exact ⟨rfl,rfl⟩
 | cons v vs ih =>
  cases a with
  | cons g t =>
   cases g with
   | bl n =>
    unfold bools? at h
    rename_i ds
    cases e:bools? ds with
    | none=>rw [e] at h; cases h
    | some ms =>
     rw [e] at h
     cases h
     obtain ⟨h1,h2⟩:=ih t e
     exact ⟨by rw [h1]; rfl,by rw [h2]; rfl⟩
   | _=>unfold bools? at h; cases h
noncomputable def fK {α:Type} (p:List PyData->Option α) (f:α->Option PyData):List PyData->Option PyData
 | [x]=>(gI x).bind λxs=>(p xs).bind f
 | _=>none
noncomputable def dG:List PyData->Option PyData:=fK ints? λns=>some (.int ns.sum)
noncomputable def jN:List PyData->Option PyData:=fK ints? λns=>if (!ns.isEmpty)=true then some (.int (fu ns)) else none
noncomputable def oX:List PyData->Option PyData:=fK ints? λns=>if (!ns.isEmpty)=true then some (.int (dZ ns)) else none
noncomputable def no:List PyData->Option PyData:=fK bools? λns=>some (.bool (ns.all id))
theorem oP {α:Type} {p:List PyData->Option α} {f:α->Option PyData} {G:Hp} {vs:Ad} {ds:z9} {d:PyData} (hv:DnAll G vs ds) (h:fK p f ds=some d):∃ b l us xs y,vs=[.ref l]/\G l=some (bq b us)/\DnAll G us xs/\p xs=some y/\f y=some d:=by
 unfold fK at h
 split at h
 ·rename_i x
  cases hx:gI x with
  | none=>rw [hx] at h; cases h
  | some xs =>
   rw [hx] at h
   have h':(p xs).bind f=some d:=h
   cases hp:p xs with
   | none=>rw [hp] at h'; cases h'
   | some y =>
    rw [hp] at h'
    cases hv with
    | cons h1 h2 =>
     cases h2
     obtain ⟨b,l,us,rfl,e1,e2⟩:=pQ h1 hx
     exact ⟨b,l,us,xs,y,rfl,e1,e2,hp,h'⟩
 ·cases h
theorem gW:eR (λxs H Q=>∃ (b:Bool) (l:Addr) (ns:Aa),xs=[.ref l]/\H l=some (bq b (ns.map V.int))/\Q (.int ns.sum) H) dG:=λPK pa m G H vs ds d Q w hv hd k=>by
 obtain ⟨b,l,us,xs,ns,rfl,e1,e2,hp,hf⟩:=oP hv hd
 obtain ⟨rfl,rfl⟩:=e2.ints_inv hp
 cases hf
 exact ⟨b,l,ns,rfl,w.sub _ _ e1,k.here w (.int _)⟩
theorem Zi5:eR (λxs H Q=>∃ (b:Bool) (l:Addr) (ns:Aa),xs=[.ref l]/\H l=some (bq b (ns.map V.int))/\ns≠[]/\Q (.int (fu ns)) H) jN:=λPK pa m G H vs ds d Q w hv hd k=>by
 obtain ⟨b,l,us,xs,ns,rfl,e1,e2,hp,hf⟩:=oP hv hd
 obtain ⟨rfl,rfl⟩:=e2.ints_inv hp
 split at hf
 ·rename_i hc
  cases hf
  exact ⟨b,l,ns,rfl,w.sub _ _ e1,(λz=>by subst z; cases hc),k.here w (.int _)⟩
 ·cases hf
theorem Zi4:eR (λxs H Q=>∃ (b:Bool) (l:Addr) (ns:Aa),xs=[.ref l]/\H l=some (bq b (ns.map V.int))/\ns≠[]/\Q (.int (dZ ns)) H) oX:=λPK pa m G H vs ds d Q w hv hd k=>by
 obtain ⟨b,l,us,xs,ns,rfl,e1,e2,hp,hf⟩:=oP hv hd
 obtain ⟨rfl,rfl⟩:=e2.ints_inv hp
 split at hf
 ·rename_i hc
  cases hf
  exact ⟨b,l,ns,rfl,w.sub _ _ e1,(λz=>by subst z; cases hc),k.here w (.int _)⟩
 ·cases hf
theorem Zan:eR (λxs H Q=>∃ (b:Bool) (l:Addr) (bs:List Bool),xs=[.ref l]/\H l=some (bq b (bs.map V.bl))/\Q (.bl (bs.all id)) H) no:=λPK pa m G H vs ds d Q w hv hd k=>by
 obtain ⟨b,l,us,xs,ns,rfl,e1,e2,hp,hf⟩:=oP hv hd
 obtain ⟨rfl,rfl⟩:=e2.bools_inv hp
 cases hf
 exact ⟨b,l,ns,rfl,w.sub _ _ e1,k.here w (.bl _)⟩
variable {a b c e:Expr} {pos:Pos} {i j l:zS}
noncomputable def lx (f g:zZ) (i j l:zS):zS:=λρ=>(i ρ).bind λx=>(j ρ).bind λy=>(Tr.of (f x y)).bind λz=>(Tr.of (jx z)).bind λk =>
 if k=true then (l ρ).bind λu=>Tr.of (g y u) else .ret (.bool false)
theorem Zh1 {r r':R2} {f g:zZ} (hv:cI r f) (hv':cI r' g):∀ σ H Q,TAe PK (lx f g i j l) σ H Q->rG r r' (TAe PK i) (TAe PK j) (TAe PK l) σ H Q:=by
 rintro σ H Q ⟨pa,Ag,H₀,m,ρ,G,R,q⟩
 refine TAe.then R q λm1 x v G1 H1 s1 w1 R1 d1 q1=>?_
 refine TAe.then R1 q1 λm2 y u G2 H2 s2 w2 R2 d2 q2=>?_
 rw [Tr.ok_bind] at q2
 obtain ⟨z,hz,q3⟩:=Tr.ok_of q2
 rw [Tr.ok_bind] at q3
 obtain ⟨k,hk,q5⟩:=Tr.ok_of q3
 have s12:=s1.trans s2 w1.some
 refine hv PK pa m2 G2 H2 v u x y z _ w2 (d1.mono s2.gs) d2 hz λzz G3 H3 s3 w3 d3=>?_
 cases d3 <;> simp only [jx] at hk <;> cases hk
 refine ⟨_,rfl,?_⟩
 have s13:=s12.trans s3 w2.some
 cases k with
 | true =>
  rw [if_pos rfl] at q5 ⊢
  refine TAe.then (R2.step s3 w3) q5 λm4 t vt G4 H4 s4 w4 R4 d4 q4=>?_
  obtain ⟨zz,hzz,q4⟩:=Tr.ok_of q4
  exact hv' PK pa m4 G4 H4 u vt y t zz Q w4 (d2.mono (s3.gs.trans s4.gs)) d4 hzz (Kn.later q4 (s13.trans s4 w3.some) w4.some)
 | false =>
  rw [if_neg wj] at q5 ⊢
  exact (Kn.later q5 s13 w3.some).here w3 (.bl false)
theorem ZqE {op op':CmpOp} {r r':R2} {f g:zZ} (ho:OpR X (compareOp op) r) (hv:cI r f) (ho':OpR X (compareOp op') r') (hv':cI r' g) (ha:PE X a (TAe PK i)) (hb:PE X b (TAe PK j)) (hc:PE X c (TAe PK l))
  (hm:lastMarks [op,op'] [b,c]=false:=by with_unfolding_all rfl):PE X (.Compare a [op,op'] [b,c] pos) (TAe PK (lx f g i j l)):=(ZlO ho ho' ha hb hc hm).imp (Zh1 hv hv')
theorem Zqk {op op':CmpOp} {r r':R2} {f g:zZ} (ho:OpR X (compareOp op) r) (hv:cI r f) (ho':OpR X (compareOp op') r') (hv':cI r' g) (ha:PE X a (TAe PK i)) (hb:PE X b (TAe PK j)) (hc:PE X c (TAe PK l))
  (hm:lastMarks [op,op'] [b,c]=false:=by with_unfolding_all rfl):PT X (.Compare a [op,op'] [b,c] pos) (TAt PK (bj (lx f g i j l))) :=
 (Zlh ho ho' ha hb hc hm).imp λσ H Q z=>Zax (Zh1 hv hv') σ H Q (vG σ H Q z)
theorem Znu:OpR X (inplaceOp .Mult) (rI CMulG λi j=>.int (i * j)):=iY λ_ _ _ _ _ _ _ hc q=>imul_int q hc.ok
theorem pip {op:Operator} {r:R2} (h:OpR X (inplaceOp op) r):nG X op r:=h
noncomputable def pO:zZ
 | .int m,.int n=>some (.int (m+n))
 | _,_=>none
theorem Zi3:cI (fo λi j=>.int (i+j)) pO:=λPK pa m G H x y dx dy dz Q w hx hy hz k=>by
 unfold pO at hz
 split at hz
 ·cases hz; cases hx; cases hy
  exact ⟨_,_,rfl,rfl,k.here w (.int _)⟩
 ·cases hz
noncomputable def mV:zZ
 | .int m,.int n=>if (fit m && fit n)=true then some (.int (m * n)) else none
 | _,_=>none
theorem Zi2:cI (rI CMulG λi j=>.int (i * j)) mV:=λPK pa m G H x y dx dy dz Q w hx hy hz k=>by
 unfold mV at hz
 split at hz
 ·split at hz
  ·rename_i hc
   rw [wl] at hc
   cases hz; cases hx; cases hy
   exact ⟨_,_,rfl,rfl,⟨of_decide_eq_true hc.1,of_decide_eq_true hc.2⟩,k.here w (.int _)⟩
  ·cases hz
 ·cases hz
end
theorem Zmh {PK:Pk} {is:zT}:∀ σ H Q,TAe PK (b6 is) σ H Q->ff PK is σ H Q:=by
 intro σ H Q z
 obtain ⟨pa,Ag,H₀,m,ρ,G,R,z⟩:=z
 exact ⟨pa,Ag,H₀,m,ρ,G,R,Tr.ok_mono (Tr.ok_bind.mp z) λm1 xs k=>Ko1.of k R.wd.some⟩
theorem vg {PK:Pk} {X:Cx} {st:Stmt} {is:zT} {i:zS} {n k:Nat} {ix:List Nat} {g:zY} (h:PS X st (f8 (lM (fX PK is) n ix (λ_=>gT PK g) (λ_=>TAe PK i)) (gL k))) (hn:js n g):PS X st (bT PK (aS k (b6 (dF is n ix g i)))) :=
 aT (h.imp (ZjM λσ H Q z=>ZdH hn σ H Q (Zmh σ H Q z)))
end L2
set_option Elab.async false
set_option linter.all false
set_option maxRecDepth 100000
namespace L2
variable {ρ:Af} {s t:zV} {i j l:zS} {is:zT} {as:List Sl->Tr Af} {f:zW} {p q:zU} {k n:Nat} {x y d:PyData} {xs ys:z9} {sl:Sl}
theorem Zez:aa 0 (.d x::ρ)=.ret x:=rfl
theorem Zey:aa (k+1) (sl::ρ)=aa k ρ:=rfl
theorem Zhs:aC d ρ=.ret d:=rfl
noncomputable def aV (g:zZ) (x y:PyData):Tr PyData:=Tr.of (g x y)
noncomputable def Ziq (g:zZ) (j:zS) (ρ:Af) (x:PyData):Tr PyData:=(j ρ).bind (aV g x)
theorem Zg2 {g:zZ}:ac g i j ρ=(i ρ).bind (Ziq g j ρ):=rfl
theorem Zg1 {g:zZ}:Ziq g j ρ x=(j ρ).bind (aV g x):=rfl
theorem Zhk (m n:Int):aV aX (.int m) (.int n)=.ret (.int (m+n)):=rfl
theorem uB (h1:xs.isEmpty=false) (h2:small (xs.length+ys.length)=true):aV aX (.tuple xs) (.tuple ys)=.ret (.tuple (xs++ys)):=by
 simp [aV,aX,h1,h2]
theorem ld (h2:small (xs.length+ys.length)=true):aV aX (.list xs) (.list ys)=.ret (.list (xs++ys)):=by
 simp [aV,aX,h2]
theorem ZeO (m n:Int):aV b8 (.int m) (.int n)=.ret (.int (m - n)):=rfl
theorem ZfL {m n:Int} (h1:fit m=true) (h2:fit n=true):aV bo (.int m) (.int n)=.ret (.int (m * n)):=by
 simp [aV,bo,h1,h2]
theorem jf {m n:Int} (h1:n≠0) (h2:fit n=true):aV e9 (.int m) (.int n)=.ret (.int (m.fdiv n)):=by
 simp [aV,e9,h1,h2]
theorem pW {m n:Int} (h1:n≠0):aV ij (.int m) (.int n)=.ret (.int (m.fmod n)):=by
 simp [aV,ij,h1]
theorem ZgN {g:Int->Int->Bool} (m n:Int):aV (c5 g) (.int m) (.int n)=.ret (.bool (g m n)):=rfl
theorem ZgE (m n:Int):aV cv (.int m) (.int n)=.ret (.bool (m == n)):=rfl
theorem ZfK (m n:Int):aV cX (.int m) (.int n)=.ret (.bool (!(m == n))):=rfl
theorem ZgF (m n:Bool):aV cv (.bool m) (.bool n)=.ret (.bool (m == n)):=rfl
theorem ZgD (m n:Str):aV cv (.str m) (.str n)=.ret (.bool (m == n)):=rfl
theorem ZfJ (m n:Str):aV cX (.str m) (.str n)=.ret (.bool (!(m == n))):=rfl
theorem Zn3 (h1:SeqAt.shaped x=true) (h2:SeqAt.shaped y=true) (h3:∀ a b,¬ (x=.str a/\y=.str b)):aV cv x y=.ret (.bool (PyData.eqv x y)):=by
 unfold aV cv
 split
 ·exact absurd ⟨rfl,rfl⟩ (h3 _ _)
 ·rw [h1,h2]; rfl
theorem Zmr (h1:SeqAt.shaped x=true) (h2:SeqAt.shaped y=true) (h3:∀ a b,¬ (x=.str a/\y=.str b)):aV cX x y=.ret (.bool (!PyData.eqv x y)):=by
 unfold aV cX
 split
 ·exact absurd ⟨rfl,rfl⟩ (h3 _ _)
 ·rw [h1,h2]; rfl
theorem ZnZ (h1:SeqAt.shaped (.list xs)=true) (h2:SeqAt.shaped (.list ys)=true):aV cv (.list xs) (.list ys)=.ret (.bool (PyData.eqvAll xs ys)):=by
 rw [Zn3 h1 h2 (λa b z=>by cases z.1)]
 simp only [PyData.eqv]
theorem ZnY (h1:SeqAt.shaped (.list xs)=true) (h2:SeqAt.shaped (.list ys)=true):aV cX (.list xs) (.list ys)=.ret (.bool (!PyData.eqvAll xs ys)):=by
 rw [Zmr h1 h2 (λa b z=>by cases z.1)]
 simp only [PyData.eqv]
theorem Zgd (m n:Bool):aV mT (.bool m) (.bool n)=.ret (.bool (!(m == n))):=rfl
theorem m7 (n:Int):aV au (.list xs) (.int n)=Tr.of (bf xs n):=rfl
theorem gl (n:Int):aV au (.tuple xs) (.int n)=Tr.of (bf xs n):=rfl
theorem dl {α:Type} {xs:List α} {n:Int} {v:α} (h0:0<=n) (h:xs[n.toNat]?=some v):bf xs n=some v:=by
 have e:(n.toNat:Int)=n:=Int.toNat_of_nonneg h0
 rw [<- e]
 exact gu h
section
variable {α:Type} {a0 a1 a2 a3 a4 a5 a6 a7 a8:α} {r:List α}
theorem qq:bf (a0::r) 0=some a0:=gu (j:=0) rfl
theorem qp:bf (a0::a1::r) 1=some a1:=gu (j:=1) rfl
theorem qo:bf (a0::a1::a2::r) 2=some a2:=gu (j:=2) rfl
theorem qm:bf (a0::a1::a2::a3::r) 3=some a3:=gu (j:=3) rfl
theorem ql:bf (a0::a1::a2::a3::a4::r) 4=some a4:=gu (j:=4) rfl
theorem ve:bf (a0::a1::a2::a3::a4::a5::r) 5=some a5:=gu (j:=5) rfl
theorem vd:bf (a0::a1::a2::a3::a4::a5::a6::r) 6=some a6:=gu (j:=6) rfl
theorem vc:bf (a0::a1::a2::a3::a4::a5::a6::a7::r) 7=some a7:=gu (j:=7) rfl
theorem u9:bf (a0::a1::a2::a3::a4::a5::a6::a7::a8::r) 8=some a8:=gu (j:=8) rfl
end
noncomputable def Zc2:PyData->Tr PyData
 | .int n=>.ret (.int (-n))
 | _=>.fail
theorem ZfI:gS i ρ=(i ρ).bind Zc2:=by
 unfold gS
 refine congrArg (Tr.bind (i ρ)) (funext λx=>?_)
 cases x <;> rfl
theorem ZfH (n:Int):Zc2 (.int n)=.ret (.int (-n)):=rfl
noncomputable def rB (x:PyData):Tr Bool:=Tr.of (jx x)
theorem ZeM:bj i ρ=(i ρ).bind rB:=rfl
theorem ZeF (b:Bool):rB (.bool b)=.ret b:=rfl
noncomputable def kl (x:PyData):Tr Bool:=Tr.of (Zar x)
theorem ZeL:dm i ρ=(i ρ).bind kl:=rfl
theorem ZeK (b:Bool):kl (.bool b)=.ret b:=rfl
theorem ZeJ (n:Int):kl (.int n)=.ret (n != 0):=rfl
theorem ZeI:kl (.list xs)=.ret (!xs.isEmpty):=rfl
theorem ZeG:kl (.tuple xs)=.ret (!xs.isEmpty):=rfl
theorem ZeH:kl .none=.ret false:=rfl
noncomputable def tE (q:zU) (ρ:Af) (b:Bool):Tr Bool:=if b=true then .ret true else q ρ
noncomputable def Zc0 (b:Bool):Tr Bool:=.ret (!b)
theorem ZfA:dL p q ρ=(p ρ).bind (tE q ρ):=rfl
theorem ZfF:dq p ρ=(p ρ).bind Zc0:=rfl
theorem Zfy:tE q ρ true=.ret true:=rfl
theorem Zfz:tE q ρ false=q ρ:=rfl
theorem ZfE (b:Bool):Zc0 b=.ret (!b):=rfl
noncomputable def vo (j:zS) (ρ:Af) (b:Bool):Tr PyData:=if b=true then j ρ else .ret (.bool false)
noncomputable def ZcZ (b:Bool):Tr PyData:=.ret (.bool (!b))
theorem Zhe:jr i j ρ=(bj i ρ).bind (vo j ρ):=rfl
theorem ZfD:qG i ρ=(bj i ρ).bind ZcZ:=rfl
theorem Zhc:vo j ρ true=j ρ:=rfl
theorem Zhd:vo j ρ false=.ret (.bool false):=rfl
theorem ZfC (b:Bool):ZcZ b=.ret (.bool (!b)):=rfl
noncomputable def uk (i j:zS) (ρ:Af) (b:Bool):Tr PyData:=if b=true then i ρ else j ρ
theorem Zgs:vK p i j ρ=(p ρ).bind (uk i j ρ):=rfl
theorem Zgq:uk i j ρ true=i ρ:=rfl
theorem Zgr:uk i j ρ false=j ρ:=rfl
noncomputable def qb (g:zZ) (l:zS) (ρ:Af) (y:PyData) (k:Bool):Tr PyData:=if k=true then (l ρ).bind (aV g y) else .ret (.bool false)
noncomputable def uS (g:zZ) (l:zS) (ρ:Af) (y z:PyData):Tr PyData:=(rB z).bind (qb g l ρ y)
noncomputable def uT (f g:zZ) (l:zS) (ρ:Af) (x y:PyData):Tr PyData:=(aV f x y).bind (uS g l ρ y)
noncomputable def ch1 (f g:zZ) (j l:zS) (ρ:Af) (x:PyData):Tr PyData:=(j ρ).bind (uT f g l ρ x)
theorem ZgO {f g:zZ}:lx f g i j l ρ=(i ρ).bind (ch1 f g j l ρ):=rfl
theorem ZgT {f g:zZ}:ch1 f g j l ρ x=(j ρ).bind (uT f g l ρ x):=rfl
theorem ZgS {f g:zZ}:uT f g l ρ x y=(aV f x y).bind (uS g l ρ y):=rfl
theorem ZgR {g:zZ} (b:Bool):uS g l ρ y (.bool b)=qb g l ρ y b:=rfl
theorem ZgP {g:zZ}:qb g l ρ y true=(l ρ).bind (aV g y):=rfl
theorem ZgQ {g:zZ}:qb g l ρ y false=.ret (.bool false):=rfl
noncomputable def uQ (x:PyData) (xs:z9):Tr z9:=.ret (x::xs)
noncomputable def ZhY (is:zT) (ρ:Af) (x:PyData):Tr z9:=(is ρ).bind (uQ x)
theorem ZfG:ap ρ=.ret []:=rfl
theorem ZgM:ae i is ρ=(i ρ).bind (ZhY is ρ):=rfl
theorem ZgL:ZhY is ρ x=(is ρ).bind (uQ x):=rfl
theorem ZgK:uQ x xs=.ret (x::xs):=rfl
noncomputable def rA (xs:z9):Tr PyData:=if small xs.length=true then .ret (.tuple xs) else .fail
theorem ZeE:bS is ρ=(is ρ).bind rA:=rfl
theorem ZeD (h:small xs.length=true):rA xs=.ret (.tuple xs):=by unfold rA; rw [if_pos h]
noncomputable def Zdo (xs:z9):Tr PyData:=.ret (.list xs)
theorem ZfR:b6 is ρ=(is ρ).bind Zdo:=rfl
theorem ZfQ:Zdo xs=.ret (.list xs):=rfl
noncomputable def tT (xs:z9):Tr z9:=if small xs.length=true then .ret xs else .fail
theorem ZfT:df is ρ=(is ρ).bind tT:=rfl
theorem ZfS (h:small xs.length=true):tT xs=.ret xs:=by unfold tT; rw [if_pos h]
theorem cj {n:Nat} (h:n<=10000):small n=true:=decide_eq_true (wv h (by decide))
noncomputable def bZ (g:List PyData->Option PyData) (xs:z9):Tr PyData:=Tr.of (g xs)
noncomputable def ni (g:List PyData->Option z9) (xs:z9):Tr z9:=Tr.of (g xs)
theorem ZgX {g:List PyData->Option PyData}:bi g is ρ=(is ρ).bind (bZ g):=rfl
theorem ZgU {g:List PyData->Option z9}:ly g is ρ=(is ρ).bind (ni g):=rfl
theorem ZfX:bZ cN [.list xs]=.ret (.int xs.length):=rfl
theorem ZfV:bZ cN [.tuple xs]=.ret (.int xs.length):=rfl
theorem Zhl (n:Int):bZ j7 [.int n]=.ret (.int (qA n)):=rfl
theorem ZfN (m n:Int):bZ jM [.int m,.int n]=.ret (.int (cf m n)):=rfl
theorem Zgg (n:Int):bZ j4 [.int n]=.ret (.int n):=rfl
theorem Zgh (b:Bool):bZ j4 [.bool b]=.ret (.int (if b then 1 else 0)):=rfl
theorem ZeC:bZ gX [.list xs]=.ret (.tuple xs):=rfl
theorem ZeA:bZ gX [.tuple xs]=.ret (.tuple xs):=rfl
theorem ZfP:ni ir [.list xs]=.ret xs:=rfl
theorem ZfO:ni ir [.tuple xs]=.ret xs:=rfl
theorem ZeN (ns:Aa):bZ dG [.list (ns.map .int)]=.ret (.int ns.sum):=by
 unfold bZ dG fK
 simp
theorem pV (ns:Aa):bZ dG [.tuple (ns.map .int)]=.ret (.int ns.sum):=by
 unfold bZ dG fK
 simp
theorem ZfM (ns:Aa) (h:ns.isEmpty=false):bZ jN [.list (ns.map .int)]=.ret (.int (fu ns)):=by
 have h':ns≠[]:=λz=>by subst z; cases h
 unfold bZ jN fK
 simp [h']
theorem Zhf (ns:List Bool):bZ no [.list (ns.map .bool)]=.ret (.bool (ns.all id)):=by
 unfold bZ no fK
 simp
noncomputable def ZdU (T:String) (x:PyData):Tr PyData:=.ret (.bool (gJ T (fy x)))
theorem Zgf {T:String}:fc T i ρ=(i ρ).bind (ZdU T):=rfl
theorem Zge {T:String}:ZdU T x=.ret (.bool (gJ T (fy x))):=rfl
noncomputable def lQ (x:PyData) (lo:Option Int) (hi:Option Int):Tr PyData:=Tr.of (ZaX x lo hi)
noncomputable def fE (q:gw) (ρ:Af) (x:PyData) (lo:Option Int):Tr PyData:=(q ρ).bind (lQ x lo)
noncomputable def sl1 (p q:gw) (ρ:Af) (x:PyData):Tr PyData:=(p ρ).bind (fE q ρ x)
theorem ZeT {p q:gw}:fw i p q ρ=(i ρ).bind (sl1 p q ρ):=rfl
theorem ZeS {p q:gw}:sl1 p q ρ x=(p ρ).bind (fE q ρ x):=rfl
theorem ZeR {q:gw} {lo:Option Int}:fE q ρ x lo=(q ρ).bind (lQ x lo):=rfl
theorem uy {lo hi:Option Int}:lQ (.list xs) lo hi=.ret (.list (cV xs lo hi)):=rfl
theorem ZeQ {lo hi:Option Int}:lQ (.tuple xs) lo hi=.ret (.tuple (cV xs lo hi)):=rfl
theorem Zfv:fW ρ=.ret none:=rfl
noncomputable def pa1:PyData->Tr (Option Int)
 | .int n=>.ret (some n)
 | _=>.fail
theorem Zfu:eQ i ρ=(i ρ).bind pa1:=by
 unfold eQ
 refine congrArg (Tr.bind (i ρ)) (funext λx=>?_)
 cases x <;> rfl
theorem Zft (n:Int):pa1 (.int n)=.ret (some n):=rfl
noncomputable def rz (xs:z9):Tr PyData:=(Tr.of (l6 xs)).bind λys=>.ret (.tuple ys)
theorem ZeB:vF is ρ=(is ρ).bind rz:=rfl
theorem ux {lo hi:Int} (h:l7 lo hi=true):rz [.int lo,.int hi]=.ret (.tuple (aL lo hi)):=by
 simp [rz,l6,h]
theorem Zho:av ρ=.ret []:=rfl
noncomputable def nA (x:Sl) (xs:Af):Tr Af:=.ret (x::xs)
noncomputable def qD (as:List Sl->Tr Af) (ρ:Af) (x:PyData):Tr Af:=(as ρ).bind (nA (.d x))
theorem Zhp:af i as ρ=(i ρ).bind (qD as ρ):=rfl
theorem Zhr:qD as ρ x=(as ρ).bind (nA (.d x)):=rfl
theorem Zhq {xs:Af}:nA sl xs=.ret (sl::xs):=rfl
noncomputable def kH:Nat->List Sl->Tr Unit
 | 0,.pen::_=>.ret ()
 | k+1,_::ρ=>kH k ρ
 | _,_=>.fail
theorem Zfq:kH 0 (.pen::ρ)=.ret ():=rfl
theorem Zfp:kH (k+1) (sl::ρ)=kH k ρ:=rfl
noncomputable def aap (as:List Sl->Tr Af) (ρ:Af) (_:Unit):Tr Af:=(as ρ).bind (nA .pen)
theorem Zhn:bY k as ρ=(kH k ρ).bind (aap as ρ):=by
 have key:∀ (k:Nat) (σ:Af) (as:List Sl->Tr Af) (ρ:Af),(match σ[k]? with | some Sl.pen=>(as ρ).bind λxs=>Tr.ret (Sl.pen::xs) | _=>Tr.fail)=(kH k σ).bind (aap as ρ):=by
  intro k
  induction k with
  | zero =>
   intro σ as ρ
   cases σ with
   | nil=>rfl
   | cons s r=>cases s <;> rfl
  | succ k ih =>
   intro σ as ρ
   cases σ with
   | nil=>rfl
   | cons s r=>exact ih r as ρ
 exact key k ρ as ρ
theorem Zhm (u:Unit):aap as ρ u=(as ρ).bind (nA .pen):=rfl
theorem ZgY:ay f as ρ=(as ρ).bind f:=rfl
noncomputable def re1 (r:Re):Tr PyData:=.ret r.val
theorem Zfo:aD f ρ=(f ρ).bind re1:=rfl
theorem Zfn (r:Re):re1 r=.ret r.val:=rfl
theorem ZgJ {as:Af} (h:as.length=n):bm n k s as=(s (as++List.replicate k .un)).bind pT:=by
 unfold bm
 rw [if_pos (decide_eq_true h)]
theorem ZgC:pT (.next ρ)=.ret (.d .none):=rfl
theorem ZgB (r:Re):pT (.ret r)=.ret r:=rfl
noncomputable def lT (t:zV):Ou->Tr Ou
 | .next ρ=>t ρ
 | o=>.ret o
theorem Ze6:am s t ρ=(s ρ).bind (lT t):=by
 unfold am
 refine congrArg (Tr.bind (s ρ)) (funext λo=>?_)
 cases o <;> rfl
theorem Ze3:lT t (.next ρ)=t ρ:=rfl
theorem Ze2 (r:Re):lT t (.ret r)=.ret (.ret r):=rfl
theorem Ze5:lT t (.brk ρ)=.ret (.brk ρ):=rfl
theorem Ze4:lT t (.cont ρ)=.ret (.cont ρ):=rfl
theorem ZeU:bI ρ=.ret (.next ρ):=rfl
noncomputable def uh (s t:zV) (ρ:Af) (b:Bool):Tr Ou:=if b=true then s ρ else t ρ
theorem Zgl:bJ p s t ρ=(p ρ).bind (uh s t ρ):=rfl
theorem Zgj:uh s t ρ true=s ρ:=rfl
theorem Zgk:uh s t ρ false=t ρ:=rfl
noncomputable def Zb9 (x:PyData):Tr Ou:=.ret (.ret (.d x))
theorem Zfm:bb i ρ=(i ρ).bind Zb9:=rfl
theorem Zfl:Zb9 x=.ret (.ret (.d x)):=rfl
noncomputable def Zb8 (xs:z9):Tr Ou:=.ret (.ret (.own xs))
theorem Zfk:vI is ρ=(is ρ).bind Zb8:=rfl
theorem Zfj:Zb8 xs=.ret (.ret (.own xs)):=rfl
noncomputable def Zb7 (r:Re):Tr Ou:=.ret (.ret r)
theorem Zfi:jp f ρ=(f ρ).bind Zb7:=rfl
theorem Zfh (r:Re):Zb7 r=.ret (.ret r):=rfl
theorem Zfg:gR 0 (.d x::ρ)=.ret (.ret (.d x)):=rfl
theorem Zff:gR 0 (.own xs::ρ)=.ret (.ret (.own xs)):=rfl
theorem Zfe:gR (k+1) (sl::ρ)=gR k ρ:=rfl
noncomputable def og (k:Nat) (ρ:Af) (x:PyData):Tr Ou:=.ret (.next (ρ.set k (.d x)))
theorem Ze1:aS k i ρ=(i ρ).bind (og k ρ):=rfl
theorem Ze0:og k ρ x=.ret (.next (ρ.set k (.d x))):=rfl
noncomputable def Zbk (k:Nat) (ρ:Af) (x:z9):Tr Ou:=.ret (.next (ρ.set k (.own x)))
theorem ZeZ:jn k is ρ=(is ρ).bind (Zbk k ρ):=rfl
theorem ZeY:Zbk k ρ xs=.ret (.next (ρ.set k (.own xs))):=rfl
theorem Zdq {α:Type} {a b:α} {r:List α}:(a::r).set 0 b=b::r:=rfl
theorem Zdp {α:Type} {a b:α} {r:List α}:(a::r).set (k+1) b=a::r.set k b:=rfl
noncomputable def u8 (g:zZ) (k:Nat) (ρ:Af) (x y:PyData):Tr Ou:=(aV g x y).bind (og k ρ)
noncomputable def Zit (g:zZ) (k:Nat) (i:zS) (ρ:Af) (x:PyData):Tr Ou:=(i ρ).bind (u8 g k ρ x)
theorem Zg6 {g:zZ}:nC g k i ρ=(aa k ρ).bind (Zit g k i ρ):=rfl
theorem Zg5 {g:zZ}:Zit g k i ρ x=(i ρ).bind (u8 g k ρ x):=rfl
theorem Zg4 {g:zZ}:u8 g k ρ x y=(aV g x y).bind (og k ρ):=rfl
theorem Zgt (m n:Int):aV pO (.int m) (.int n)=.ret (.int (m+n)):=rfl
theorem Zgi {m n:Int} (h1:fit m=true) (h2:fit n=true):aV mV (.int m) (.int n)=.ret (.int (m * n)):=by
 simp [aV,mV,h1,h2]
noncomputable def hZ:Nat->List Sl->Tr z9
 | 0,.own xs::_=>.ret xs
 | k+1,_::ρ=>hZ k ρ
 | _,_=>.fail
theorem Zfx:hZ 0 (.own xs::ρ)=.ret xs:=rfl
theorem Zfw:hZ (k+1) (sl::ρ)=hZ k ρ:=rfl
theorem oI {β:Type} {g:List PyData->Tr β}:∀ (k:Nat) (σ:Af),(match σ[k]? with | some (Sl.own xs)=>g xs | _=>Tr.fail)=(hZ k σ).bind g
 | 0,[]=>rfl
 | 0,s::r=>by cases s <;> rfl
 | k+1,[]=>rfl
 | k+1,s::r=>oI k r
noncomputable def qw (k:Nat) (ρ:Af) (xs:z9) (x:PyData):Tr Ou:=if small (xs.length+1)=true then .ret (.next (ρ.set k (.own (xs++[x])))) else .fail
noncomputable def ZiC (k:Nat) (i:zS) (ρ:Af) (xs:z9):Tr Ou:=(i ρ).bind (qw k ρ xs)
theorem Zhb:jq k i ρ=(hZ k ρ).bind (ZiC k i ρ):=oI k ρ
theorem Zha:ZiC k i ρ xs=(i ρ).bind (qw k ρ xs):=rfl
theorem Zg9 (h:small (xs.length+1)=true):qw k ρ xs x=.ret (.next (ρ.set k (.own (xs++[x])))):=by unfold qw; rw [if_pos h]
noncomputable def Zb6 (k:Nat) (ρ:Af) (xs:z9):Tr Ou:=.ret (.next (ρ.set k (.own xs.reverse)))
theorem Zfd:qF k ρ=(hZ k ρ).bind (Zb6 k ρ):=oI k ρ
theorem Zfc:Zb6 k ρ xs=.ret (.next (ρ.set k (.own xs.reverse))):=rfl
theorem Zgu:lu k s ρ=s (fz k ρ):=rfl
theorem Zel:fz 0 (.own xs::ρ)=.d (.list xs)::ρ:=rfl
theorem Zem:fz 0 (.d x::ρ)=.d x::ρ:=rfl
theorem Zek:fz 0 (.pen::ρ)=.pen::ρ:=rfl
theorem Zej:fz 0 (.un::ρ)=.un::ρ:=rfl
theorem Zen:fz (k+1) (sl::ρ)=sl::fz k ρ:=by
 unfold fz
 rw [yJ]
 cases h:ρ[k]? with
 | none=>rfl
 | some s=>cases s <;> rfl
noncomputable def tH (ρ:Af):Tr Ou:=.ret (.next ρ)
noncomputable def Ziv (g:zY) (ρ:Af) (x:PyData):Tr Ou:=(Tr.of (g x ρ)).bind tH
theorem Zg8 {g:zY}:fe g i ρ=(i ρ).bind (Ziv g ρ):=rfl
theorem Zg7 {g:zY}:Ziv g ρ x=(Tr.of (g x ρ)).bind tH:=rfl
theorem ZfB:tH ρ=.ret (.next ρ):=rfl
theorem Zeb:aj k x ρ=some (ρ.set k (.d x)):=rfl
theorem Zd8 {gs:zX}:bA gs (.tuple xs) ρ=gs xs ρ:=rfl
theorem Zed:bx [] ρ=some ρ:=rfl
theorem Zeg {g:zY} {gs:zX}:aJ g gs (x::xs) ρ=(g x ρ).bind (gs xs):=rfl
theorem Zd9 {α β:Type} {a:α} {g:α->Option β}:(some a).bind g=g a:=rfl
noncomputable def ZcP (k n:Nat) (ρ:Af):List PyData->Tr Ou
 | [x,y]=>.ret (.next ((ρ.set k (.d x)).set n (.d y)))
 | _=>.fail
theorem Zfs:iH k n is ρ=(is ρ).bind (ZcP k n ρ):=by
 unfold iH
 refine congrArg (Tr.bind (is ρ)) (funext λxs=>?_)
 match xs with
 | []=>rfl
 | [_]=>rfl
 | [_,_]=>rfl
 | _::_::_::_=>rfl
theorem Zfr:ZcP k n ρ [x,y]=.ret (.next ((ρ.set k (.d x)).set n (.d y))):=rfl
noncomputable def dC (x:PyData):Tr z9:=Tr.of (gI x)
theorem Zgc:dU i ρ=(i ρ).bind dC:=rfl
theorem Zgb:dC (.list xs)=.ret xs:=rfl
theorem Zga:dC (.tuple xs)=.ret xs:=rfl
noncomputable def fG (xs:z9):Tr z9:=Tr.of (l8 xs)
noncomputable def jE (xs:z9):Tr z9:=Tr.of (kA xs)
theorem Zfa:gQ is ρ=(is ρ).bind fG:=rfl
theorem Ze9:qE is ρ=(is ρ).bind jE:=rfl
theorem eZ {n:Int} (h1:-1000000000000<=n) (h2:n<=1000000000000):gk n=true:=decide_eq_true (by omega)
theorem iB {n:Int} (h:gk n=true):fG [.int n]=.ret (aL 0 n):=by
 simp [fG,l8,h]
theorem uA {m n:Int} (h1:gk m=true) (h2:gk n=true):jE [.int m,.int n]=.ret (aL m n):=by
 simp [jE,kA,h1,h2]
noncomputable def q9 (xs:z9) (ys:z9):Tr z9:=.ret (b7 xs ys)
noncomputable def ra (y:PyData) (xs:z9):Tr z9:=(dC y).bind (q9 xs)
noncomputable def rb (x y:PyData):Tr z9:=(dC x).bind (ra y)
noncomputable def Zac (j:zS) (ρ:Af) (x:PyData):Tr z9:=(j ρ).bind (rb x)
theorem Zex:j9 i j ρ=(i ρ).bind (Zac j ρ):=rfl
theorem Zew:Zac j ρ x=(j ρ).bind (rb x):=rfl
theorem Zev:rb x y=(dC x).bind (ra y):=rfl
theorem Zeu:ra y xs=(dC y).bind (q9 xs):=rfl
theorem Zet:q9 xs ys=.ret (b7 xs ys):=rfl
noncomputable def uE (xs:z9):Tr z9:=.ret (eN xs)
noncomputable def Zhy (x:PyData):Tr z9:=(dC x).bind uE
theorem ZgG:lw i ρ=(i ρ).bind Zhy:=rfl
theorem ZgI:Zhy x=(dC x).bind uE:=rfl
theorem ZgH:uE xs=.ret (eN xs):=rfl
noncomputable def Zer (g:zY) (s:zV) (ρ:Af) (xs:z9):Tr Ou:=bV g s xs ρ
theorem Zgz {g:zY}:dg is g s ρ=(is ρ).bind (Zer g s ρ):=rfl
theorem Zgy {g:zY}:Zer g s ρ xs=bV g s xs ρ:=rfl
noncomputable def la (g:zY) (s:zV) (xs:z9):Ou->Tr Ou
 | .next ρ=>bV g s xs ρ
 | .cont ρ=>bV g s xs ρ
 | .brk ρ=>.ret (.next ρ)
 | .ret r=>.ret (.ret r)
noncomputable def lb (g:zY) (s:zV) (xs:z9) (ρ:Af):Tr Ou:=(s ρ).bind (la g s xs)
theorem pS {g:zY}:bV g s [] ρ=.ret (.next ρ):=rfl
theorem eM {g:zY}:bV g s (x::xs) ρ=(Tr.of (g x ρ)).bind (lb g s xs):=by
 rw [bV]
 refine congrArg (Tr.bind (Tr.of (g x ρ))) (funext λρ1=>?_)
 unfold lb
 refine congrArg (Tr.bind (s ρ1)) (funext λo=>?_)
 cases o <;> rfl
theorem gM {g:zY}:lb g s xs ρ=(s ρ).bind (la g s xs):=rfl
theorem fv {g:zY}:la g s xs (.next ρ)=bV g s xs ρ:=rfl
theorem Zgw {g:zY}:la g s xs (.cont ρ)=bV g s xs ρ:=rfl
theorem Zgx {g:zY}:la g s xs (.brk ρ)=.ret (.next ρ):=rfl
theorem Zgv {g:zY} (r:Re):la g s xs (.ret r)=.ret (.ret r):=rfl
noncomputable def cx (g:zY) (el:zS) (τ:Af) (x:PyData):Tr PyData:=(Tr.of (g x τ)).bind el
noncomputable def tX (n:Nat) (ix:List Nat) (g:zY) (el:zS) (ρ:Af) (xs:z9):Tr z9:=if small xs.length=true then bG (cx g el (blk n ix ρ)) xs else .fail
theorem Zf5 {ix:List Nat} {g:zY}:dF is n ix g i ρ=(is ρ).bind (tX n ix g i ρ):=rfl
theorem Zf4 {ix:List Nat} {g:zY} (h:small xs.length=true):tX n ix g i ρ xs=bG (cx g i (blk n ix ρ)) xs:=by unfold tX; rw [if_pos h]
theorem Zf3 {τ:Af} {g:zY}:cx g i τ x=(Tr.of (g x τ)).bind i:=rfl
theorem Zdi {h:PyData->Tr PyData} {n:Nat} {P:PyData->Prop}:∀ {xs:z9},(∀ x∈xs,(h x).all n P)->(bG h xs).all (xs.length * n) λys=>ys.length=xs.length/\∀ y∈ys,P y
 | [],_=>⟨rfl,λy hy=>by cases hy⟩
 | x::xs,hx=>by
  have e:(x::xs).length * n=n+(xs.length * n+0):=by rw [wc,xP]; omega
  rw [e,bG]
  refine Tr.all_bind (hx x (by simp)) λy hy=>Tr.all_bind (Zdi λz hz=>hx z (v3 _ hz)) λys hys=>?_
  exact ⟨by simp [hys.1],λz hz=>by
   rcases wo.mp hz with rfl | hz
   ·exact hy
   ·exact hys.2 z hz⟩
theorem Zeq {g:zY} {n:Nat} (I:List PyData->List Sl->Prop) {Q:Ou->Prop} :
  ∀ {xs pre:z9} {ρ:Af},I pre ρ->(∀ pre x post ρ,pre++x::post=pre++x::post->I pre ρ->x∈xs->∃ ρ1,g x ρ=some ρ1/\(s ρ1).all n λo=>∃ ρ2,o=.next ρ2/\I (pre++[x]) ρ2)->(∀ ρ,I (pre++xs) ρ->Q (.next ρ))->(bV g s xs ρ).all (xs.length * n) Q
 | [],pre,ρ,h0,_,hq=>hq ρ (by rw [w8]; exact h0)
 | x::xs,pre,ρ,h0,ht,hq=>by
  obtain ⟨ρ1,e,ha⟩:=ht pre x xs ρ rfl h0 (by simp)
  have en:(x::xs).length * n=n+xs.length * n:=by rw [wc,xP]; omega
  rw [en,eM,e,Tr.of_some,Tr.ret_bind]
  unfold lb
  refine Tr.all_bind ha λo ⟨ρ2,eo,h2⟩=>?_
  subst eo
  rw [fv]
  exact Zeq I h2 (λpre y post ρ e h hy=>ht pre y post ρ e h (v3 _ hy)) (λρ h=>hq ρ (by rw [xk] at h; exact h))
theorem Zot {α:Type} {w:Int} {k:Int->Tr α} {n:Nat} {P:α->Prop} (h1:0 < w) (h2:w < 1073741824) (h:∀ r,0<=r->r < w->(k r).all n P):(Tr.draw w k).all (n+1) P:=⟨h1,h2,h⟩
noncomputable def tO (y:PyData) (ys:z9):Tr z9:=.ret (y::ys)
noncomputable def mt1 (h:PyData->Tr PyData) (xs:z9) (y:PyData):Tr z9:=(bG h xs).bind (tO y)
theorem Zdb {h:PyData->Tr PyData}:bG h []=.ret []:=rfl
theorem Zdc {h:PyData->Tr PyData} {x:PyData} {xs:z9}:bG h (x::xs)=(h x).bind (mt1 h xs):=rfl
theorem Zde {h:PyData->Tr PyData} {y:PyData} {xs:z9}:mt1 h xs y=(bG h xs).bind (tO y):=rfl
theorem Zdd {y:PyData} {ys:z9}:tO y ys=.ret (y::ys):=rfl
theorem pick {α:Type} {xs:List α} {r:Int} (h0:0<=r) (h1:r < xs.length):∃ v,bf xs r=some v/\v∈xs:=by
 have h:r.toNat < xs.length:=by omega
 exact ⟨xs[r.toNat],dl h0 (by simp [h]),wN h⟩
theorem ZmW {α:Type} {xs:List α} (h:xs.length=7):∃ a b c d e f g,xs=[a,b,c,d,e,f,g]:=by
 rcases xs with _ | ⟨a,_ | ⟨b,_ | ⟨c,_ | ⟨d,_ | ⟨e,_ | ⟨f,_ | ⟨g,_ | ⟨k,xs⟩⟩⟩⟩⟩⟩⟩⟩
 ·cases h
 ·cases h
 ·cases h
 ·cases h
 ·cases h
 ·cases h
 ·cases h
 ·exact ⟨a,b,c,d,e,f,g,rfl⟩
 ·exact absurd h (by simp)
theorem tU {α:Type} {xs:List α} (h:xs.length=3):∃ a b c,xs=[a,b,c]:=by
 match xs,h with
 | [a,b,c],_=>exact ⟨a,b,c,rfl⟩
end L2
namespace L2
@[irreducible] noncomputable def Al {α:Type} (t:Tr α) (n:Nat) (P:α->Prop):Prop:=t.all n P
section
variable {α β:Type} {t:Tr α} {n n' N:Nat} {P:α->Prop} {P':β->Prop}
theorem Al.of (h:t.all n P):Al t n P:=by unfold Al; exact h
theorem Al.out (h:Al t n P):t.all n P:=by unfold Al at h; exact h
theorem ce {a:α} (h:P a):Al (.ret a) n P:=.of h
theorem cG {w:Int} {k:Int->Tr α} (h1:0 < w) (h2:w < 1073741824) (hN:n+1<=N) (h:∀ r,0<=r->r < w->Al (k r) n P):Al (.draw w k) N P:=.of (Tr.all_mono (Zot h1 h2 λr a b=>(h r a b).out) hN λ_ h=>h)
theorem fb {f:α->Tr β} (h:Al t n P) (hN:n+n'<=N) (hf:∀ a,P a->Al (f a) n' P'):Al (t.bind f) N P':=.of (Tr.all_mono (Tr.all_bind h.out λa ha=>(hf a ha).out) hN λ_ h=>h)
theorem vp {Q:α->Prop} (h:Al t n P) (hN:n<=N) (hq:∀ a,P a->Q a):Al t N Q:=.of (Tr.all_mono h.out hN hq)
theorem Zqx {g:zY} {s:zV} {xs:z9} {ρ:Af} {Q:Ou->Prop} (I:List Sl->Prop) (h0:I ρ) (hN:xs.length * n<=N) (ht:∀ x ρ,x∈xs->I ρ->∃ ρ1,g x ρ=some ρ1/\Al (s ρ1) n λo=>∃ ρ2,o=.next ρ2/\I ρ2) (hq:∀ ρ,I ρ->Q (.next ρ)):Al (bV g s xs ρ) N Q :=
 .of (Tr.all_mono (Zeq (λ_ ρ=>I ρ) (pre:=[]) h0 (λpre x post ρ _ h hx=>let ⟨ρ1,e,a⟩:=ht x ρ hx h; ⟨ρ1,e,a.out⟩) λρ h=>hq ρ h) hN λ_ h=>h)
theorem Zqw {h:PyData->Tr PyData} {P:PyData->Prop} {xs:z9} {Q:List PyData->Prop} (hN:xs.length * n<=N) (hx:∀ x∈xs,Al (h x) n P) (hq:∀ ys,ys.length=xs.length->(∀ y∈ys,P y)->Q ys):Al (bG h xs) N Q :=
 .of (Tr.all_mono (Zdi λx m=>(hx x m).out) hN λys ⟨a,b⟩=>hq ys a b)
end
def kZ (lo hi:Int) (x:PyData):Prop:=∃ z:Int,x=.int z/\lo<=z/\z<=hi
theorem ZdX {lo hi:Int}:∀ {xs:z9},(∀ x∈xs,kZ lo hi x)->∃ ns:Aa,xs=ns.map PyData.int/\∀ n∈ns,lo<=n/\n<=hi
 | [],_=>⟨[],rfl,λn hn=>by cases hn⟩
 | x::xs,h=>by
  obtain ⟨ns,e,hn⟩:=ZdX (xs:=xs) λy hy=>h y (v3 _ hy)
  obtain ⟨z,rfl,h1,h2⟩:=h x (by simp)
  exact ⟨z::ns,by rw [e]; rfl,λn hn'=>by
   rcases wo.mp hn' with rfl | hn'
   ·exact ⟨h1,h2⟩
   ·exact hn n hn'⟩
theorem cM {lo hi:Int}:(aL lo hi).length=(hi - lo).toNat:=by unfold aL; rw [vZ,gA]
theorem tw {xs:z9} {lo hi r:Int} (h:∀ x∈xs,kZ lo hi x) (h0:0<=r) (h1:r < xs.length):∃ z:Int,bf xs r=some (.int z)/\lo<=z/\z<=hi:=by
 obtain ⟨v,e,m⟩:=pick h0 h1
 obtain ⟨z,rfl,a,b⟩:=h v m
 exact ⟨z,e,a,b⟩
end L2
set_option Elab.async false
set_option linter.all false
set_option maxRecDepth 100000
namespace L2
variable {PK:Pk} {X:Cx} {a b c e:Expr} {es:List Expr} {pos:Pos} {i j l:zS} {is:zT} {p q:zU} {st:Stmt}
noncomputable def uw:PyData->Bool
 | .none=>true
 | .bool _=>true
 | .int _=>true
 | .str _=>true
 | _=>false
end L2
set_option Elab.async false
set_option linter.all false
set_option maxRecDepth 100000
namespace L2
variable {PK:Pk} {X:Cx} {a b c e:Expr} {es:List Expr} {pos:Pos} {i j l:zS} {as:List Sl->Tr Af}
structure PkLow (PK:Pk):Prop where
 low:∀ {o o':HO} {G G':Hp} {m m':Nat},PK.is o G m->Sub G G'->PK.is o' G' m'->PK.is o' G m'
inductive ArB (pa:Addr) (G H:Hp):V->Sl->Prop
 | ok {v:V} {s:Sl}:ArOk pa G v s->ArB pa G H v s
 | own {p:Addr} {vs:Ad} {xs:z9}:H p=some (.lst vs)->G p=none->pa≠p->DnAll G vs xs->ArB pa G H (.ref p) (.d (.list xs))
inductive ArsB (pa:Addr) (G H:Hp):List V->List Sl->Prop
 | nil:ArsB pa G H [] []
 | cons {v:V} {vs:Ad} {s:Sl} {ss:Af}:ArB pa G H v s->ArsB pa G H vs ss->ArsB pa G H (v::vs) (s::ss)
theorem ArB.step {pa:Addr} {G H G' H':Hp} {v:V} {s:Sl} (h:ArB pa G H v s) (st:Stp pa G H G' H'):ArB pa G' H' v s:=by
 cases h with
 | ok h=>exact .ok (h.mono st.gs)
 | @own p vs xs h1 h2 h3 h4 =>
  refine .own (st.hk _ _ h1 (Ne.symm h3)) ?_ h3 (DnAll.mono st.gs h4)
  cases e:G' p with
  | none=>rfl
  | some u =>
   rcases st.gn p u e with z | z
   ·rw [h2] at z; cases z
   ·rw [h1] at z; cases z
theorem ArsB.ok {pa:Addr} {m:Nat} {G H:Hp}:∀ {vs:Ad} {ss:Af} {G1:Hp},Sub G G1->Wd PK pa m G1 H->ArsB pa G H vs ss->∃ G2,Sub G1 G2/\Wd PK pa m G2 H/\ArsOk pa G2 vs ss
 | _,_,G1,_,w,.nil=>⟨G1,λ_ _ h=>h,w,.nil⟩
 | _,_,G1,sb,w,.cons h t=>by
  obtain ⟨G2,s2,w2,t2⟩:=ArsB.ok sb w t
  cases h with
  | ok h=>exact ⟨G2,s2,w2,.cons (h.mono (sb.trans s2)) t2⟩
  | @own p vs xs h1 h2 h3 h4 =>
   cases e:G2 p with
   | none =>
    have s3:Sub G2 (upd G2 p (.lst vs)):=Sub.new e
    exact ⟨upd G2 p (.lst vs),s2.trans s3,w2.freeze h1 e h3,.cons (.d (.lst cA (DnAll.mono ((sb.trans s2).trans s3) h4))) (ArsOk.mono s3 t2)⟩
   | some u =>
    have:=w2.sub p u e
    rw [h1] at this
    cases this
    exact ⟨G2,s2,w2,.cons (.d (.lst e (DnAll.mono (sb.trans s2) h4))) t2⟩
def TAb (PK:Pk) (i:List Sl->Tr Af):TA:=λσ H Q=>∃ pa Ag H₀ m ρ G,Rl PK pa Ag H₀ m σ ρ G H/\(i ρ).ok m λm' as=>∀ vs G' H',Stp pa G H G' H'->Wd PK pa m' G' H'->ArsB pa G' H' vs as->Q vs H'
theorem TAb.then {σ:St} {H:Hp} {β:Type} {k:List Sl->Tr β} {Z:Nat->β->Prop} {Q:List V->Hp->Prop} {pa:Addr} {Ag H₀ G:Hp} {m:Nat} {ρ:Af} (R:Rl PK pa Ag H₀ m σ ρ G H) (h:((as ρ).bind k).ok m Z)
  (hq:∀ m1 xs vs G1 H1,Stp pa G H G1 H1->Wd PK pa m1 G1 H1->Rl PK pa Ag H₀ m1 σ ρ G1 H1->ArsB pa G1 H1 vs xs->(k xs).ok m1 Z->Q vs H1):TAb PK as σ H Q:=by
 refine ⟨pa,Ag,H₀,m,ρ,G,R,Tr.ok_mono (Tr.ok_bind.mp h) λm1 x hx v G1 H1 s1 w1 d1=>?_⟩
 exact hq m1 x v G1 H1 s1 w1 (R.step s1 w1) d1 hx
theorem qB:PA X [] (TAb PK av):=cm.imp λσ H Q hz0=>by
 obtain ⟨pa,Ag,H₀,m,ρ,G,R,z⟩:=hz0
 exact z [] G H .refl R.wd .nil
noncomputable def j8 (k:Nat) (as:List Sl->Tr Af):List Sl->Tr Af:=λρ=>match ρ[k]? with
 | some (.own xs)=>(as ρ).bind λys=>.ret (.d (.list xs)::ys)
 | some (.d x)=>(as ρ).bind λys=>.ret (.d x::ys)
 | _=>.fail
theorem qC {k:Nat} (ha:PE X e (fA k)) (hr:PA X es (TAb PK as)) (hs:starEach (e::es) X.env=(false,eval e X.env)::starEach es X.env:=by rfl):PA X (e::es) (TAb PK (j8 k as)):=(bp ha hr hs).imp λσ H Q hz0=>by
 obtain ⟨pa,Ag,H₀,m,ρ,G,R,z⟩:=hz0
 unfold j8 at z
 split at z
 ·rename_i xs hk
  obtain ⟨o,h1,h2⟩:=R.sl k _ hk
  cases h2 with
  | @own p vs _ a1 a2 a3 a4 =>
   have hne:pa≠p:=λe=>by
    obtain ⟨u,hu⟩:=R.p0
    rw [e,a3] at hu; cases hu
   refine ⟨_,h1,?_⟩
   refine TAb.then R z λm2 ys ws G2 H2 s2 w2 R2 d2 q2=>?_
   exact q2 _ _ _ s2 w2 (.cons ((ArB.own a1 a2 hne a4).step s2) d2)
 ·rename_i x hk
  obtain ⟨o,h1,h2⟩:=R.sl k _ hk
  cases h2 with
  | d d1 =>
   refine ⟨_,h1,?_⟩
   refine TAb.then R z λm2 ys ws G2 H2 s2 w2 R2 d2 q2=>?_
   exact q2 _ _ _ s2 w2 (.cons (.ok (.d (d1.mono s2.gs))) d2)
 ·exact z.elim
theorem Dn.flat_any {G G':Hp} {v:V} {x:PyData} (h:Dn G v x) (f:uw x=true):Dn G' v x:=by
 cases h with
 | non=>exact .non
 | bl b=>exact .bl b
 | int i=>exact .int i
 | str s=>exact .str s
 | _=>cases f
variable {ρ:Af} {k:Nat} {xs:z9} {x:PyData} {sl:Sl} {f:zW}
noncomputable def jU:Nat->List Sl->Tr PyData
 | 0,.own xs::_=>.ret (.list xs)
 | 0,.d x::_=>.ret x
 | k+1,_::ρ=>jU k ρ
 | _,_=>.fail
theorem ZfY:jU 0 (.own xs::ρ)=.ret (.list xs):=rfl
theorem ZfZ:jU 0 (.d x::ρ)=.ret x:=rfl
theorem ZfW:jU (k+1) (sl::ρ)=jU k ρ:=rfl
theorem ZfU:j8 k as ρ=(jU k ρ).bind (qD as ρ):=by
 have key:∀ (k:Nat) (σ:Af) (as:List Sl->Tr Af) (ρ:Af),(match σ[k]? with | some (.own xs)=>(as ρ).bind λys=>Tr.ret (Sl.d (.list xs)::ys) | some (.d x)=>(as ρ).bind λys=>Tr.ret (Sl.d x::ys) | _=>Tr.fail)=(jU k σ).bind (qD as ρ):=by
  intro k
  induction k with
  | zero =>
   intro σ as ρ
   cases σ with
   | nil=>rfl
   | cons s r=>cases s <;> rfl
  | succ k ih =>
   intro σ as ρ
   cases σ with
   | nil=>rfl
   | cons s r=>exact ih r as ρ
 exact key k ρ as ρ
end L2
set_option Elab.async false
set_option linter.all false
set_option maxRecDepth 100000
namespace L2
theorem Zpr {prog:Program} {w:World} {A:Around} {R:Result->Shared->Prop} {s:Shared} {elt target iter cnd:Expr} {scope:Scope} {pos:Pos} {it acc:Value} {env:Env} (J:Nat->Shared->Prop)
  (step:∀ k s0,J k s0->wpAny (model prog w) A (pyNext it) (λgot s1=>match got with
   | none=>R (.ok .next) s1
   | some v=>wpAny (model prog w) A (letOwnedTupleGo target it v) (λ_ s2=>wpAny (model prog w) A (assign target env v) (λ_ s3=>wpAny (model prog w) A (isTrue cnd env (eval cnd env)) (λok s3'=>if ok=true then wpAny (model prog w) A (eval elt env) (λy s4 =>
     wpAny (model prog w) A (call (.builtin "list.append") [acc,y]) (λ_ s5=>∃ j,j < k/\J j s5) (λ_ _=>False) s4) (λ_ _=>False) s3' else ∃ j,j < k/\J j s3') (λ_ _=>False) s3) (λ_ _=>False) s2) (λ_ _=>False) s1) (λ_ _=>False) s0)
  (k:Nat) (h:J k s):codeAny (model prog w) A (.compLoop (.ListComp elt [⟨target,iter,[cnd],0⟩] scope pos) 0 it acc env) R s:=by
 refine codeAny_loop rfl J (λk0 s0 hJ=>?_) k h
 show wpAny _ _ ((compTurn (.ListComp elt [⟨target,iter,[cnd],0⟩] scope pos) 0 it acc env).onRaise (λx=>do noteFrame x env; theTreesLotGoes x)) _ _ s0
 apply wpAny_noted
 rw [compTurn_list]
 refine wpAny_bind (wpAny_standAt (wpAny_bind (wpAny_mono (step k0 s0 hJ) (λgot s1 h1=>?_) λ_ _ z=>z.elim)))
 cases got with
 | none=>exact wpAny_pure h1
 | some v =>
  refine wpAny_bind (wpAny_mono h1 (λ_ s2 h2=>?_) λ_ _ z=>z.elim)
  refine wpAny_bind (wpAny_mono h2 (λ_ s3 h3=>?_) λ_ _ z=>z.elim)
  refine wpAny_bind (wpAny_mono (wpAny_tests_one h3) (λok s3' h3'=>?_) λ_ _ z=>z.elim)
  cases ok with
  | false=>exact wpAny_pure ⟨rfl,h3'⟩
  | true =>
   refine wpAny_bind (wpAny_bind (wpAny_mono h3' (λy s4 h4=>?_) λ_ _ z=>z.elim))
   exact wpAny_bind (wpAny_mono h4 (λ_ s5 h5=>wpAny_pure (wpAny_pure ⟨rfl,h5⟩)) λ_ _ z=>z.elim)
def rE (wi:TI) (n:Nat) (ix:List Nat) (g:Blk->TG) (tc:Blk->TT) (te:Blk->TE):TE:=λσ H Q=>wi σ H λJ H1=>∀ b:Blk,∃ W:Nat->Nat->St->List V->Hp->Prop,(∃ m,W 0 m (dS n ix σ) [] H1)/\∀ i m τ ys H2,W i m τ ys H2 ->
 (J.stop i H2/\∀ p v H',H2 p=none->v=V.ref p->H'=upd H2 p (.lst ys)->Q v H') \/
 (J.go i H2/\ys.length < sizeLine/\∀ x H3,J.yld i H2 x H3->g b x τ H3 λτ2 H4=>tc b τ2 H4 λok H4'=>if ok=true then te b τ2 H4' λy H5=>∃ m',m' < m/\W (i+1) m' τ2 (ys++[y]) H5 else ∃ m',m' < m/\W (i+1) m' τ2 ys H4')
section
variable {X:Cx} {pins:List (Addr×Obj)} {σ:St} {H:Hp} {s:Shared}
theorem Zm5 {elt target iter cnd:Expr} {scope:Scope} {pos:Pos} {Nx ts:Ac} {ix:List Nat} {g:Blk->TG} {tc:Blk->TT} {te:Blk->TE} {cl:List (Str×Addr)} {s2:Shared} {itv:Value} {R:Value->Addr->Result->Shared->Prop}
  {E:z0} {Q:VK}
  (hc:X.calm=true) (hg:∀ b,PG (cg X (bN Nx ts ix) scope b) target (g b)) (hcn:∀ b,PT (cg X (bN Nx ts ix) scope b) cnd (tc b)) (he:∀ b,PE (cg X (bN Nx ts ix) scope b) elt (te b))
  (hNx:X.N=Nx) (ok:BlkOk Nx X.env.scope scope ix) (cl1:∀ x c,cl.lookup x=some c->X.env.cells.lookup x=some c) (cl2:∀ y∈scope.names,y.2=.free->∃ c,cl.lookup y.1=some c)
  (h2:qQ X pins σ target (λJ H1=>∀ b:Blk,∃ W:Nat->Nat->St->List V->Hp->Prop,(∃ m,W 0 m (dS ts.length ix σ) [] H1)/\∀ i m τ ys H2,W i m τ ys H2 ->
   (J.stop i H2/\∀ p v H',H2 p=none->v=V.ref p->H'=upd H2 p (.lst ys)->Q v H') \/
   (J.go i H2/\ys.length < sizeLine/\∀ x H3,J.yld i H2 x H3->g b x τ H3 λτ2 H4=>tc b τ2 H4 λok H4'=>if ok=true then te b τ2 H4' λy H5=>∃ m',m' < m/\W (i+1) m' τ2 (ys++[y]) H5 else ∃ m',m' < m/\W (i+1) m' τ2 ys H4')) itv s2)
  (hR:∀ (D C:Addr) (H':Hp) (s':Shared) (v:V),Inv X pins σ H' s'->v=.ref D->Q v H'->(∃ m,s'.heap.Ns C m)->H' C=none->C≠X.env.locals->X.s₀.heap.objs.size<=C->(∀ x c,X.env.cells.lookup x=some c->c≠C)->(∀ p∈X.pn++pins,p.1≠C) ->
   R (.ref D) C (.ok .next) s') :
  wpAny (model X.prog X.w) X.A (newList []) (λacc s₃=>wpAny (model X.prog X.w) X.A (newFunctionEnv scope X.env.globals cl [] X.env.qual none .none (some X.env)) (λcenv s₄ =>
   codeAny (model X.prog X.w) X.A (.compStart (.ListComp elt [⟨target,iter,[cnd],0⟩] scope pos) 0 itv acc { cenv with scope:=relabel scope X.env }) (R acc cenv.locals) s₄) E s₃) E s2:=by
 obtain ⟨it,fp,tn,J,H1,e,I2,T,st2,f2,q2⟩:=h2
 subst e
 refine wpAny_newObj_type (Zai ?_)
 dsimp only
 generalize hG:s2.heap.push { cls:=.type "list",dict:=none,data:=.seq ([]:Ab).toArray }=G
 have hGs:G.objs.size=s2.heap.objs.size+1:=by rw [<- hG,wT]
 have hfs:∀ b∈fp,b < s2.heap.objs.size:=λb hb=>let ⟨o,e,_⟩:=T.obj _ _ st2 b hb; wk e
 have kpG:∀ b o,G.get? b=some o->(pushCells (G.push { cls:=.type "dict",data:=.dict #[] }) scope.names).get? b=some o:=λb o e=>pushCells_keeps _ _ _ _ (vY _ e)
 have hns3:(pushCells (G.push { cls:=.type "dict",data:=.dict #[] }) scope.names).Ns G.objs.size (λ_=>none):=(Heap.Ns.new G (.type "dict")).keeps (pushCells_keeps _ _)
 obtain ⟨sp1,sp2,sp4,sp3⟩:=Zh3 scope.names (G.push { cls:=.type "dict",data:=.dict #[] }) cl
 rw [wT] at sp1 sp2 sp3 sp4
 generalize hh3:pushCells (G.push { cls:=.type "dict",data:=.dict #[] }) scope.names=h3 at kpG hns3 sp1 ⊢
 have kp:∀ b o,s2.heap.get? b=some o->h3.get? b=some o:=λb o e=>kpG b o (by rw [<- hG]; exact vY _ e)
 have hD3:h3.get? s2.heap.objs.size=some { cls:=.type "list",data:=.seq ([]:Ab).toArray }:=kpG _ _ (by rw [<- hG]; exact v7 _ rfl)
 have clB:∀ x c,cl.lookup x=some c->c < G.objs.size+1:=λx c e=>by
  obtain ⟨v,q⟩:=I2.cell x c (cl1 x c e)
  exact xU (wb q.lt (by rw [hGs]; exact Nat.le_succ _))
 have csI:=sp3 clB λx y c e1 e2=>I2.ok.inj x y c (cl1 x c e1) (cl1 y c e2)
 have cs1:∀ x c,(cellsFrom (G.objs.size+1) scope.names cl).lookup x=some c->X.env.cells.lookup x=some c\/(G.objs.size < c/\h3.IsCell c none/\(x,NameKind.cell)∈scope.names):=λx c e=>by
  rcases sp1 x c e with z | ⟨z1,z2,z3⟩
  ·exact .inl (cl1 x c z)
  ·exact .inr ⟨by omega,z2,z3⟩
 have cs2:∀ y∈scope.names,(y.2=.free\/y.2=.cell)->∃ c,(cellsFrom (G.objs.size+1) scope.names cl).lookup y.1=some c:=λy hy hk=>by
  refine sp2 y.1 ?_
  rcases hk with z | z
  ·exact .inr (cl2 y hy z)
  ·exact .inl (by rw [<- z]; exact hy)
 have csA:∀ x c,(x,NameKind.cell)∈scope.names->(cellsFrom (G.objs.size+1) scope.names cl).lookup x=some c->G.objs.size<=c:=λx c e1 e2=>yE (sp4 x c e1 e2)
 generalize hcs:cellsFrom (G.objs.size+1) scope.names cl=cs at csI cs1 cs2 csA ⊢
 generalize hCe:G.objs.size=C at hns3 cs1 csA ⊢
 have hC:s2.heap.objs.size<=C:=by omega
 have hDC:s2.heap.objs.size≠C:=by omega
 let B:Blk:=⟨cs,C,s2,H1,fp,X.pn++pins⟩
 have I3:Inv (cg X (bN Nx ts ix) scope B) [] (dS ts.length ix σ) H1 { s2 with heap:=h3 }:=ZdW I2 hNx ok cs1 csI cs2 csA f2 hfs hC kp hns3
 have fC:H1 s2.heap.objs.size=none:=I2.hok.fresh (v4 _)
 have cellIn:∀ x c,cs.lookup x=some c->c≠s2.heap.objs.size:=λx c e=>by
  rcases cs1 x c e with z | ⟨z,_,_⟩
  ·obtain ⟨v,q⟩:=I2.cell x c z
   exact wy q.lt
  ·exact wZ (xz hC z)
 have pinIn:∀ p∈X.pn++pins,p.1 < s2.heap.objs.size:=λp hp=>wk (I2.pin p hp).1
 have nofrs:s2.heap.objs.size ∉ frs X.stack:=λhb=>by
  rcases wo.mp (I2.stkSub _ hb) with z | z
  ·exact absurd I2.lt (by rw [<- z]; exact wF _)
  ·exact I2.nofs (v4 _) z
 -- a state with the list at its place,pinned
 have pinD:∀ {τ:St} {H':Hp} {s':Shared} {ob:Obj},Inv (cg X (bN Nx ts ix) scope B) [] τ H' s'->s'.heap.get? s2.heap.objs.size=some ob->H' s2.heap.objs.size=none->(∀ v,ob.data≠.cell v)->Inv (cg X (bN Nx ts ix) scope B) [(s2.heap.objs.size,ob)] τ H' s' :=
  λ{τ H' s' ob} I' ho hn hd=>I'.pins_of λp hp=>by
   have e:p=(s2.heap.objs.size,ob):=by simpa using hp
   subst e
   exact ⟨ho,hn,hDC,nofrs,hd⟩
 obtain ⟨W,⟨m0,w0⟩,turn⟩:=q2 B
 have stat:∀ {H':Hp} {ob:Obj},(∀ b∈fp,H' b=none)->∀ b∈fp,gx (cg X (bN Nx ts ix) scope B) [(s2.heap.objs.size,ob)] H' b:=λ{H' ob} hn b hb=>by
  refine ⟨hn b hb,wy (wb (hfs b hb) hC),λz=>?_,.inl hb,λx c e=>by
   rcases cs1 x c e with z | ⟨z,_,_⟩
   ·exact (f2 b hb).2.2.2.2.1 x c z
   ·exact wZ (wb (hfs b hb) (wv hC (x0 z))),λp hp=>?_⟩
  ·rcases wo.mp (I2.stkSub _ z) with q | q
   ·exact (f2 b hb).2.1 q
   ·exact (f2 b hb).2.2.1 q
  ·rcases wU.mp hp with z | z
   ·exact (f2 b hb).2.2.2.2.2 p z
   ·have e:p=(s2.heap.objs.size,ob):=by simpa using z
    subst e
    exact wZ (hfs b hb)
 have loop:∀ s4:Shared,s4={ s2 with heap:=h3 } ->
   codeAny (model X.prog X.w) X.A (.compLoop (.ListComp elt [⟨target,iter,[cnd],0⟩] scope pos) 0 (.ref it) (.ref s2.heap.objs.size) (compEnvC scope cs C X.env)) (R (.ref s2.heap.objs.size) C) s4:=by
  rintro s4 rfl
  refine Zpr (λk s'=>∃ i τ ys its n H',Inv (cg X (bN Nx ts ix) scope B) [(s2.heap.objs.size,({ cls:=.type "list",data:=.seq (List.toArray its) n }:Obj))] τ H' s'/\tn i s'.heap/\(∀ b∈fp,H' b=none)/\Vals ys its/\ys.length<=sizeLine/\W i k τ ys H') ?_ m0
   ⟨0,_,[],[],_,H1,pinD I3 hD3 fC (λv z=>by cases z),T.keep _ _ _ st2 λb hb o e=>kp b o e,λb hb=>(f2 b hb).1,.nil,wS _,w0⟩
  rintro k s5 ⟨i,τ,ys,its,n,H5,I5,st5,fr5,rv,hz,w5⟩
  rcases turn i k τ ys H5 w5 with ⟨stop,qn⟩ | ⟨go,hlt,step⟩
  ·refine thn (T.done (cg X (bN Nx ts ix) scope B) rfl rfl rfl hc i _ s5 τ H5 _ I5 (stat fr5) st5 stop) λgot s6 hz0=>?_
   obtain ⟨hr,I6⟩:=hz0
   subst hr
   obtain ⟨ho,hn,_,_,_⟩:=I6.pin (s2.heap.objs.size,({ cls:=.type "list",data:=.seq (List.toArray its) n }:Obj)) (wf _ (by simp))
   have I7:Inv X pins σ H5 s6:=I2.call' (ch:=fp) (H':=H5) (by exact I6.os) I6.base I6.hok I6.bare λb hb=>⟨(f2 b hb).2.2.2.1,(f2 b hb).2.1,(f2 b hb).2.2.2.2.1,(f2 b hb).2.2.2.2.2⟩
   have hs0:X.s₀.heap.objs.size<=s2.heap.objs.size:=I2.sz
   have I8:=I7.track hn ho rv hz (wZ I2.lt) hs0 (λx c e z=>by
    obtain ⟨v,q⟩:=I2.cell x c e
    exact absurd q.lt (by rw [z]; exact wF _)) (λp hp=>wy (pinIn p hp))
   obtain ⟨m6,hm6,_⟩:=I6.loc
   refine hR _ C _ s6 _ I8 rfl (qn _ _ _ hn rfl rfl) ⟨m6,hm6⟩ ?_ (λz=>?_) (wv hs0 hC) (λx c e z=>?_) λp hp=>wy (wb (pinIn p hp) hC)
   ·rw [a9 (Ne.symm hDC)]
    exact I6.free
   ·exact absurd (wb I2.lt hC) (by rw [z]; exact wF _)
   ·obtain ⟨v,q⟩:=I2.cell x c e
    exact absurd (wb q.lt hC) (by rw [z]; exact wF _)
  ·refine thn (T.item (cg X (bN Nx ts ix) scope B) rfl rfl rfl hc i _ s5 τ H5 _ I5 (stat fr5) st5 go) λgot s6 hz0=>?_
   obtain ⟨u,hr,h6⟩:=hz0
   subst hr
   refine thn h6 λ_ s7 hz0=>?_
   obtain ⟨x,H7,I7,r7,y7,st7,fr7⟩:=hz0
   have I7':=I7.pinned (stat fr7) (T.obj _ _ st7)
   refine thn (hg B _ s7 τ H7 x u _ I7' r7 (step x H7 y7)) λ_ s8 hz0=>?_
   obtain ⟨τ8,H8,I8,q8⟩:=hz0
   refine thn (hcn B _ s8 τ8 H8 _ I8 q8) λokk s8' hz0=>?_
   obtain ⟨H8',I8',q8'⟩:=hz0
   cases okk with
   | false =>
    obtain ⟨m',hm',w9⟩:=q8'
    obtain ⟨ho,hn,_,_,_⟩:=I8'.pin (s2.heap.objs.size,({ cls:=.type "list",data:=.seq (List.toArray its) n }:Obj)) (wf _ (xX _ (by simp)))
    have I9':Inv (cg X (bN Nx ts ix) scope B) [] τ8 H8' s8':=I8'.pins_of λp hp=>absurd hp (by simp)
    refine ⟨m',hm',i+1,τ8,ys,its,n,H8',pinD I9' ho hn (λv z=>by cases z),?_,λb hb=>?_,rv,hz,w9⟩
    ·refine T.keep _ _ _ st7 λb hb o e=>?_
     exact (I8'.pin (b,o) (wf _ (wf _ (i6 hb e)))).1
    ·obtain ⟨o,e,d⟩:=T.obj _ _ st7 b hb
     exact (I8'.pin (b,o) (wf _ (wf _ (i6 hb e)))).2.1
   | true =>
   refine thn (he B _ s8' τ8 H8' _ I8' q8') λy s9 hz0=>?_
   obtain ⟨vy,H9,I9,r9,m',hm',w9⟩:=hz0
   obtain ⟨ho,hn,_,_,_⟩:=I9.pin (s2.heap.objs.size,({ cls:=.type "list",data:=.seq (List.toArray its) n }:Obj)) (wf _ (xX _ (by simp)))
   have lenv:=rv.length
   refine wpAny_list_append_plain (l:=s2.heap.objs.size) ⟨n,ho⟩ (λh' hpl hsb=>?_) (by rw [wa]; omega)
   obtain ⟨n',ho'⟩:=hpl
   have eobj:(its.toArray.push y)=List.toArray (its++[y]):=by simp
   rw [eobj] at ho'
   have I9':Inv (cg X (bN Nx ts ix) scope B) [] τ8 H9 s9:=I9.pins_of λp hp=>absurd hp (by simp)
   have I10:Inv (cg X (bN Nx ts ix) scope B) [] τ8 H9 { s9 with heap:=h' }:=I9'.turned (it:=s2.heap.objs.size) (t':=s9.toks) (λb o hb e=>(hsb.2 b hb).trans e) hn hDC (.inr (v4 _)) cellIn (λp hp=>by
    have hp':p∈(X.pn++pins)++[]:=hp
    rw [w8] at hp'
    exact wy (pinIn p hp'))
   refine ⟨m',hm',i+1,τ8,ys++[vy],its++[y],n',H9,pinD I10 ho' hn (λv z=>by cases z),?_,λb hb=>?_,rv.append (.cons r9 .nil),by rw [wu]; show ys.length+1<=_; omega,w9⟩
   ·refine T.keep _ _ _ st7 λb hb o e=>?_
    have q:=(I9.pin (b,o) (wf _ (wf _ (i6 hb e)))).1
    exact (hsb.2 b (wy (hfs b hb))).trans q
   ·obtain ⟨o,e,d⟩:=T.obj _ _ st7 b hb
    exact (I9.pin (b,o) (wf _ (wf _ (i6 hb e)))).2.1
 exact codeAny_compStart_list (loop _ rfl) (T.self X.A 0 _ _ _ (T.keep _ _ _ st2 λb hb o e=>kp b o e) (loop _ rfl))
theorem ZlH {elt target iter cnd:Expr} {scope:Scope} {pos:Pos} {wi:TI} {g:Blk->TG} {tc:Blk->TT} {te:Blk->TE} (Nx:Ac) (ts:Ac) (ix:List Nat)
  (hc:X.calm=true) (hi:PI X target iter wi) (hg:∀ b,PG (cg X (bN Nx ts ix) scope b) target (g b)) (hcn:∀ b,PT (cg X (bN Nx ts ix) scope b) cnd (tc b)) (he:∀ b,PE (cg X (bN Nx ts ix) scope b) elt (te b))
  (hNx:X.N=Nx) (ok:BlkOk Nx X.env.scope scope ix) (hs:∀ x,foldedSetIterable iter X.env x=pure x:=by intro _; rfl) :
  PE X (.ListComp elt [⟨target,iter,[cnd],0⟩] scope pos) (rE wi ts.length ix g tc te):=by
 intro pins s σ H Q I h
 obtain ⟨cl,hcl,cl1,cl2⟩:=uR (scope:=scope) (env:=X.env) λy hy hf=>I.ok.has y.1 (ok.frees y hy hf)
 rw [eval_ListComp]
 refine wpAny_comprehension_free (use:=none) rfl hs hcl ok.kind ok.locs (thn (hi pins s σ H _ I h) λv s1 h1=>thn h1 λitv s2 h2=>?_)
 refine Zm5 (R:=λacc C=>compPost (model X.prog X.w) X.A X.xe none (EP X pins σ Q) acc C) hc hg hcn he hNx ok cl1 cl2 h2 ?_
 rintro D C H' s' v I' rfl q ⟨m,hm⟩ hn hL h0 hcl' hp
 exact ⟨m,hm,λh' hsb=>⟨.ref D,H',I'.turned (it:=C) (t':=s'.toks) (λb o hb e=>(hsb.2 b hb).trans e) hn hL (.inr h0) hcl' hp,rfl,q⟩⟩
end
section
variable {PK:Pk} {X:Cx} {e:Expr} {st:Stmt} {i:zS} {is:zT} {p:zU}
noncomputable def mE (y:Option PyData) (ys:z9):Tr z9:=.ret (match y with
 | some y=>y::ys
 | none=>ys)
noncomputable def gg (h:PyData->Tr (Option PyData)):List PyData->Tr z9
 | []=>.ret []
 | x::xs=>(h x).bind λy=>(gg h xs).bind (mE y)
noncomputable def k7 (p:zU) (i:zS) (τ:Af):Tr (Option PyData):=(p τ).bind λok=>if ok=true then (i τ).bind λy=>.ret (some y) else .ret none
noncomputable def qH (is:zT) (n:Nat) (ix:List Nat) (g:zY) (p:zU) (el:zS):zT:=λρ =>
 (is ρ).bind λxs=>if small xs.length=true then gg (λx=>(Tr.of (g x (blk n ix ρ))).bind (k7 p el)) xs else .fail
theorem Zm4 {n:Nat} {ix:List Nat} {g:zY} (hn:js n g):∀ σ H Q,ff PK (qH is n ix g p i) σ H Q->rE (fX PK is) n ix (λ_=>gT PK g) (λ_=>TAt PK p) (λ_=>TAe PK i) σ H Q:=by
 rintro σ H Q ⟨pa,Ag,H₀,m,ρ,G,R,z⟩
 refine ⟨pa,Ag,H₀,m,ρ,G,R,Tr.ok_mono (Tr.ok_bind.mp z) λm1 xs k J G1 H1 s1 w1 jo=>λB=>?_⟩
 obtain ⟨hs,k⟩:=ic k
 have hs:xs.length<=sizeLine:=of_decide_eq_true hs
 let el:PyData->Tr (Option PyData):=λx=>(Tr.of (g x (blk n ix ρ))).bind (k7 p i)
 let W:Nat->Nat->St->List V->Hp->Prop:=λk mm τ ys H2=>mm=xs.length - k/\k<=xs.length/\ys.length<=k/\∃ m G2 ds,Sub G1 G2/\Stp pa G H G2 H2/\Rl PK pa Ag H₀ m τ (blk n ix ρ) G2 H2 /\
  DnAll G2 ys ds/\(gg el (xs.drop k)).ok m λm' zs=>Ko1 PK pa m' G H (ds++zs) Q
 refine ⟨W,⟨xs.length,rfl,wS _,v4 _,m1,G1,[],.refl,s1,(R.step s1 w1).blk n ix,.nil,k⟩,?_⟩
 rintro k mm τ ys H2 ⟨rfl,hk,hy,m2,G2,ds,sb,st2,R2,dn,k2⟩
 obtain ⟨j1,j2⟩:=jo m2 G2 H2 sb R2.wd
 by_cases hlt:k < xs.length
 ·have hx:xs[k]?=some xs[k]:=by simp [hlt]
  obtain ⟨jg,jy⟩:=j1 k _ hx
  refine .inr ⟨jg,by omega,λx H3 y=>?_⟩
  obtain ⟨G3,s3,w3,d3⟩:=jy x H3 y
  rw [wR hlt] at k2
  unfold gg at k2
  rw [Tr.ok_bind,Tr.ok_bind] at k2
  obtain ⟨ρ3,hg3,k3⟩:=Tr.ok_of k2
  refine ⟨pa,Ag,H₀,m2,_,G3,_,ρ3,R2.step s3 w3,d3,hg3,λτ4 R4=>?_⟩
  obtain ⟨pl,pk⟩:=hn _ _ _ hg3
  have hback:∀ (q:Nat) (sl:Sl),(blk n ix ρ)[q]?=some sl->sl=.un\/ρ3[q]?=some sl:=λq sl hq=>by
   by_cases hqn:q < n
   ·left
    unfold blk at hq
    rw [wQ (by simpa using hqn),wJ,if_pos hqn] at hq
    cases hq
    rfl
   ·right
    rw [pk q (yi hqn)]
    exact hq
  unfold k7 at k3
  rw [Tr.ok_bind] at k3
  refine ⟨pa,Ag,H₀,m2,ρ3,G3,R4,Tr.ok_mono k3 λm4 ok k4 G4 H4 s4 w4=>?_⟩
  have R4':=R4.step s4 w4
  have s34:=s3.trans s4 w3.some
  cases ok with
  | false =>
   have k4':((gg el (xs.drop (k+1))).bind (mE none)).ok m4 λm' zs=>Ko1 PK pa m' G H (ds++zs) Q:=k4
   refine ⟨xs.length - (k+1),by omega,rfl,hlt,by omega,m4,G4,ds,sb.trans s34.gs,st2.trans s34 R2.wd.some,R4'.weak pl hback,DnAll.mono s34.gs dn,?_⟩
   exact Tr.ok_mono (Tr.ok_bind.mp k4') λm6 zs k6=>k6
  | true =>
   have k4':((i ρ3).bind λy=>.ret (some y)).ok m4 λm' y=>((gg el (xs.drop (k+1))).bind (mE y)).ok m' λm' zs=>Ko1 PK pa m' G H (ds++zs) Q:=k4
   rw [Tr.ok_bind] at k4'
   refine ⟨pa,Ag,H₀,m4,ρ3,G4,R4',Tr.ok_mono k4' λm5 yd k5=>?_⟩
   intro v G5 H5 s5 w5 d5
   have s35:=s34.trans s5 w4.some
   refine ⟨xs.length - (k+1),by omega,rfl,hlt,by rw [wu]; show ys.length+1<=_; omega,m5,G5,ds++[yd],sb.trans s35.gs,st2.trans s35 R2.wd.some,(R4'.step s5 w5).weak pl hback,(DnAll.mono s35.gs dn).snoc d5,?_⟩
   have k5':((gg el (xs.drop (k+1))).bind (mE (some yd))).ok m5 λm' zs=>Ko1 PK pa m' G H (ds++zs) Q:=k5
   refine Tr.ok_mono (Tr.ok_bind.mp k5') λm6 zs k6=>?_
   rw [xk]
   exact k6
 ·have e:k=xs.length:=by omega
  subst e
  refine .inl ⟨j2,λp v H' hp ev eH=>?_⟩
  subst ev eH
  rw [yO] at k2
  have k2':Ko1 PK pa m2 G H (ds++[]) Q:=k2
  rw [w8] at k2'
  exact (Ko1.later k2' st2 R2.wd.some).new R2.wd dn hp
theorem Zqt {n:Nat} {ix:List Nat} {g:zY} (h:PE X e (rE (fX PK is) n ix (λ_=>gT PK g) (λ_=>TAt PK p) (λ_=>TAe PK i))) (hn:js n g):PE X e (ff PK (qH is n ix g p i)):=h.imp (Zm4 hn)
end
end L2
set_option Elab.async false
set_option linter.all false
set_option maxRecDepth 100000
namespace L2
section
variable {X:Cx}
section
variable {ρ:Af} {is:zT} {n:Nat} {i:zS} {p:zU} {xs:z9} {x:PyData}
noncomputable def mP (g:zY) (p:zU) (el:zS) (τ:Af) (x:PyData):Tr (Option PyData):=(Tr.of (g x τ)).bind (k7 p el)
noncomputable def tW (n:Nat) (ix:List Nat) (g:zY) (p:zU) (el:zS) (ρ:Af) (xs:z9):Tr z9:=if small xs.length=true then gg (mP g p el (blk n ix ρ)) xs else .fail
theorem Zf0 {ix:List Nat} {g:zY}:qH is n ix g p i ρ=(is ρ).bind (tW n ix g p i ρ):=rfl
theorem Zf2 {ix:List Nat} {g:zY} (h:small xs.length=true):tW n ix g p i ρ xs=gg (mP g p i (blk n ix ρ)) xs:=by unfold tW; rw [if_pos h]
theorem Zf1 {τ:Af} {g:zY}:mP g p i τ x=(Tr.of (g x τ)).bind (k7 p i):=rfl
noncomputable def ui (y:PyData):Tr (Option PyData):=.ret (some y)
noncomputable def uj (i:zS) (τ:Af) (b:Bool):Tr (Option PyData):=if b=true then (i τ).bind ui else .ret none
theorem Zgm {τ:Af}:k7 p i τ=(p τ).bind (uj i τ):=rfl
theorem Zgo {τ:Af}:uj i τ true=(i τ).bind ui:=rfl
theorem Zgp {τ:Af}:uj i τ false=.ret none:=rfl
theorem Zgn:ui x=.ret (some x):=rfl
end
end
end L2
set_option Elab.async false
set_option linter.all false
set_option maxRecDepth 100000
namespace L2
section
variable {PK:Pk} {X:Cx} {e:Expr} {as:List Sl->Tr Af}
noncomputable def slD:List Sl->Option z9
 | []=>some []
 | .d x::r=>(slD r).bind λxs=>some (x::xs)
 | _=>none
theorem ArsOk.slD {pa:Addr} {G:Hp} {vs:Ad} {ss:Af} {ds:z9} (a:ArsOk pa G vs ss) (h:L2.slD ss=some ds):DnAll G vs ds:=by
 induction a generalizing ds with
 | nil=>cases h; exact .nil
 | cons h0 t ih =>
  cases h0 with
  | d h1 =>
   unfold L2.slD at h
   cases e:L2.slD _ with
   | none=>rw [e] at h; cases h
   | some xs =>
    rw [e] at h
    cases h
    exact .cons h1 (ih e)
  | pen=>cases h
noncomputable def mY (d:PyData):Tr PyData:=if uw d=true then .ret d else .fail
noncomputable def lz (f:List PyData->Option PyData) (as:List Sl->Tr Af):zS:=λρ=>(as ρ).bind λss=>(Tr.of ((slD ss).bind f)).bind mY
theorem qz {r:List V->Hp->VK->Prop} {f:List PyData->Option PyData} (L:PkLow PK) (h:PE X e (f7 r (TAb PK as))) (hv:eR r f):PE X e (TAe PK (lz f as)):=h.imp λσ H Q hz0=>by
 obtain ⟨pa,Ag,H₀,m,ρ,G,R,z⟩:=hz0
 refine TAb.then R z λm1 ss vs G1 H1 s1 w1 R1 d1 q1=>?_
 obtain ⟨d,hd,q1⟩:=Tr.ok_of (Tr.ok_bind.mp q1)
 obtain ⟨G2,s2,w2,d2⟩:=ArsB.ok (λ_ _ h=>h) w1 d1
 cases e:slD ss with
 | none=>rw [e] at hd; cases hd
 | some ds =>
  rw [e] at hd
  unfold mY at q1
  obtain ⟨hf,k⟩:=ic (c:=uw d) q1
  refine hv PK pa m1 G2 H1 vs ds d Q w2 (ArsOk.slD d2 e) hd ?_
  intro v G3 H3 s3 w3 d3
  have s13:Stp pa G1 H1 G1 H3:=⟨λ_ _ h=>h,λ_ _ h=>.inl h,s3.hk⟩
  obtain ⟨o1,e1,p1⟩:=w1.pen
  obtain ⟨o3,e3,p3⟩:=w3.pen
  have w13:Wd PK pa m1 G1 H3:=⟨λb o h=>s3.hk b o (w1.sub b o h) (λz=>by subst z; rw [w1.gpa] at h; cases h),w1.gpa,o3,e3,L.low p1 (s2.trans s3.gs) p3⟩
  exact k v G1 H3 (s1.trans s13 w1.some) w13 (Dn.flat_any d3 hf)
end
section
variable {ρ:Af} {as:List Sl->Tr Af} {f:List PyData->Option PyData} {x:PyData} {xs:z9} {i j:zS} {k:Nat} {p:zU} {s:zV}
noncomputable def Zh5 (f:List PyData->Option PyData) (ss:Af):Tr PyData:=(Tr.of ((slD ss).bind f)).bind mY
theorem ZgW:lz f as ρ=(as ρ).bind (Zh5 f):=rfl
theorem ZgV:Zh5 f [.d x]=(bZ f [x]).bind mY:=rfl
theorem ZgA (n:Int):mY (.int n)=.ret (.int n):=rfl
noncomputable def lR (k:Nat) (ρ:Af) (x:PyData) (xs:z9):PyData->Tr Ou
 | .int y=>(Tr.of (de xs.length y)).bind λt=>.ret (.next (ρ.set k (.own (xs.set t x))))
 | _=>.fail
noncomputable def rQ (k:Nat) (n:zS) (ρ:Af) (x:PyData) (xs:z9):Tr Ou:=(n ρ).bind (lR k ρ x xs)
noncomputable def rR (k:Nat) (n:zS) (ρ:Af) (x:PyData):Tr Ou:=(hZ k ρ).bind (rQ k n ρ x)
theorem ZeX:lr k j i ρ=(i ρ).bind (rR k j ρ):=by
 unfold lr
 refine congrArg (Tr.bind (i ρ)) (funext λx=>?_)
 rw [rR,<- oI k ρ]
 cases ρ[k]? with
 | none=>rfl
 | some sl =>
  cases sl with
  | own xs =>
   show ((j ρ).bind _:Tr Ou)=(j ρ).bind (lR k ρ x xs)
   refine congrArg (Tr.bind (j ρ)) (funext λy=>?_)
   cases y <;> rfl
  | _=>rfl
theorem ZeW {n:zS}:rR k n ρ x=(hZ k ρ).bind (rQ k n ρ x):=rfl
theorem ZeV {n:zS}:rQ k n ρ x xs=(n ρ).bind (lR k ρ x xs):=rfl
theorem uz {y:Int} {t:Nat} (h:de xs.length y=some t):lR k ρ x xs (.int y)=.ret (.next (ρ.set k (.own (xs.set t x)))):=by
 simp only [lR,h]
 rfl
end
end L2
set_option Elab.async false
set_option linter.all false
set_option maxRecDepth 100000
namespace L2
open AutoSeq1 (wpAny_loadPart')
noncomputable def lC (hi:Int) (n:Nat):It:=⟨λi _=>i < n,λi H x H'=>H'=H/\x=.int (hi - i),λi _=>n<=i⟩
theorem Zjc {P:Program} {w:World} {K:zR} {tg:Expr} (it:Addr) (hi:Int) (n:Nat):Turn P w K tg (lC hi n) [it] it (λi h=>IsRangeIter h it (hi+(i:Nat) * (-1)) ((n:Int) - (i:Nat)) (-1)) where
 mem:=by simp
 obj:=λi h st b hb=>by
  have e:b=it:=by simpa using hb
  subst e
  exact ⟨_,st,λv z=>by
   have z':Data.fields _=Data.cell v:=z
   cases z'⟩
 keep:=λi h h' st k=>k it (by simp) _ st
 item:=by
  intro X hP hw hK hc i pins s σ H E I hf st hg
  subst hP hw hK
  obtain ⟨f0,f1,f2,f3,f4,f5⟩:=hf it (by simp)
  have W:=Walks.range (prog:=X.prog) (w:=X.w) (I.ok.hd hc) it hi (-1) n
  refine W.item i s _ _ hg st λv h' tk hv st' kk=>?_
  obtain ⟨t,rfl⟩:=hv
  have I1:Inv X pins σ H { s with heap:=h',toks:=tk }:=I.turned (λb o hb e=>kk b o (by simpa using hb) e) f0 f1 f3 f4 f5
  refine ⟨_,rfl,mW (s:={ s with heap:=h',toks:=tk }) (n:="range_iterator") st' rfl rfl (by decide) ⟨.int (hi - i),H,I1,⟨t,?_⟩,⟨rfl,rfl⟩,st',λb hb=>(hf b hb).1⟩⟩
  have e:hi+(i:Int) * -1=hi - i:=by omega
  rw [e]
 done:=by
  intro X hP hw hK hc i pins s σ H E I hf st hg
  subst hP hw hK
  obtain ⟨f0,f1,f2,f3,f4,f5⟩:=hf it (by simp)
  exact wpAny_pyNext_range_end (I.ok.hd hc) st (by have:n<=i:=hg; omega) λh' eb=>⟨rfl,I.turned (t':=s.toks) (λb o hb e=>eb b o hb e) f0 f1 f3 f4 f5⟩
 self:=λ_ _ _ _ _ st h=>wpAny_pyIter_rangeiter st h
theorem ZmG (r:Addr) (a b c:Int) (t u v:Tok) (hs:¬ (!(Builtin.Range.rangeFitsLong a && Builtin.Range.rangeFitsLong b && Builtin.Range.rangeFitsLong c && Builtin.Range.rangeFitsLong (-c) && Builtin.Range.rangeFitsLong (a - c) && Builtin.Range.rangeFitsLong (Builtin.Range.rangeSize a b c)))=true) :
  Meets (Builtin.«range.__reversed__» ⟨[.ref r],[]⟩) (λ_ R s=>s.heap.get? r=some { cls:=.type "range",dict:=none,data:=.fields #[.int a t,.int b u,.int c v],slots:=#[] } /\
   R (.ok (.ret (.ref s.heap.objs.size))) { s with heap:=s.heap.push { cls:=.type "range_iterator",data:=.fields #[rawInt (a+(Builtin.Range.rangeSize a b c - 1) * c),rawInt (Builtin.Range.rangeSize a b c),rawInt (-c)] },toks:=s.toks }) :=
 .of_wp λprog w A R s h=>by
  obtain ⟨hp,g,d,tk,os⟩:=s
  obtain ⟨hl,h⟩:=h
  have hs':=hs
  rw [yH,Bool.not_eq_false] at hs'
  wp_walk
  rw [if_pos hs']
  exact ⟨_,rfl,h⟩
theorem lc {n:Int} (h1:-(2 ^ 63)<=n) (h2:n < 2 ^ 63):Builtin.Range.rangeFitsLong n=true:=by
 unfold Builtin.Range.rangeFitsLong
 simp
 omega
section
variable {prog:Program} {w:World} {A:Around} {E:z0} {s:Shared}
theorem Zpu {r:Addr} {a b:Int} {t u v:Tok} {Q₁:z0} (hr:IsRange s.heap r a b 1 t u v) (ha:-(2 ^ 62)<=a) (ha':a < 2 ^ 62) (hb:-(2 ^ 62)<=b) (hb':b < 2 ^ 62)
  (h:Q₁ (.ref s.heap.objs.size) { s with heap:=s.heap.push { cls:=.type "range_iterator",data:=.fields #[rawInt (a+(Builtin.Range.rangeSize a b 1 - 1) * 1),rawInt (Builtin.Range.rangeSize a b 1),rawInt (-1)] } }) :
  codeAny (model prog w) A (.call (.builtin "reversed.__new__") ⟨[.type "reversed",.ref r],[]⟩) (wants Q₁ E) s:=by
 have hT:s.TypeIs (.ref r) "range":=⟨_,hr,rfl⟩
 refine codeAny_of_tree ?_
 show wpAny _ A.in1 (do checkBuiltinCall "reversed.__new__" ⟨[.type "reversed",.ref r],[]⟩; again (.builtin "reversed.__new__" ⟨[.type "reversed",.ref r],[]⟩)) _ _ s
 refine wpAny_bind (wpAny_of_eq (F.newCall_reversed_1 _) (wpAny_pure ⟨plainId_quiet F.plain_reversed_new _,codeAny_builtin F.entry_reversed_new ?_⟩))
 rw [xv F.plain_reversed_new _]
 unfold Builtin.«reversed.__new__»
 refine wpAny_bind (wpAny_of_eq (newClass_reversed _) ?_)
 try dsimp only
 refine wpAny_bind (wpAny_of_eq (a:=()) (by first | rfl | kernel_rfl) ?_)
 refine wpAny_bind (wpAny_of_eq (a:=()) (by first | rfl | kernel_rfl) ?_)
 try dsimp only
 refine wpAny_bind (wpAny_specialOf hT F.slot_range_reversed.lookup ?_)
 try dsimp only
 refine wpAny_bind (wpAny_of_eq (F.slot_range_reversed.bind _) ?_)
 try dsimp only
 first
 | rw [if_neg (show ¬ ((Value.builtin "range.__reversed__" == Value.none)=true) from wj)]
 | (show wpAny _ _ (if (Value.builtin "range.__reversed__" == Value.none)=true then _ else _) _ _ _; rw [if_neg (show ¬ ((Value.builtin "range.__reversed__" == Value.none)=true) from wj)])
 refine wpAny_bind (wpAny_rule ?_)
 have hsz:Builtin.Range.rangeSize a b 1=if a < b then b - a else 0:=rangeSize_one a b
 refine wpAny_bind (m:=runValue (.call (.builtin "range.__reversed__") ⟨[.ref r],[]⟩)) (show wpAny _ _ (call (.builtin "range.__reversed__") [.ref r]) _ _ _ from
  call_meets F.slot_range_reversed hT F.entry_range_reversed (F.args_range_reversed_1 _) (ZmG r a b 1 t u v ?_) ⟨hr,?_⟩)
 ·rw [yH,Bool.not_eq_false,lc (by omega) (by omega),lc (by omega) (by omega),lc (by decide) (by decide),lc (by decide) (by decide),lc (n:=a - 1) (by omega) (by omega),lc (n:=Builtin.Range.rangeSize a b 1) (by rw [hsz]; split <;> omega) (by rw [hsz]; split <;> omega)]
  rfl
 ·first
  | exact wpAny_pure h
  | exact wpAny_bind (wpAny_pure (wpAny_pure h))
theorem ZjY:isSubtype (.type "range_iterator") (.type "reversed")=pure false:=by rw [isSubtype_type]; kernel_rfl
theorem ZpD {r:Addr} {a b:Int} {t u v:Tok} {Q:z0} (hr:IsRange s.heap r a b 1 t u v) (ha:-(2 ^ 62)<=a) (ha':a < 2 ^ 62) (hb:-(2 ^ 62)<=b) (hb':b < 2 ^ 62)
  (h:Q (.ref s.heap.objs.size) { s with heap:=s.heap.push { cls:=.type "range_iterator",data:=.fields #[rawInt (a+(Builtin.Range.rangeSize a b 1 - 1) * 1),rawInt (Builtin.Range.rangeSize a b 1),rawInt (-1)] } }):wpAny (model prog w) A (call (.type "reversed") [.ref r]) Q E s:=by
 refine callType_other (U:="range_iterator") (Q₁:=λobj s₁=>obj=.ref s.heap.objs.size/\s₁={ s with heap:=s.heap.push { cls:=.type "range_iterator",data:=.fields #[rawInt (a+(Builtin.Range.rangeSize a b 1 - 1) * 1),rawInt (Builtin.Range.rangeSize a b 1),rawInt (-1)] } }) (by trivial) F.create_reversed ⟨_,_,F.mro_reversed⟩ F.made_reversed ZjY (F.typeCall_reversed_1 _) (Zpu hr ha ha' hb hb' ⟨rfl,rfl⟩) ?_
 rintro obj s₁ ⟨rfl,rfl⟩
 exact ⟨⟨_,v7 _ rfl,rfl⟩,h⟩
end
theorem ZcR:Manifest.owners.lookup (String.ofList ['d','e','s','r','e','v','e','r'].reverse)=some Manifest.sig_reversed:=by kernel_rfl
theorem Zj5:Slot "reversed" "__init__" "object.__init__" :=
 .of (owner:="object") (n:="__init__") (by rw [typeLookup_type,builtinLookup_eq_fast]; kernel_rfl) (by trivial) (by trivial) (by trivial)
  (by first | exact .inl (by trivial) | exact .inr (by trivial)) (by rw [isSubtype_type]; kernel_rfl)
theorem lP:Slot "reversed" "__next__" "reversed.__next__" :=
 .of (owner:="reversed") (n:="__next__") (by rw [typeLookup_type,builtinLookup_eq_fast]; kernel_rfl) (by trivial) (by trivial) (by trivial)
  (by first | exact .inl (by trivial) | exact .inr (by trivial)) (by rw [isSubtype_type]; kernel_rfl)
theorem Zhz:entryFor table "reversed.__next__"=some Builtin.«reversed.__next__»:=entryFor_of_tree (by kernel_rfl)
theorem ZiA (a:Value):argsOk "reversed.__next__" ⟨[a],[]⟩:=by
 unfold argsOk; rw [signature?_of (id:="reversed.__next__") (n:=['_','_','t','x','e','n','_','_']) (o:=['d','e','s','r','e','v','e','r']) (by kernel_rfl) ZcR]; kernel_rfl
theorem ZaV:Slot "reversed" "__iter__" "reversed.__iter__" :=
 .of (owner:="reversed") (n:="__iter__") (by rw [typeLookup_type,builtinLookup_eq_fast]; kernel_rfl) (by trivial) (by trivial) (by trivial)
  (by first | exact .inl (by trivial) | exact .inr (by trivial)) (by rw [isSubtype_type]; kernel_rfl)
theorem Zqp (a:Value):argsOk "reversed.__iter__" ⟨[a],[]⟩:=by
 unfold argsOk; rw [signature?_of (id:="reversed.__iter__") (n:=['_','_','r','e','t','i','_','_']) (o:=['d','e','s','r','e','v','e','r']) (by kernel_rfl) ZcR]; kernel_rfl
theorem Zn7:entryFor table "reversed.__iter__"=some Builtin.«dict_keyiterator.__iter__» :=
 entryFor_alias (id':="dict_keyiterator.__iter__") (by kernel_rfl) (by first | rfl | decide +kernel | (unfold String.splitOn; simp +decide [String.splitOnAux])) (by trivial) (by kernel_rfl)
theorem Zpz:TypeCalled "reversed" "reversed.__new__" "object.__init__" :=
 ⟨by trivial,by trivial,⟨_,_,F.mro_reversed⟩,F.made_reversed,by trivial,by rw [isSubtype_type]; kernel_rfl,Zj5⟩
theorem Zmk:typeLookup (.type "tuple") "__reversed__"=pure none:=by rw [typeLookup_type,builtinLookup_eq_fast]; kernel_rfl
theorem ZmF (l:Addr) (items:Array Value) (hfit:(items.size:Int) < 2 ^ 63) :
  Meets (Builtin.«reversed.__new__» ⟨[.type "reversed",.ref l],[]⟩) (λ_ R s=>IsTup s.heap l items /\
   R (.ok (.ret (.ref s.heap.objs.size))) { s with heap:=s.heap.push { cls:=.type "reversed",data:=.fields #[.ref l,rawInt ((items.size:Int) - 1)] },toks:=s.toks+1+1 }) :=
 .of_wp λprog w A R s h=>by
  obtain ⟨hp,g,d,tk,os⟩:=s
  obtain ⟨hl,h⟩:=h
  have hl':(Shared.mk hp g d tk os).heap.IsTuple l items:=hl
  unfold Builtin.«reversed.__new__»
  refine wpAny_bind (wpAny_of_eq (newClass_reversed _) ?_)
  try dsimp only
  refine wpAny_bind (wpAny_of_eq (a:=()) (by first | rfl | kernel_rfl) ?_)
  refine wpAny_bind (wpAny_of_eq (a:=()) (by first | rfl | kernel_rfl) ?_)
  try dsimp only
  refine wpAny_bind (wpAny_specialOf hl'.typeIs Zmk ?_)
  try dsimp only
  refine wpAny_bind ?_
  show wpAny _ _ (isInstance (Value.ref l) (.type "dict") >>= _) _ _ _
  refine wpAny_bind (wpAny_isInstance (T:="tuple") (b:=false) hl'.typeIs (by rw [isSubtype_type]; kernel_rfl) ?_)
  show wpAny _ _ (specialOf (Value.ref l) "__getitem__" >>= _) _ _ _
  refine wpAny_bind (wpAny_specialOf hl'.typeIs F.slot_tuple_getitem.lookup ?_)
  refine wpAny_pure ?_
  show wpAny _ _ (call (Value.builtin "len") [Value.ref l] >>= _) _ _ _
  refine wpAny_bind (len_tuple hl hfit ?_)
  refine wpAny_bind (wpAny_of_eq (a:=some (items.size:Int)) rfl ?_)
  show wpAny _ _ (newObj (.type "reversed") (.fields #[.ref l,rawInt ((items.size:Int) - 1)]) >>= _) _ _ _
  refine wpAny_bind (wpAny_newObj_type ?_)
  exact wpAny_pure ⟨_,rfl,h⟩
def IsTRev (h:Heap) (a l:Addr) (i:Int):Prop:=∃ o,h.get? a=some o/\o.cls=.type "reversed"/\o.data=.fields #[.ref l,rawInt i]
theorem IsTRev.at {h h':Heap} {a l:Addr} {i:Int} (x:IsTRev h a l i) (e:∀ o,h.get? a=some o->h'.get? a=some o):IsTRev h' a l i:=let ⟨o,ho,r⟩:=x; ⟨o,e _ ho,r⟩
section
variable {prog:Program} {w:World} {A:Around} {E:z0} {s:Shared}
theorem ZpC {l:Addr} {items:Array Value} {Q:z0} (hl:IsTup s.heap l items) (hfit:(items.size:Int) < 2 ^ 63)
  (h:Q (.ref s.heap.objs.size) { s with heap:=s.heap.push { cls:=.type "reversed",data:=.fields #[.ref l,rawInt ((items.size:Int) - 1)] },toks:=s.toks+1+1 }) :
  wpAny (model prog w) A (call (.type "reversed") [.ref l]) Q E s :=
 callType_new Zpz (by decide) (F.typeCall_reversed_1 _) (F.newCall_reversed_1 _) (λobj=>zg obj _) F.entry_reversed_new (ZmF l items hfit) ⟨hl,⟨_,v7 _ rfl,rfl⟩,h⟩
theorem Zk6 {it l:Addr} {i:Nat} {items:Array Value} {x:Value} {Q:Option Value->Shared->Prop} (hit:IsTRev s.heap it l (i:Int)) (hl:IsTup s.heap l items) (hne:l≠it) (hx:items[i]?=some x) (hfit:(items.size:Int) < 2 ^ 63)
  (hQ:∀ h',IsTRev h' it l ((i:Int) - 1)->Heap.SameBut it s.heap h'->Q (some x) { s with heap:=h',toks:=s.toks+1 }):wpAny (model prog w) A (pyNext (.ref it)) Q E s:=by
 obtain ⟨o,ho,hc,hd⟩:=id hit
 have hT:s.TypeIs (.ref it) "reversed":=⟨o,ho,hc⟩
 have hl':s.heap.IsTuple l items:=hl
 have hlt:i < items.size:=(zy.mp hx).1
 unfold pyNext
 refine wpAny_bind (wpAny_attempt (wpAny_callSpecial?_slot (name:=Str.ofString "__next__") hT lP
  (wpAny_call_entry lP hT Zhz ?_ (ZiA _))))
 unfold Builtin.«reversed.__next__»
 refine wpAny_bind (wpAny_of_eq (a:=(Value.ref it,[])) rfl ?_)
 try dsimp only
 refine wpAny_bind (wpAny_field ho hd (x:=.ref l) rfl ?_)
 refine wpAny_bind (wpAny_field ho hd (x:=rawInt (i:Int)) rfl ?_)
 show wpAny _ _ (if (i:Int) < 0 then _ else _) _ _ s
 rw [if_neg (by omega)]
 refine wpAny_bind (wpAny_specialOf hl'.typeIs F.slot_tuple_getitem.lookup ?_)
 show wpAny _ _ (mkInt (i:Int) >>= _) _ _ s
 refine wpAny_bind (wpAny_mkInt ?_)
 refine wpAny_bind (wpAny_attempt (getItem_tuple (j:=i) (x:=x) hl (by omega) (by omega) ?_ hx ?_))
 ·unfold seqIndex?
  simp
  omega
 ·dsimp only
  refine wpAny_bind (wpAny_field ho hd (x:=rawInt (i:Int)) rfl ?_)
  show wpAny _ _ (setField (.ref it) 1 (rawInt ((i:Int) - 1)) >>= _) _ _ _
  refine wpAny_bind (wpAny_setField ho hd (by simp) ?_)
  refine wpAny_pure ⟨x,rfl,wpAny_pure (hQ _ ?_ (yb ..))⟩
  exact ⟨_,xL _ ho (za (xV hd _)),(Obj.cls_mapFields ..).trans hc,by
   rw [xV hd]; simp⟩
theorem Zk7 {it l:Addr} {Q:Option Value->Shared->Prop} (hh:A.handled=none) (hit:IsTRev s.heap it l (-1))
  (hQ:∀ h',Heap.ExtBut it s.heap h'->Q none { s with heap:=h' }):wpAny (model prog w) A (pyNext (.ref it)) Q E s:=by
 obtain ⟨o,ho,hc,hd⟩:=id hit
 have hT:s.TypeIs (.ref it) "reversed":=⟨o,ho,hc⟩
 unfold pyNext
 refine wpAny_bind (wpAny_attempt (wpAny_callSpecial?_slot (name:=Str.ofString "__next__") hT lP
  (wpAny_call_entry lP hT Zhz ?_ (ZiA _))))
 unfold Builtin.«reversed.__next__»
 refine wpAny_bind (wpAny_of_eq (a:=(Value.ref it,[])) rfl ?_)
 try dsimp only
 refine wpAny_bind (wpAny_field ho hd (x:=.ref l) rfl ?_)
 refine wpAny_bind (wpAny_field ho hd (x:=rawInt (-1)) rfl ?_)
 show wpAny _ _ (if (-1:Int) < 0 then _ else _) _ _ s
 rw [if_pos (by decide)]
 refine wpAny_bind (wpAny_rule ?_)
 refine wpAny_bind ?_
 show wpAny _ _ (setField (.ref it) 1 (rawInt (-1)) >>= _) _ _ _
 refine wpAny_bind (wpAny_setField ho hd (by simp) ?_)
 have ho2:=xL (Obj.mapFields λx_1=>x_1.setIfInBounds 1 (rawInt (-1))) ho (za (xV hd _))
 refine wpAny_setField ho2 (xV hd _) (by simp) ?_
 have eb:Heap.ExtBut it s.heap ((s.heap.update it (Obj.mapFields λx_1=>x_1.setIfInBounds 1 (rawInt (-1)))).update it (Obj.mapFields λx_1=>x_1.setIfInBounds 0 Value.none)):=λb o' hb e=>(yb _ _ _).extBut b o' hb ((yb _ _ _).extBut b o' hb e)
 show wpAny _ _ (newExc (.type "StopIteration") [] >>= _ >>= _) _ _ _
 refine wpAny_bind ?_
 refine wpAny_bind ?_
 simp only [newExc,newTuple]
 refine wpAny_bind (wpAny_newObj_type ?_ (by size_fits))
 refine wpAny_bind (m:=firstArgMember _ _) (wpAny_of_eq (a:=Value.none) (by first | rfl | (simp only [firstArgMember]; rfl)) ?_)
 refine wpAny_newObj_type ?_ (by size_fits)
 simp only [raiseNew]
 refine wpAny_bind (wpAny_handled ?_)
 first | rw [show A.in1.handled=none from hh] | rw [hh]
 refine wpAny_bind (wpAny_pure (wpAny_throw ?_))
 refine wpAny_bind (wpAny_isInstance (T:="StopIteration") (b:=true) ⟨_,v7 _ rfl,rfl⟩ isSubtype_stop ?_)
 exact wpAny_pure (hQ _ ((eb.push _).push _))
theorem ZcA {it l:Addr} {i:Int} {Q:z0} (hit:IsTRev s.heap it l i) (h:Q (.ref it) s):wpAny (model prog w) A (pyIter (.ref it)) Q E s:=by
 obtain ⟨o,ho,hc,hd⟩:=id hit
 have hT:s.TypeIs (.ref it) "reversed":=⟨o,ho,hc⟩
 refine wpAny_pyIter_slot hT ZaV (wpAny_call_entry ZaV hT Zn7 ?_ (Zqp _))
 show wpAny _ _ (ret (.ref it)) _ _ s
 exact wpAny_pure ⟨_,rfl,"reversed",_,hT,lP.lookup,h⟩
end
noncomputable def nP (b:Bool) (l:Addr) (n:Nat):It :=
 ⟨λi H=>i < n/\∃ xs,H l=some (bq b xs)/\xs.length=n,λi H x H'=>H'=H/\∃ xs,H l=some (bq b xs)/\xs[n - 1 - i]?=some x,λi _=>i=n⟩
def RvAt (b:Bool) (h:Heap) (it l:Addr) (i:Int):Prop:=match b with
 | true=>h.IsRevIter it l i
 | false=>IsTRev h it l i
theorem RvAt.there {b:Bool} {h:Heap} {it l:Addr} {i:Int} (x:RvAt b h it l i):∃ o n vs,h.get? it=some o/\o.cls=.type n/\o.data=.fields vs/\["enumerate","zip","dict_itemiterator","dict_reverseitemiterator","odict_iterator","itertools.zip_longest","itertools.pairwise"].contains n=false:=by
 cases b with
 | true=>obtain ⟨o,h1,h2,h3⟩:=x; exact ⟨o,_,_,h1,h2,h3,by decide⟩
 | false=>obtain ⟨o,h1,h2,h3⟩:=x; exact ⟨o,_,_,h1,h2,h3,by decide⟩
theorem RvAt.at {b:Bool} {h h':Heap} {it l:Addr} {i:Int} (x:RvAt b h it l i) (e:∀ o,h.get? it=some o->h'.get? it=some o):RvAt b h' it l i:=by
 cases b with
 | true=>exact Heap.IsRevIter.at x e
 | false=>exact IsTRev.at x e
theorem Zaq {P:Program} {w:World} {K:zR} {tg:Expr} {b:Bool} {l:Addr} {n:Nat} (it:Addr) (hn:(n:Int) < 2 ^ 63):Turn P w K tg (nP b l n) [it] it (λi h=>RvAt b h it l ((n:Int) - 1 - (i:Nat))) where
 mem:=by simp
 obj:=λi h st c hb=>by
  have e:c=it:=by simpa using hb
  subst e
  obtain ⟨o,_,_,h1,_,h3,_⟩:=st.there
  exact ⟨o,h1,λv z=>by rw [h3] at z; cases z⟩
 keep:=λi h h' st k=>st.at λo e=>k it (by simp) o e
 item:=by
  intro X hP hw hK hc i pins s σ H E I hf st hg
  subst hP hw hK
  obtain ⟨hi,xs,e1,hlen⟩:=hg
  obtain ⟨us,r1,q1⟩:=dO I.hok e1
  obtain ⟨f0,f1,f2,f3,f4,f5⟩:=hf it (by simp)
  have hxl:n - 1 - i < xs.length:=by omega
  have hx:xs[n - 1 - i]?=some xs[n - 1 - i]:=v6 hxl
  obtain ⟨u,hu,ru⟩:=r1.get hx
  have ne:l≠it:=dh e1 f0
  have ei:(n:Int) - 1 - (i:Nat)=((n - 1 - i:Nat):Int):=by omega
  have ei2:((n - 1 - i:Nat):Int) - 1=(n:Int) - 1 - ((i+1:Nat):Int):=by omega
  rw [ei] at st
  have usz:us.toArray.size=n:=by rw [wa,<- r1.length]; exact hlen
  have fin:∀ (h':Heap) (tk:Nat),RvAt b h' it l ((n:Int) - 1 - ((i+1:Nat):Int))->Heap.SameBut it s.heap h'->∃ u',some u=some u'/\wpAny (model X.prog X.w) X.A (letOwnedTupleGo tg (.ref it) u') (λ_ s2=>∃ x H',Inv X pins σ H' s2/\RelV x u'/\(nP b l n).yld i H x H'/\RvAt b s2.heap it l ((n:Int) - 1 - ((i+1:Nat):Int))/\∀ b∈[it],H' b=none) E { s with heap:=h',toks:=tk }:=λh' tk st' sb=>by
   have I1:Inv X pins σ H { s with heap:=h',toks:=tk }:=I.turned (λb o hb e=>(sb.2 b hb).trans e) f0 f1 f3 f4 f5
   obtain ⟨o,nm,vs,g1,g2,g3,g4⟩:=st'.there
   exact ⟨u,rfl,mW (s:={ s with heap:=h',toks:=tk }) g1 g2 g3 g4 ⟨_,H,I1,ru,⟨rfl,xs,e1,hx⟩,st',λb hb=>(hf b hb).1⟩⟩
  cases b with
  | true =>
   refine wpAny_pyNext_rev_item (i:=n - 1 - i) st q1 (x:=u) (by simpa using hu) λh' st' sb=>?_
   rw [ei2] at st'
   exact fin h' s.toks st' sb
  | false =>
   refine Zk6 (i:=n - 1 - i) st q1 ne (x:=u) (by simpa using hu) (by rw [usz]; exact hn) λh' st' sb=>?_
   rw [ei2] at st'
   exact fin h' (s.toks+1) st' sb
 done:=by
  intro X hP hw hK hc i pins s σ H E I hf st hg
  subst hP hw hK
  obtain ⟨f0,f1,f2,f3,f4,f5⟩:=hf it (by simp)
  have hi:i=n:=hg
  subst hi
  have e:(i:Int) - 1 - (i:Nat)=-1:=by omega
  rw [e] at st
  cases b with
  | true=>exact wpAny_pyNext_rev_end (I.ok.hd hc) st λh' eb=>⟨rfl,I.turned (t':=s.toks) (λb o hb e=>eb b o hb e) f0 f1 f3 f4 f5⟩
  | false=>exact Zk7 (I.ok.hd hc) st λh' eb=>⟨rfl,I.turned (t':=s.toks) (λb o hb e=>eb b o hb e) f0 f1 f3 f4 f5⟩
 self:=λ_ _ _ _ _ st h=>by
  cases b with
  | true=>exact wpAny_pyIter_revIter st h
  | false=>exact ZcA st h
section
variable {X:Cx} {tg:Expr} {PK:Pk} {a b:Expr} {i j:zS} {p pos:Pos}
def Zd3 (ta:TE):TI:=λσ H R=>ta σ H λx H1=>(∃ b l xs,x=.ref l/\H1 l=some (bq b xs)/\R (nP b l xs.length) H1) \/
 (∃ l lo hi,x=.ref l/\H1 l=some (.rng lo hi)/\-(2 ^ 62)<=lo/\lo < 2 ^ 62/\-(2 ^ 62)<=hi/\hi < 2 ^ 62/\R (lC (lo+(hi - lo).toNat - 1) (hi - lo).toNat) H1)
theorem Zlt {ta:TE} (hg:Gl X "reversed") (hm:X.mg "reversed"=none) (ha:PE X a ta)
  (hs:starEach [a] X.env=[(false,eval a X.env)]:=by rfl):PI X tg (.Call (.Name "reversed" p) [a] [] pos) (Zd3 ta):=by
 intro pins s σ H R I h
 have hab:PA X [a] (fB ta aY):=bp ha cm (by rw [hs]; rfl)
 have h':fB ta aY σ H λvs H1=>∃ x,vs=[x]/\((∃ b l xs,x=.ref l/\H1 l=some (bq b xs)/\R (nP b l xs.length) H1) \/
   (∃ l lo hi,x=.ref l/\H1 l=some (.rng lo hi)/\-(2 ^ 62)<=lo/\lo < 2 ^ 62/\-(2 ^ 62)<=hi/\hi < 2 ^ 62/\R (lC (lo+(hi - lo).toNat - 1) (hi - lo).toNat) H1)):=by
  have h0:ta σ H λx H1=>(∃ b l xs,x=.ref l/\H1 l=some (bq b xs)/\R (nP b l xs.length) H1) \/
   (∃ l lo hi,x=.ref l/\H1 l=some (.rng lo hi)/\-(2 ^ 62)<=lo/\lo < 2 ^ 62/\-(2 ^ 62)<=hi/\hi < 2 ^ 62/\R (lC (lo+(hi - lo).toNat - 1) (hi - lo).toNat) H1):=h
  refine cast (congrArg (ta σ H) ?_) h0
  funext x H1
  apply propext
  constructor
  ·exact λq=>⟨x,rfl,q⟩
  ·rintro ⟨y,e,q⟩
   have e':x=y:=by simpa using e
   subst e'
   exact q
 refine Call_ (jb I hg hm boot_reversed (xh (thn (hab pos pins s σ H _ I h') λus s1 hz0=>?_) (by rw [hs]; rfl) rfl))
 obtain ⟨vs,H1,I1,r1,q1⟩:=hz0
 obtain ⟨x,rfl,q1⟩:=q1
 obtain ⟨u,rfl,ru⟩:=eB r1
 have fp:∀ c∈[s1.heap.objs.size],gx X pins H1 c:=λc hb=>by
  have e:c=s1.heap.objs.size:=by simpa using hb
  subst e
  exact I1.fpOk (v4 _) (I1.hok.fresh (v4 _))
 have hn:=i8
 rcases q1 with ⟨b,l,xs,rfl,e1,q⟩ | ⟨l,lo,hi,rfl,e1,b1,b2,b3,b4,q⟩
 ·cases ru
  obtain ⟨us,r2,q2⟩:=dO I1.hok e1
  have usz:us.toArray.size=xs.length:=by rw [wa,<- r2.length]
  have hz:xs.length<=sizeLine:=by
   cases b with
   | true=>exact (I1.hok _ _ e1).1
   | false=>exact (I1.hok _ _ e1).1
  cases b with
  | true =>
   refine call_reversed_list q2 (wpAny_pyIter_revIter ⟨_,v7 _ rfl,rfl,rfl⟩ ?_)
   refine ⟨_,_,_,_,H1,rfl,I1.kept (t':=s1.toks) λb o e=>vY _ e,Zaq (b:=true) (l:=l) (n:=xs.length) s1.heap.objs.size (by omega),?_,fp,q⟩
   refine ⟨_,v7 _ rfl,rfl,?_⟩
   rw [usz]
   show Data.fields #[_,rawInt ((xs.length:Int) - 1)]=Data.fields #[_,rawInt ((xs.length:Int) - 1 - ((0:Nat):Int))]
   simp
  | false =>
   refine ZpC q2 (by rw [usz]; omega) (ZcA ⟨_,v7 _ rfl,rfl,rfl⟩ ?_)
   refine ⟨_,_,_,_,H1,rfl,I1.kept (t':=s1.toks+1+1) λb o e=>vY _ e,Zaq (b:=false) (l:=l) (n:=xs.length) s1.heap.objs.size (by omega),?_,fp,q⟩
   refine ⟨_,v7 _ rfl,rfl,?_⟩
   rw [usz]
   show Data.fields #[_,rawInt ((xs.length:Int) - 1)]=Data.fields #[_,rawInt ((xs.length:Int) - 1 - ((0:Nat):Int))]
   simp
 ·cases ru
  obtain ⟨t,u,v,e⟩:=I1.hok _ _ e1
  have hsz:Builtin.Range.rangeSize lo hi 1=((hi - lo).toNat:Int):=by rw [rangeSize_one]; split <;> omega
  refine ZpD e b1 b2 b3 b4 (wpAny_pyIter_rangeiter (v7 _ rfl) ?_)
  refine ⟨_,_,_,_,H1,rfl,I1.kept (t':=s1.toks) λb o e=>vY _ e,Zjc s1.heap.objs.size (lo+(hi - lo).toNat - 1) (hi - lo).toNat,?_,fp,q⟩
  rw [hsz]
  have e1:lo+(((hi - lo).toNat:Int) - 1) * 1=lo+(hi - lo).toNat - 1+((0:Nat):Int) * (-1):=by simp; omega
  have e2:((hi - lo).toNat:Int)=((hi - lo).toNat:Int) - ((0:Nat):Int):=by simp
  rw [e1]
  show IsRangeIter _ _ _ (((hi - lo).toNat:Int) - ((0:Nat):Int)) (-1)
  rw [<- e2]
  exact v7 _ rfl
end
end L2
set_option Elab.async false
set_option linter.all false
set_option maxRecDepth 100000
namespace L2
section
variable {X:Cx} {tg:Expr} {PK:Pk} {e:Expr} {i j:zS} {is:zT} {p pos:Pos}
theorem Znk {pa:Addr} {G:Hp} {lo:Int} {n:Nat}:kd PK pa (lC (lo+n - 1) n) G ((aI lo n).map PyData.int).reverse:=λm G2 H2 sb w=>by
 have hl:((aI lo n).map PyData.int).length=n:=by rw [vZ,gA]
 refine ⟨λk x hx=>?_,by show n<=_; rw [xY,hl]; exact v4 _⟩
 have hk:k < n:=by
  have:=(v8.mp hx).1
  rwa [xY,hl] at this
 refine ⟨hk,λy H3 hz0=>?_⟩
 obtain ⟨e1,e2⟩:=hz0
 subst e1 e2
 have:x=.int (lo+n - 1 - k):=by
  rw [yU (by rw [hl]; exact hk),hl] at hx
  unfold aI at hx
  rw [ww,v5,wm (by omega)] at hx
  cases hx
  show PyData.int (lo+((n - 1 - k:Nat):Int))=_
  congr 1
  omega
 subst this
 exact ⟨G2,.refl,w,.int _⟩
noncomputable def vH (is:zT):zT:=λρ=>(is ρ).bind λxs=>(Tr.of (kA xs)).bind λys=>.ret ys.reverse
def Zjv (t:TA):TE:=f7 (λxs H Q=>∃ i j:Int,xs=[.int i,.int j]/\∀ p,H p=none->Q (.ref p) (upd H p (.rng i j))) t
theorem Zqz {iter:Expr} (h:PI X tg iter (Zd3 (Zjv (TAd PK is)))):PI X tg iter (fX PK (vH is)):=h.imp λσ H R0 hz0=>by
 obtain ⟨pa,Ag,H₀,m,ρ,G,R,z⟩:=hz0
 refine TAd.then R z λm1 xs vs G1 H1 s1 w1 R1 d1 q1=>?_
 rw [Tr.ok_bind] at q1
 obtain ⟨ys,hy,q1⟩:=Tr.ok_of q1
 obtain ⟨k,n,e,⟨h1,h2,h3,h4⟩,rfl⟩:=Zb5 d1 hy
 refine ⟨k,n,e,λp hp=>?_⟩
 obtain ⟨w2,s2⟩:=w1.own (o:=.rng k n) hp
 refine .inr ⟨p,k,n,rfl,cA,h1,h2,h3,h4,?_⟩
 exact q1 (lC (k+(n - k).toNat - 1) (n - k).toNat) G1 _ (s1.trans s2 w1.some) w2 Znk
end
end L2
set_option Elab.async false
set_option linter.all false
set_option maxRecDepth 100000
namespace L2
abbrev jv (h0 h:Heap):Prop:=∀ c o,h0.get? c=some o->h.get? c=some o
noncomputable def ZiQ (prog:Program) (w:World) (A:Around) (h0:Heap) (P:Nat->Value->Prop) (bt:Nat->Nat->Bool):Prop :=
 ∀ i j vi vj (s:Shared) (Q:z0) (E:z0),j < i->jv h0 s.heap->P i vi->P j vj->Q (.bool (bt i j)) s->wpAny (model prog w) A (richCompare .Lt vi vj) Q E s
theorem ZiB (bt:Nat->Nat->Bool):∀ j,argBest bt j<=j
 | 0=>v4 _
 | j+1=>by
  have:=ZiB bt j
  unfold argBest
  split <;> omega
section
variable {prog:Program} {w:World} {A:Around} {R:Result->Shared->Prop} {I S:Addr} {fp wr:List Addr} {n:Nat} {P:Nat->Value->Prop} {St:Nat->Heap->Prop} {h0:Heap}
theorem oW:(toString "min"++toString ".loop":String)="min.loop":=by decide
theorem ZmB (W:Walks prog w A.in1 I fp wr n P St) (bt:Nat->Nat->Bool) (hcmp:ZiQ prog w A.in1 h0 P bt) (hSf:S ∉ fp) (h0w:∀ c o,h0.get? c=some o->c ∉ wr/\c≠S) :
  ∀ (k j:Nat) (s:Shared) (vb:Value) (c:Nat),n - (j+1)=k->j+1<=n->jv h0 s.heap->St (j+1) s.heap->P (argBest bt j) vb ->
  s.heap.get? S=some { cls:=.type "list",data:=.seq #[vb,vb] c } ->
  (∀ v h' tk,P (argBest bt (n - 1)) v->(∀ b o,b ∉ wr->b≠S->s.heap.get? b=some o->h'.get? b=some o)->R (.ok (.ret v)) { s with heap:=h',toks:=tk }) ->
  codeAny (model prog w) A (.builtin "min.loop" ⟨[.ref I,.none,.ref S],[]⟩) R s:=by
 have hSw:S ∉ wr:=λh=>hSf (W.sub _ h)
 intro k
 induction k with
 | zero =>
  intro j s vb c hk hj kp hst hPb hS hR
  have hin:j+1=n:=by omega
  refine codeAny_builtin zQ (by
   rw [xv xT _]
   show wpAny _ A.in1 (seqItems? (.ref S) >>= _) _ _ s
   refine wpAny_bind (wpAny_seqItems hS rfl ?_)
   show wpAny _ A.in1 (tryCatch (pyNext (.ref I)) _ >>= _) _ _ s
   refine wpAny_bind (wpAny_tryCatch (W.done s _ _ (hin ▸ hst) λh' tk hk'=>?_))
   have hS':=hk' S _ hSw hS
   show wpAny _ A.in1 (updateSeq S (λ_=>#[]) >>= _) _ _ _
   refine wpAny_bind (wpAny_updateSeq hS' rfl (wpAny_bind (wpAny_letGo (wpAny_pure ?_))))
   exact hR vb _ tk (by rw [<- hin]; exact hPb) λb o hbw hbS e=>(wY _ _ (Ne.symm hbS)).trans (hk' b o hbw e))
 | succ k ih =>
  intro j s vb c hk hj kp hst hPb hS hR
  have hlt:j+1 < n:=by omega
  refine codeAny_builtin zQ (by
   rw [xv xT _]
   show wpAny _ A.in1 (seqItems? (.ref S) >>= _) _ _ s
   refine wpAny_bind (wpAny_seqItems hS rfl ?_)
   show wpAny _ A.in1 (tryCatch (pyNext (.ref I)) _ >>= _) _ _ s
   refine wpAny_bind (wpAny_tryCatch (W.item (j+1) s _ _ hlt hst λv h' tk hP hst' hk'=>?_))
   have hS':=hk' S _ hSw hS
   have kp':jv h0 h':=λc o e=>hk' c o (h0w c o e).1 (kp c o e)
   show wpAny _ A.in1 (tryCatch (holding [v,v] (richCompare .Lt v vb >>= _)) _ >>= _) _ _ _
   refine wpAny_bind (wpAny_tryCatch (wpAny_holding (wpAny_bind (hcmp (j+1) (argBest bt j) v vb _ _ _ (Nat.lt_succ_of_le (ZiB bt j)) kp' hP hPb (wpAny_bind (wpAny_holding (wpAny_truthy_bool (wpAny_bind (wpAny_letGo (wpAny_pure ?_))))))))))
   cases hb:bt (j+1) (argBest bt j) with
   | true =>
    simp only [if_true]
    refine wpAny_bind (wpAny_updateSeq hS' rfl (wpAny_bind (wpAny_letGo ?_)))
    rw [oW]
    refine wpAny_pure ⟨plainId_quiet xT _,ih (j+1) _ v _ (by omega) hlt (λc o e=>(wY _ _ (Ne.symm (h0w c o e).2)).trans (kp' c o e)) (W.frame _ _ _ hst' λb hbf o e=>?_) (by simp only [argBest,hb,if_true]; exact hP) (xL _ hS' rfl)
     λv' h'' tk'' hP' hk''=>hR v' h'' tk'' hP' λb o hbw hbS e=>hk'' b o hbw hbS ((wY _ _ (Ne.symm hbS)).trans (hk' b o hbw e))⟩
    exact (wY _ _ (λh:S=b=>hSf (by rw [h]; exact hbf))).trans e
   | false =>
    simp only [xO,if_false]
    refine wpAny_bind (wpAny_letGo ?_)
    rw [oW]
    exact wpAny_pure ⟨plainId_quiet xT _,ih (j+1) _ vb c (by omega) hlt kp' hst' (by simp only [argBest,hb,xO,if_false]; exact hPb) hS' λv' h'' tk'' hP' hk'' =>
     hR v' h'' tk'' hP' λb o hbw hbS e=>hk'' b o hbw hbS (hk' b o hbw e)⟩)
theorem ZmC (W:Walks prog w A.in1 I fp wr n P St) (bt:Nat->Nat->Bool) (hcmp:ZiQ prog w A.in1 h0 P bt) (hSf:S ∉ fp) (h0w:∀ c o,h0.get? c=some o->c ∉ wr/\c≠S) (hn:0 < n) {s:Shared} {c:Nat} (kp:jv h0 s.heap) (hst:St 0 s.heap)
  (hS:s.heap.get? S=some { cls:=.type "list",data:=.seq #[] c })
  (hR:∀ v h' tk,P (argBest bt (n - 1)) v->(∀ b o,b ∉ wr->b≠S->s.heap.get? b=some o->h'.get? b=some o)->R (.ok (.ret v)) { s with heap:=h',toks:=tk }) :
  codeAny (model prog w) A (.builtin "min.loop" ⟨[.ref I,.none,.ref S],[]⟩) R s:=by
 have hSw:S ∉ wr:=λh=>hSf (W.sub _ h)
 refine codeAny_builtin zQ (by
  rw [xv xT _]
  show wpAny _ A.in1 (seqItems? (.ref S) >>= _) _ _ s
  refine wpAny_bind (wpAny_seqItems hS rfl ?_)
  show wpAny _ A.in1 (tryCatch (pyNext (.ref I)) _ >>= _) _ _ s
  refine wpAny_bind (wpAny_tryCatch (W.item 0 s _ _ hn hst λv h' tk hP hst' hk'=>?_))
  have hS':=hk' S _ hSw hS
  have kp':jv h0 h':=λc o e=>hk' c o (h0w c o e).1 (kp c o e)
  show wpAny _ A.in1 (updateSeq S (λ_=>#[v,v]) >>= _) _ _ _
  refine wpAny_bind (wpAny_updateSeq hS' rfl ?_)
  rw [oW]
  refine wpAny_pure ⟨plainId_quiet xT _,ZmB W bt hcmp hSf h0w _ 0 _ v _ rfl hn (λc o e=>(wY _ _ (Ne.symm (h0w c o e).2)).trans (kp' c o e)) (W.frame _ _ _ hst' λb hbf o e=>?_) hP (xL _ hS' rfl)
   λv' h'' tk'' hP' hk''=>hR v' h'' tk'' hP' λb o hbw hbS e=>hk'' b o hbw hbS ((wY _ _ (Ne.symm hbS)).trans (hk' b o hbw e))⟩
  exact (wY _ _ (λh:S=b=>hSf (by rw [h]; exact hbf))).trans e)
end
section
variable {prog:Program} {w:World} {A:Around} {E:z0} {s:Shared}
theorem ZmA {a b:Value} {Q:z0} {c:Bool} (hh:A.handled=none) (hcmp:∀ (s':Shared) (Q:z0) (E:z0),jv s.heap s'.heap->Q (.bool c) s'->wpAny (model prog w) A.in1 (richCompare .Lt b a) Q E s')
  (h:∀ h' tk,jv s.heap h'->Q (if c=true then b else a) { s with heap:=h',toks:=tk }):wpAny (model prog w) A (call (.builtin "min") [a,b]) Q E s:=by
 refine call_function_tree F.kind_min F.plain_min F.entry_min (F.args_min2 _ _) (by
  show wpAny _ A.in1 (Builtin.Builtins.bindParams "min" ["key","default"] 0 ⟨[],[]⟩ >>= _) _ _ s
  refine wpAny_bind (wpAny_of_eq (a:=[none,none]) rfl ?_)
  show wpAny _ A.in1 (newTuple [a,b] >>= _) _ _ s
  refine wpAny_bind (wpAny_newObj_type ?_)
  have hT:(s.heap.push { cls:=.type "tuple",data:=.seq #[a,b] }).IsTuple s.heap.objs.size #[a,b]:=⟨_,v7 _ rfl,rfl,0,rfl⟩
  have hsz:(s.heap.push { cls:=.type "tuple",data:=.seq #[a,b] }).objs.size=s.heap.objs.size+1:=wT ..
  have hgk:jv s.heap (s.heap.push { cls:=.type "tuple",data:=.seq #[a,b] }):=λc o e=>vY _ e
  generalize (s.heap.push { cls:=.type "tuple",data:=.seq #[a,b] })=g at hT hsz hgk ⊢
  refine wpAny_bind (wpAny_pyIter_tuple hT (wpAny_bind (wpAny_newObj_type ?_)))
  rw [oW]
  have hlt:∀ {c:Nat} {o:Obj},s.heap.get? c=some o->c < s.heap.objs.size:=λe=>wk e
  have hsz2:∀ ob:Obj,(g.push ob).objs.size=s.heap.objs.size+2:=λob=>by rw [wT,hsz]
  have W:=Walks.tuple (prog:=prog) (w:=w) (A:=A.in1) hh g.objs.size s.heap.objs.size (by rw [hsz]; exact wy (yh _)) #[a,b]
  refine wpAny_pure ⟨plainId_quiet xT _,ZmC (A:=A) (h0:=s.heap) W (λi j=>if i=1/\j=0 then c else false) ?_ ?_ ?_ (show 0 < 2 by decide) ?_ ⟨?_,?_⟩ (v7 _ rfl) ?_⟩
  ·intro i j vi vj s' Q' E' hji kp hi hj hq
   have hi2:i < 2:=by
    have:=(zy.mp hi).1
    simpa using this
   have e1:i=1:=by omega
   have e2:j=0:=by omega
   subst e1 e2
   have e3:b=vi:=by simpa using hi
   have e4:a=vj:=by simpa using hj
   subst e3 e4
   exact hcmp s' Q' E' kp (by simpa using hq)
  ·intro hm
   have hm':(g.push { cls:=.type "tuple_iterator",data:=.fields #[.ref s.heap.objs.size,.int 0 0] }).objs.size∈[g.objs.size,s.heap.objs.size]:=hm
   rw [hsz2,hsz] at hm'
   simp at hm'
  ·intro (c:Nat) o e
   have hc:=hlt e
   refine ⟨λhm=>?_,?_⟩
   ·have hm':c=g.objs.size:=by simpa using hm
    rw [hm',hsz] at hc
    omega
   ·show c≠(g.push { cls:=.type "tuple_iterator",data:=.fields #[.ref s.heap.objs.size,.int 0 0] }).objs.size
    rw [hsz2]
    omega
  ·exact λc o e=>vY _ (vY _ (hgk c o e))
  ·exact ⟨_,vY _ (v7 _ rfl),rfl,rfl⟩
  ·exact hT.at λo e=>vY _ (vY _ e)
  ·intro v h' tk hP hk
   have hv:v=if c=true then b else a:=by
    cases c with
    | true =>
     have e:argBest (λi j=>if i=1/\j=0 then true else false) ((#[a,b]:Array Value).size - 1)=1:=rfl
     rw [e] at hP
     simpa using hP.symm
    | false =>
     have e:argBest (λi j=>if i=1/\j=0 then false else false) ((#[a,b]:Array Value).size - 1)=0:=rfl
     rw [e] at hP
     simpa using hP.symm
   rw [hv]
   refine h h' tk λ(c:Nat) o e=>hk c o (λhm=>?_) ?_ (vY _ (vY _ (hgk c o e)))
   ·have hc:=hlt e
    have hm':c=g.objs.size:=by simpa using hm
    rw [hm',hsz] at hc
    omega
   ·have hc:=hlt e
    show c≠(g.push { cls:=.type "tuple_iterator",data:=.fields #[.ref s.heap.objs.size,.int 0 0] }).objs.size
    rw [hsz2]
    omega)
end
section
variable {X:Cx}
noncomputable def Zcn:List V->Hp->VK->Prop:=λxs H Q=>∃ a b ns ms,xs=[.ref a,.ref b]/\H a=some (.tup (ns.map V.int))/\H b=some (.tup (ms.map V.int))/\Q (if HT.di ms ns=true then .ref b else .ref a) H
theorem Zia {k:Nat} (hr:Room k X.A) (hc:X.calm=true):dM X (.builtin "min") Zcn:=by
 intro pins s σ H xs us Q I r h
 obtain ⟨a,b,ns,ms,rfl,ha,hb,q⟩:=h
 obtain ⟨u,w',rfl,ru,rw'⟩:=nX r
 cases ru
 cases rw'
 obtain ⟨u1,r1,p1⟩:=dO (b:=false) I.hok ha
 obtain ⟨u2,r2,p2⟩:=dO (b:=false) I.hok hb
 have i1:IntsAre u1.toArray.toList ns:=ZdY r1
 have i2:IntsAre u2.toArray.toList ms:=ZdY r2
 refine ZmA (c:=HT.di ms ns) (I.ok.hd hc) (λs' Q' E' kp hq=>?_) λh' tk kp=>⟨_,H,I.kept kp,?_,q⟩
 ·have q1:IsTup s'.heap a u1.toArray:=SqAt.at (b:=false) p1 λo e=>kp a o e
  have q2:IsTup s'.heap b u2.toArray:=SqAt.at (b:=false) p2 λo e=>kp b o e
  exact HT.ZmL q2 q1 i2 i1 (show X.A.units+1 < cLine from by have:=hr.units; omega) hq
 ·cases HT.di ms ns
  ·exact rfl
  ·exact rfl
noncomputable def i5:List PyData->Option PyData
 | [.tuple xs,.tuple ys]=>(ints? xs).bind λns=>(ints? ys).bind λms=>some (if HT.di ms ns=true then .tuple (ms.map PyData.int) else .tuple (ns.map PyData.int))
 | _=>none
theorem Zam:eR Zcn i5:=λPK pa m G H vs ds d Q w hv hd k=>by
 unfold i5 at hd
 split at hd
 ·rename_i xs ys
  cases e1:ints? xs with
  | none=>rw [e1] at hd; cases hd
  | some ns =>
   cases e2:ints? ys with
   | none=>rw [e1,e2] at hd; cases hd
   | some ms =>
    rw [e1,e2] at hd
    have hd':(if HT.di ms ns=true then PyData.tuple (ms.map PyData.int) else .tuple (ns.map PyData.int))=d:=wG hd
    cases hv with
    | cons h1 h2 =>
     cases h2 with
     | cons h2 h3 =>
      cases h3
      cases h1 with
      | @tup a us _ a1 a2 =>
       cases h2 with
       | @tup b ws _ b1 b2 =>
        obtain ⟨rfl,rfl⟩:=a2.ints_inv e1
        obtain ⟨rfl,rfl⟩:=b2.ints_inv e2
        refine ⟨a,b,ns,ms,rfl,w.sub _ _ a1,w.sub _ _ b1,?_⟩
        subst hd'
        cases hl:HT.di ms ns
        ·rw [hl] at k
         exact k.here w (.tup a1 (DnAll.ints _))
        ·rw [hl] at k
         exact k.here w (.tup b1 (DnAll.ints _))
 ·cases hd
end
end L2
set_option Elab.async false
set_option linter.all false
set_option maxRecDepth 100000
namespace L2
noncomputable def Zqf:List Aa->List Int
 | []=>[]
 | x::r=>r.foldl (λb y=>if HT.di y b=true then y else b) x
section
variable {X:Cx}
noncomputable def tups?:List PyData->Option (List Aa)
 | []=>some []
 | .tuple x::xs=>(ints? x).bind λns=>(tups? xs).bind λr=>some (ns::r)
 | _=>none
noncomputable def ZrA:List PyData->Option PyData
 | [.list xs]=>(tups? xs).bind λnss=>if nss.isEmpty=true then none else some (.tuple ((Zqf nss).map PyData.int))
 | _=>none
end
section
variable {X:Cx} {PK:Pk} {a b:Expr} {pos:Pos} {j:zS}
noncomputable def jZ (xs:z9):PyData->Tr PyData
 | .int i=>Tr.of (bf xs i)
 | _=>.fail
noncomputable def iI (k:Nat) (j:zS):zS:=λρ=>(j ρ).bind λy=>match ρ[k]? with
 | some (.own xs)=>jZ xs y
 | some (.d (.list xs))=>jZ xs y
 | _=>.fail
theorem Zqm {G:Hp} {vs:Ad} {xs:z9} {i:Int} {d:PyData} (h:DnAll G vs xs) (e:bf xs i=some d):∃ v,bf vs i=some v/\Dn G v d:=by
 unfold bf at e ⊢
 rw [h.length]
 cases hi:de xs.length i with
 | none=>rw [hi] at e; cases e
 | some n =>
  rw [hi] at e
  exact h.get n e
theorem pU {α β:Type}:∀ {t:Tr α} {m:Nat} {Z:Nat->β->Prop},(t.bind λ_=>(Tr.fail:Tr β)).ok m Z->False
 | .ret a,m,Z,h=>h
 | .draw n k,m,Z,h=>pU (t:=k 0) (h.2.2.2 0 (wK _) h.2.1)
 | .fail,m,Z,h=>h
theorem nu {k:Nat} (hb:PE X b (TAe PK j)) (ha:PE X a (fA k)) (hs:qO b):PE X (.Subscript a b pos) (TAe PK (iI k j)):=(oF ue ha hb hs).imp λσ H Q hz0=>by
 obtain ⟨pa,Ag,H₀,m,ρ,G,R,z⟩:=hz0
 have key:∀ xs:z9,(∃ (sl:Sl),ρ[k]?=some sl/\(sl=.own xs\/sl=.d (.list xs)))->((j ρ).bind λy=>jZ xs y).ok m (λm1 x=>Kn PK pa m1 G H x Q)->jz (sR X.K) (fA k) (TAe PK j) σ H Q:=λxs ⟨sl,hsl,hx⟩ z=>by
  obtain ⟨o,h1,h2⟩:=R.sl k _ hsl
  have hp:∃ p,o=some (.ref p):=by
   rcases hx with rfl | rfl
   ·cases h2; exact ⟨_,rfl⟩
   ·cases h2 with
    | d q=>cases q; exact ⟨_,rfl⟩
  obtain ⟨p,rfl⟩:=hp
  refine ⟨_,h1,?_⟩
  refine TAe.then R z λm1 y u G1 H1 s1 w1 R1 d1 q1=>?_
  obtain ⟨o',h1',h2'⟩:=R1.sl k _ hsl
  rw [h1] at h1'
  cases h1'
  have hl:∃ vs,H1 p=some (.lst vs)/\DnAll G1 vs xs:=by
   rcases hx with rfl | rfl
   ·cases h2' with
    | own a1 a2 a3 a4=>exact ⟨_,a1,a4⟩
   ·cases h2' with
    | d q=>cases q with
     | lst b1 b2=>exact ⟨_,w1.sub _ _ b1,b2⟩
  obtain ⟨vs,e1,e2⟩:=hl
  cases d1 with
  | int i =>
   obtain ⟨d,hd,kq⟩:=Tr.ok_of q1
   obtain ⟨v,hv,dv⟩:=Zqm e2 hd
   exact ⟨p,vs,i,v,rfl,rfl,SqL.of e1,hv,kq v G1 H1 s1 w1 dv⟩
  | _=>exact q1.elim
 unfold iI at z
 cases hk:ρ[k]? with
 | none=>rw [hk] at z; exact (pU (t:=j ρ) z).elim
 | some sl =>
  rw [hk] at z
  cases sl with
  | own xs=>exact key xs ⟨_,hk,.inl rfl⟩ z
  | d x =>
   cases x with
   | list xs=>exact key xs ⟨_,hk,.inr rfl⟩ z
   | _=>exact (pU (t:=j ρ) z).elim
  | _=>exact (pU (t:=j ρ) z).elim
end
end L2
set_option Elab.async false
set_option linter.all false
set_option maxRecDepth 100000
namespace L2
section
variable {prog:Program} {w:World} {A:Around} {E:z0} {s:Shared}
theorem Zpy {t b:Addr} {ws:Ab} {Q:z0} (ht:IsTup s.heap t ([]:Ab).toArray) (hb:IsTup s.heap b ws.toArray) (h1:Q (.ref b) s):wpAny (model prog w) A (binaryOp .Add (.ref t) (.ref b)) Q E s:=by
 obtain ⟨⟨cls,dd,data,sl⟩,ho,hc,n,hd⟩:=id ht
 obtain ⟨⟨cls2,dd2,data2,fE⟩,ho2,hc2,n2,hd2⟩:=id hb
 simp only at hc hd hc2 hd2
 subst hc hd hc2 hd2
 exact concat_meets ⟨_,ho,rfl⟩ ⟨_,ho2,rfl⟩ noFill_tuple_add seq_tuple_add yP yI (yD _ _) (tuple_addW0 t b _ ws.toArray n n2 dd dd2 sl fE rfl) ⟨ho,ho2,h1⟩
end
section
variable {X:Cx}
noncomputable def Zcv (K:zR):R2:=λx y H Q=>∃ a b ys,x=.ref a/\y=.ref b/\SqT K H a []/\SqT K H b ys/\Q (.ref b) H
theorem Zl5:OpR X (binaryOp .Add) (Zcv X.K):=by
 intro pins s σ H x y v u Q I rx ry h
 obtain ⟨a,b,ys,rfl,rfl,ha,hb,q⟩:=h
 cases rx
 cases ry
 obtain ⟨its,r1,p1,_⟩:=I.tuple ha
 obtain ⟨its2,r2,p2,_⟩:=I.tuple hb
 cases r1
 exact Zpy p1 p2 ⟨.ref b,H,I,rfl,q⟩
noncomputable def gP:zZ
 | .tuple [],.tuple ys=>some (.tuple ys)
 | x,y=>aX x y
noncomputable def Zcy (K:zR):R2:=λx y H Q=>sS K x y H Q\/Zcv K x y H Q
theorem mv:OpR X (binaryOp .Add) (Zcy X.K):=bw.or Zl5
theorem lG {K:zR}:cI (Zcy K) gP:=λPK pa m G H x y dx dy dz Q w hx hy hz k=>by
 unfold gP at hz
 split at hz
 ·cases hz
  cases hx with
  | tup a1 a2 =>
   cases a2
   cases hy with
   | tup b1 b2=>exact .inr ⟨_,_,_,rfl,rfl,SqT.of (w.sub _ _ a1),SqT.of (w.sub _ _ b1),k.here w (.tup b1 b2)⟩
 ·exact .inl (bv PK pa m G H x y _ _ dz Q w hx hy hz k)
theorem Zhj {ys:z9}:aV gP (.tuple []) (.tuple ys)=.ret (.tuple ys):=rfl
theorem uC {x:PyData} {xs ys:z9} (h:small ((x::xs).length+ys.length)=true):aV gP (.tuple (x::xs)) (.tuple ys)=.ret (.tuple (x::xs++ys)):=by
 show Tr.of (aX (.tuple (x::xs)) (.tuple ys))=_
 unfold aX
 simp only [ye,wt,xr,h,if_true]
 rfl
theorem ny {xs ys:z9} (h:small (xs.length+ys.length)=true):aV gP (.tuple xs) (.tuple ys)=.ret (.tuple (xs++ys)):=by
 cases xs with
 | nil=>rfl
 | cons x xs=>exact uC h
end
end L2
set_option Elab.async false
set_option linter.all false
set_option maxRecDepth 100000
namespace L2
section
variable {PK:Pk} {X:Cx} {a b:Expr} {pos:Pos} {i j:zS}
def vM (r:R2) (f:PyData->PyData->Option z9):Prop:=∀ (PK:Pk) (pa:Addr) (m:Nat) (G H:Hp) (x y:V) (dx dy:PyData) (dz:z9) (Q:VK),Wd PK pa m G H->Dn G x dx->Dn G y dy->f dx dy=some dz->Ko1 PK pa m G H dz Q->r x y H Q
noncomputable def qK (f:PyData->PyData->Option z9) (i j:zS):zT:=λρ=>(i ρ).bind λx=>(j ρ).bind λy=>Tr.of (f x y)
theorem ZqM {r:R2} {f:PyData->PyData->Option z9} (hv:vM r f):∀ σ H Q,ff PK (qK f i j) σ H Q->jz r (TAe PK i) (TAe PK j) σ H Q:=by
 rintro σ H Q ⟨pa,Ag,H₀,m,ρ,G,R,q⟩
 refine TAe.then R q λm1 x v G1 H1 s1 w1 R1 d1 q1=>?_
 refine TAe.then R1 q1 λm2 y u G2 H2 s2 w2 R2 d2 q2=>?_
 obtain ⟨z,hz,k⟩:=Tr.ok_of q2
 exact hv PK pa m2 G2 H2 v u x y z Q w2 (d1.mono s2.gs) d2 hz (Ko1.later k (s1.trans s2 w1.some) w2.some)
theorem Zqs {op:Operator} {r:R2} {f:PyData->PyData->Option z9} (ho:OpR X (binaryOp op) r) (hv:vM r f) (ha:PE X a (TAe PK i)) (hb:PE X b (TAe PK j)):PE X (.BinOp a op b pos) (ff PK (qK f i j)) :=
 (cE ho ha hb).imp (ZqM hv)
noncomputable def kC:PyData->PyData->Option z9
 | .list xs,.int k=>if (decide (-1000<=k) && decide (k<=1000) && decide (xs.length<=1000))=true then some (List.replicate k.toNat xs).flatten else none
 | _,_=>none
theorem ZhK {G:Hp}:∀ {vs:Ad} {ds:z9} {us:Ad} {es:z9},DnAll G vs ds->DnAll G us es->DnAll G (vs++us) (ds++es)
 | _,_,_,_,.nil,h=>h
 | _,_,_,_,.cons a b,h=>.cons a (ZhK b h)
theorem ZhJ {G:Hp} {vs:Ad} {ds:z9} (h:DnAll G vs ds):∀ k:Nat,DnAll G (List.replicate k vs).flatten (List.replicate k ds).flatten
 | 0=>.nil
 | k+1=>by
  rw [wI,wI,xa,xa]
  exact ZhK h (ZhJ h k)
theorem Zi0:vM sQ kC:=λPK pa m G H x y dx dy dz Q w hx hy hz k=>by
 unfold kC at hz
 split at hz
 ·split at hz
  ·rename_i hc
   cases hz
   simp only [wl,decide_eq_true_eq] at hc
   cases hx with
   | lst a1 a2 =>
    cases hy
    refine ⟨_,_,_,rfl,rfl,w.sub _ _ a1,by omega,by omega,?_,λp hp=>?_⟩
    ·rw [a2.length]
     have h0:∀ z:Int,z<=1000->z.toNat<=1000:=λz hz=>by omega
     exact wv (zE hc.2 (h0 _ hc.1.2)) (show 1000 * 1000<=sizeLine by decide)
    ·exact k.new w (ZhJ a2 _) hp
  ·cases hz
 ·cases hz
noncomputable def nk (f:PyData->PyData->Option z9) (x y:PyData):Tr z9:=Tr.of (f x y)
noncomputable def Zil (f:PyData->PyData->Option z9) (j:zS) (ρ:Af) (x:PyData):Tr z9:=(j ρ).bind (nk f x)
theorem Zg0 {f:PyData->PyData->Option z9} {ρ:Af}:qK f i j ρ=(i ρ).bind (Zil f j ρ):=rfl
theorem ZgZ {f:PyData->PyData->Option z9} {ρ:Af} {x:PyData}:Zil f j ρ x=(j ρ).bind (nk f x):=rfl
theorem ZkU {xs:z9} {k:Int} (h:(decide (-1000<=k) && decide (k<=1000) && decide (xs.length<=1000))=true):nk kC (.list xs) (.int k)=.ret (List.replicate k.toNat xs).flatten:=by
 simp only [nk,kC,h,if_true]
 rfl
end
theorem mO {α:Type} {n:Nat}:∀ {us:List α},us.length=n+1->∃ (a:α) (t:List α),us=a::t/\t.length=n
 | a::t,h=>⟨a,t,rfl,Nat.succ.inj h⟩
theorem Zm0 {α:Type} {us:List α} (h:us.length=0):us=[]:=List.eq_nil_of_length_eq_zero h
theorem ZdF {α:Type} {us:List α} (h:us.length=1):∃ a,us=[a]:=by
 obtain ⟨a,t,rfl,h2⟩:=mO h
 exact ⟨a,by rw [Zm0 h2]⟩
theorem ZdE {α:Type} {us:List α} (h:us.length=2):∃ a0 a1,us=[a0,a1]:=by
 obtain ⟨a0,t,rfl,h2⟩:=mO h
 obtain ⟨a1,rfl⟩:=ZdF h2
 exact ⟨a0,a1,rfl⟩
theorem ZdD {α:Type} {us:List α} (h:us.length=3):∃ a0 a1 a2,us=[a0,a1,a2]:=by
 obtain ⟨a0,t,rfl,h2⟩:=mO h
 obtain ⟨a1,a2,rfl⟩:=ZdE h2
 exact ⟨a0,a1,a2,rfl⟩
theorem ZdC {α:Type} {us:List α} (h:us.length=4):∃ a0 a1 a2 a3,us=[a0,a1,a2,a3]:=by
 obtain ⟨a0,t,rfl,h2⟩:=mO h
 obtain ⟨a1,a2,a3,rfl⟩:=ZdD h2
 exact ⟨a0,a1,a2,a3,rfl⟩
theorem Zm3 {α:Type} {us:List α} (h:us.length=5):∃ a0 a1 a2 a3 a4,us=[a0,a1,a2,a3,a4]:=by
 obtain ⟨a0,t,rfl,h2⟩:=mO h
 obtain ⟨a1,a2,a3,a4,rfl⟩:=ZdC h2
 exact ⟨a0,a1,a2,a3,a4,rfl⟩
end L2
set_option Elab.async false
set_option linter.all false
set_option maxRecDepth 100000
set_option exponentiation.threshold 9000
namespace Tw
open L2
def nb (k:Nat) (n:Int):Prop:=n.natAbs < 2 ^ k
theorem aK {k:Nat} {n:Int} (h:nb k n) (hk:k<=8000):fit n=true:=decide_eq_true (wb h (yl (by decide) hk))
theorem aP {k l:Nat} {n:Int} (h:nb k n) (hk:k<=l):nb l n:=wb h (yl (by decide) hk)
theorem bF {k l:Nat} {m n:Int} (h:nb k m) (h':nb l n):nb (k+l) (m * n):=by
 unfold nb at *
 rw [xl,Nat.pow_add]
 exact Nat.mul_lt_mul'' h h'
theorem dQ {k l:Nat} {m n:Int} (h:nb k m) (h':nb l n):nb (max k l+1) (m+n):=by
 have h1:=aP h (Nat.le_max_left k l)
 have h2:=aP h' (Nat.le_max_right k l)
 unfold nb at *
 rw [Nat.pow_succ,Nat.mul_two]
 exact xz (Int.natAbs_add_le m n) (Nat.add_lt_add h1 h2)
theorem kM {k:Nat} {n:Int} (h:nb k n):nb k (-n):=by
 unfold nb at *
 omega
theorem eJ {k l:Nat} {m n:Int} (h:nb k m) (h':nb l n):nb (max k l+1) (m - n):=by
 rw [Int.sub_eq_add_neg]
 exact dQ h (kM h')
theorem bM {k:Nat} {n:Int} (h1:-(2 ^ k:Nat) < n) (h2:n < (2 ^ k:Nat)):nb k n:=by
 unfold nb
 omega
theorem Zms {k:Nat} {n b:Int} (h:-b<=n/\n<=b) (hb:b < (2 ^ k:Nat)):nb k n:=bM (by omega) (by omega)
theorem mx {k:Nat} {c:Prop} [Decidable c] {m n:Int} (h:nb k m) (h':nb k n):nb k (if c then m else n):=by split <;> assumption
noncomputable def ws (f:Int->Int):Nat->List Int->Int
 | _,[]=>0
 | k,w::l=>w * f k+ws f (k+1) l
theorem Zag {f:Int->Int} {a b:Nat} (hf:∀ x:Int,0<=x->nb b (f x)):∀ {l:Aa} {k:Nat},(∀ w∈l,nb a w)->nb (a+b+l.length) (ws f k l)
 | [],k,h=>by unfold ws nb; exact xo (by simp)
 | w::l,k,h=>by
  unfold ws
  have h1:=bF (h w (by simp)) (hf k (by omega))
  have h2:=Zag hf (l:=l) (k:=k+1) λv hv=>h v (v3 _ hv)
  refine aP (dQ h1 h2) ?_
  rw [wc]
  omega
theorem nQ {f g:Int->Int}:∀ {l:Aa} {k:Nat},(∀ x:Int,0<=x->f x=g x)->ws f k l=ws g k l
 | [],k,h=>rfl
 | w::l,k,h=>by
  unfold ws
  rw [h k (by omega),nQ h]
theorem ZaN {a:Nat}:∀ {l:Aa},(∀ w∈l,nb a w)->nb (a+l.length) l.sum
 | [],h=>by unfold nb; simp; exact xo (by simp)
 | w::l,h=>by
  rw [xA]
  refine aP (dQ (h w (by simp)) (ZaN (l:=l) λv hv=>h v (v3 _ hv))) ?_
  rw [wc]
  omega
structure Shp where
 top:Int
 depth:Int
 start:Int
 piece:Int
 keep:Int
 lack:Int
 lost:Int
 back:Int
 late:Int
noncomputable def Shp.l (s:Shp):Aa:=[s.top,s.depth,s.start,s.piece,s.keep,s.lack,s.lost,s.back,s.late]
@[irreducible] noncomputable def Shp.d (s:Shp):PyData:=.tuple (s.l.map PyData.int)
structure Shp.Ok (s:Shp):Prop where
 t0:0<=s.top
 d0:0<=s.depth
 td:s.top+s.depth<=100
 start0:0<=s.start
 start:nb 45 s.start
 piece:nb 45 s.piece
 keep:nb 45 s.keep
 lack:nb 45 s.lack
 lost:nb 45 s.lost
 back:nb 45 s.back
 late:nb 45 s.late
theorem Za9 (s:Shp):aV au s.d (.int 0)=.ret (.int s.top):=by unfold Shp.d; rw [gl]; exact congrArg Tr.of qq
theorem Za8 (s:Shp):aV au s.d (.int 1)=.ret (.int s.depth):=by unfold Shp.d; rw [gl]; exact congrArg Tr.of qp
theorem Za7 (s:Shp):aV au s.d (.int 2)=.ret (.int s.start):=by unfold Shp.d; rw [gl]; exact congrArg Tr.of qo
theorem Za6 (s:Shp):aV au s.d (.int 3)=.ret (.int s.piece):=by unfold Shp.d; rw [gl]; exact congrArg Tr.of qm
theorem Za5 (s:Shp):aV au s.d (.int 4)=.ret (.int s.keep):=by unfold Shp.d; rw [gl]; exact congrArg Tr.of ql
theorem Za4 (s:Shp):aV au s.d (.int 5)=.ret (.int s.lack):=by unfold Shp.d; rw [gl]; exact congrArg Tr.of ve
theorem Za3 (s:Shp):aV au s.d (.int 6)=.ret (.int s.lost):=by unfold Shp.d; rw [gl]; exact congrArg Tr.of vd
theorem Za2 (s:Shp):aV au s.d (.int 7)=.ret (.int s.back):=by unfold Shp.d; rw [gl]; exact congrArg Tr.of vc
theorem Za1 (s:Shp):aV au s.d (.int 8)=.ret (.int s.late):=by unfold Shp.d; rw [gl]; exact congrArg Tr.of u9
section
variable (s:Shp)
noncomputable def Shp.nx (y f:Int):Int:=cf (y - f) (-s.depth)
noncomputable def Shp.day (y f:Int):Int:=(if s.nx y f > 0 then s.keep * s.nx y f else s.lack * -s.nx y f)+s.lost * (s.nx y f - (y - f))
noncomputable def Shp.ord (x y:Int):Int:=if y<=x then 0 else s.start+s.piece * (y - x)
noncomputable def Shp.wg (day:Aa) (y:Int) (ahead:Int->Int) (sc:Int):Int:=ws (λf=>sc * s.day y f+ahead (s.nx y f)) 0 day
noncomputable def Shp.sm (day:Aa) (ahead:Int->Int) (sc:Int) (y:Int):Int:=sc * day.sum * s.piece * y+s.wg day y ahead sc
end
noncomputable def Shp.n (s:Shp):Nat:=(s.top+1 - -s.depth).toNat
noncomputable def Shp.row (s:Shp) (f:Int->Int):Aa:=(aI (-s.depth) s.n).map f
noncomputable def lI (l:Aa):PyData:=.list (l.map PyData.int)
noncomputable def tI (l:Aa):PyData:=.tuple (l.map PyData.int)
theorem Shp.Ok.n_eq {s:Shp} (h:s.Ok):(s.n:Int)=s.top+s.depth+1:=by have:=h.t0; have:=h.d0; unfold Shp.n; omega
theorem iS (s:Shp) (f:Int->Int):(s.row f).length=s.n:=by unfold Shp.row; rw [vZ,gA]
theorem gz {s:Shp} {f:Int->Int} {x:Int} (h1:-s.depth<=x) (h2:x<=s.top):(s.row f)[(x+s.depth).toNat]?=some (f x):=by
 unfold Shp.row aI
 rw [ww,v5,wm (by unfold Shp.n; omega)]
 show some (f (-s.depth+((x+s.depth).toNat:Int)))=_
 congr 2
 omega
theorem ot {s:Shp} {f:Int->Int} {x:Int} (h1:-s.depth<=x) (h2:x<=s.top):bf ((s.row f).map PyData.int) (x+s.depth)=some (.int (f x)) :=
 dl (by omega) (by rw [v5,gz h1 h2]; rfl)
theorem ig (s:Shp) (y f:Int):-s.depth<=s.nx y f:=by unfold Shp.nx cf; split <;> omega
theorem ie {s:Shp} (h:s.Ok) {y f:Int} (hy:y<=s.top) (hf:0<=f):s.nx y f<=s.top:=by have:=h.t0; have:=h.d0; unfold Shp.nx cf; split <;> omega
end Tw
set_option Elab.async false
set_option linter.all false
set_option maxRecDepth 100000
namespace L2
variable {ρ:Af} {s t:zV} {i j l:zS} {is:zT} {k n:Nat} {x y d:PyData} {xs ys:z9} {sl:Sl}
theorem rb2 {α β:Type} {a:α} {f:α->Tr β}:(Tr.ret a).bind f=f a:=Eq.trans (Tr.ret_bind a f) (Eq.refl _)
noncomputable def sH (xs:z9):Tr z9:=.ret xs.reverse
theorem Ze8:sH xs=.ret xs.reverse:=rfl
noncomputable def Zb0 (xs:z9):Tr z9:=(jE xs).bind sH
theorem Zfb:vH is ρ=(is ρ).bind Zb0:=rfl
theorem Ze7:Zb0 xs=(jE xs).bind sH:=rfl
noncomputable def ZrE (k:Nat) (ρ:Af) (xs:z9):PyData->Tr Ou
 | .list ys=>if small (xs.length+ys.length)=true then .ret (.next (ρ.set k (.own (xs++ys)))) else .fail
 | _=>.fail
theorem pX (a b c d:Int):bZ i5 [.tuple [.int a,.int b],.tuple [.int c,.int d]]=.ret (if c < a\/c=a/\d < b then .tuple [.int c,.int d] else .tuple [.int a,.int b]):=by
 have h1:ints? [PyData.int a,.int b]=some [a,b]:=ints?_map [a,b]
 have h2:ints? [PyData.int c,.int d]=some [c,d]:=ints?_map [c,d]
 unfold bZ i5
 simp only [h1,h2]
 show Tr.of (some _)=_
 rw [Tr.of_some]
 have e:HT.di [c,d] [a,b]=true ↔ (c < a\/c=a/\d < b):=by
  simp only [HT.Zdz,HT.Zdy]
  by_cases hca:c=a
  ·subst hca
   by_cases hdb:d=b
   ·simp [hdb]
   ·simp [hdb]
  ·simp [hca]
 by_cases hc:(c < a\/c=a/\d < b)
 ·rw [if_pos (e.mpr hc),if_pos hc]; rfl
 ·rw [if_neg (λz=>hc (e.mp z)),if_neg hc]; rfl
theorem ZmD (ns:Aa) (h:ns≠[]):bZ oX [.list (ns.map PyData.int)]=.ret (.int (dZ ns)):=by
 unfold bZ oX fK
 simp [h]
theorem ZmJ (ns:Aa) (h:ns≠[]):bZ jN [.list (ns.map PyData.int)]=.ret (.int (fu ns)):=by
 unfold bZ jN fK
 simp [h]
noncomputable def jY:Nat->List Sl->PyData->Tr PyData
 | 0,.own xs::_,y=>jZ xs y
 | 0,.d (.list xs)::_,y=>jZ xs y
 | k+1,_::ρ,y=>jY k ρ y
 | _,_,_=>.fail
theorem Zf9:iI k j ρ=(j ρ).bind (jY k ρ):=by
 have key:∀ (k:Nat) (σ:Af) (y:PyData),(match σ[k]? with | some (Sl.own xs)=>jZ xs y | some (Sl.d (.list xs))=>jZ xs y | _=>Tr.fail)=jY k σ y:=by
  intro k
  induction k with
  | zero =>
   intro σ y
   cases σ with
   | nil=>rfl
   | cons s r =>
    cases s with
    | d x=>cases x <;> rfl
    | _=>rfl
  | succ k ih =>
   intro σ y
   cases σ with
   | nil=>rfl
   | cons s r=>exact ih r y
 unfold iI
 exact congrArg (Tr.bind (j ρ)) (funext λy=>key k ρ y)
theorem Zf8 (n:Int):jY 0 (.own xs::ρ) (.int n)=Tr.of (bf xs n):=rfl
theorem Zf7 (n:Int):jY 0 (.d (.list xs)::ρ) (.int n)=Tr.of (bf xs n):=rfl
theorem Zf6:jY (k+1) (sl::ρ) y=jY k ρ y:=rfl
theorem Zqy {α:Type} {t:Tr α} {P:α->Prop} (h:Al t 0 P):∃ a,t=.ret a/\P a:=by
 have h':=h.out
 cases t with
 | ret a=>exact ⟨a,rfl,h'⟩
 | draw w k=>exact h'.elim
 | fail=>exact h'.elim
theorem vq {α:Type} {t:Tr α} {a:α} (h:Al t 0 λb=>b=a):t=.ret a:=by
 obtain ⟨b,e,rfl⟩:=Zqy h
 exact e
theorem Zqv {α:Type} {t:Tr α} {a:α} {P:α->Prop} {N:Nat} (h:t=.ret a) (hp:P a):Al t N P:=by rw [h]; exact ce hp
theorem Zep {s:zV} {g:zY} {n:Nat} {full:z9} (I:List PyData->List Sl->Prop) {Q:Ou->Prop} (ht:∀ pre x post ρ,full=pre++x::post->I pre ρ->∃ ρ1,g x ρ=some ρ1/\(s ρ1).all n λo=>∃ ρ2,o=.next ρ2/\I (pre++[x]) ρ2) (hq:∀ ρ,I full ρ->Q (.next ρ)) :
  ∀ {xs pre:z9} {ρ:Af},full=pre++xs->I pre ρ->(bV g s xs ρ).all (xs.length * n) Q
 | [],pre,ρ,e,h0=>hq ρ (by rw [e,w8]; exact h0)
 | x::xs,pre,ρ,e0,h0=>by
  obtain ⟨ρ1,e,ha⟩:=ht pre x xs ρ e0 h0
  have en:(x::xs).length * n=n+xs.length * n:=by rw [wc,xP]; omega
  rw [en,eM,e,Tr.of_some,Tr.ret_bind]
  unfold lb
  refine Tr.all_bind ha λo ⟨ρ2,eo,h2⟩=>?_
  subst eo
  rw [fv]
  exact Zep I ht hq (by rw [e0,xk]; rfl) h2
theorem np {n N:Nat} {g:zY} {s:zV} {xs:z9} {ρ:Af} {Q:Ou->Prop} (I:List PyData->List Sl->Prop) (h0:I [] ρ) (hN:xs.length * n<=N) (ht:∀ pre x post ρ,xs=pre++x::post->I pre ρ->∃ ρ1,g x ρ=some ρ1/\Al (s ρ1) n λo=>∃ ρ2,o=.next ρ2/\I (pre++[x]) ρ2) (hq:∀ ρ,I xs ρ->Q (.next ρ)):Al (bV g s xs ρ) N Q :=
 .of (Tr.all_mono (Zep (full:=xs) I (λpre x post ρ e h=>let ⟨ρ1,e,a⟩:=ht pre x post ρ e h; ⟨ρ1,e,a.out⟩) hq (pre:=[]) rfl h0) hN λ_ h=>h)
theorem jD {lo hi:Int} {pre post:z9} {x:PyData} (h:aL lo hi=pre++x::post):x=.int (lo+pre.length)/\(pre.length:Int) < hi - lo:=by
 have h1:(aL lo hi)[pre.length]?=some x:=by rw [h]; simp
 have hl:pre.length < (aL lo hi).length:=(v8.mp h1).1
 rw [cM] at hl
 unfold aL aI at h1
 rw [ww,v5,wm (by omega)] at h1
 refine ⟨?_,by omega⟩
 cases h1
 rfl
theorem ZkP {lo hi:Int} {pre post:z9} {x:PyData} (h:(aL lo hi).reverse=pre++x::post):x=.int (hi - 1 - pre.length)/\(pre.length:Int) < hi - lo:=by
 have h1:((aL lo hi).reverse)[pre.length]?=some x:=by rw [h]; simp
 have hl:pre.length < ((aL lo hi).reverse).length:=(v8.mp h1).1
 rw [xY,cM] at hl
 rw [yU (by rw [cM]; exact hl),cM] at h1
 unfold aL aI at h1
 rw [ww,v5,wm (by omega)] at h1
 refine ⟨?_,by omega⟩
 cases h1
 show PyData.int (lo+(((hi - lo).toNat - 1 - pre.length:Nat):Int))=_
 congr 1
 omega
theorem Zdh {h:PyData->Tr PyData} {f:Int->PyData} {lo hi:Int} (hx:∀ z:Int,lo<=z->z < hi->h (.int z)=.ret (f z)):bG h (aL lo hi)=.ret ((aI lo (hi - lo).toNat).map f):=by
 have key:∀ l:Aa,(∀ z∈l,lo<=z/\z < hi)->bG h (l.map PyData.int)=.ret (l.map f):=by
  intro l
  induction l with
  | nil=>intro _; rfl
  | cons z l ih =>
   intro hz
   have hh:=hz z (by simp)
   rw [v9,bG,hx z hh.1 hh.2,Tr.ret_bind,ih λy hy=>hz y (v3 _ hy)]
   rfl
 unfold aL
 refine key _ λz hz=>?_
 have:=ma hz
 omega
theorem Zn5 {xs:z9} {pre post:z9} {x:PyData} (h:eN xs=pre++x::post):∃ y,xs[pre.length]?=some y/\x=.tuple [.int pre.length,y]:=by
 have h1:(eN xs)[pre.length]?=some x:=by rw [h]; simp
 unfold eN at h1
 rw [List.getElem?_zipWith] at h1
 cases hx:xs[pre.length]? with
 | none=>rw [hx] at h1; simp at h1
 | some y =>
  have hl:pre.length < xs.length:=(v8.mp hx).1
  rw [hx,wm hl] at h1
  simp at h1
  exact ⟨y,rfl,h1.symm⟩
theorem Zn6 (xs:z9):(eN xs).length=xs.length:=by unfold eN; simp
end L2
set_option Elab.async false
set_option linter.all false
set_option maxRecDepth 100000
namespace Tw
open L2
noncomputable def bst (g:Int->Int) (top:Int):Nat->Int×Int
 | 0=>(g top,top)
 | n+1=>if (bst g top n).1 < g (top - ((n+1:Nat):Int)) then bst g top n else (g (top - ((n+1:Nat):Int)),top - ((n+1:Nat):Int))
theorem qh (g:Int->Int) (top:Int):∀ n:Nat,top - n<=(bst g top n).2/\(bst g top n).2<=top/\g (bst g top n).2=(bst g top n).1
 | 0=>by unfold bst; simp
 | n+1=>by
  have ih:=qh g top n
  unfold bst
  split
  ·exact ⟨by omega,ih.2.1,ih.2.2⟩
  ·exact ⟨wK _,by omega,rfl⟩
theorem u5 (g:Int->Int) (top:Int):∀ (n:Nat) (y:Int),top - n<=y->y<=top->(bst g top n).1<=g y
 | 0,y,h1,h2=>by
  have:y=top:=by omega
  subst this
  unfold bst
  exact wK _
 | n+1,y,h1,h2=>by
  by_cases hy:y=top - ((n+1:Nat):Int)
  ·unfold bst
   split
   ·subst hy; omega
   ·subst hy; exact wK _
  ·have ih:=u5 g top n y (by omega) h2
   unfold bst
   split
   ·exact ih
   ·omega
noncomputable def pck (g:Int->Int) (top K x:Int):Int×Int :=
 match (top - x).toNat with
 | 0=>(g x,x)
 | n+1=>if K+(bst g top n).1 < g x then (K+(bst g top n).1,(bst g top n).2) else (g x,x)
noncomputable def cst (g:Int->Int) (top K P x:Int):Int:=(pck g top K x).1 - P * x
noncomputable def lvl (g:Int->Int) (top K x:Int):Int:=(pck g top K x).2
theorem jJ (g:Int->Int) (top K:Int):pck g top K top=(g top,top):=by
 unfold pck
 rw [Int.sub_self]
 rfl
theorem jK (g:Int->Int) (top K:Int) (n:Nat):pck g top K (top - ((n+1:Nat):Int))=if K+(bst g top n).1 < g (top - ((n+1:Nat):Int)) then (K+(bst g top n).1,(bst g top n).2) else (g (top - ((n+1:Nat):Int)),top - ((n+1:Nat):Int)):=by
 unfold pck
 have e:(top - (top - ((n+1:Nat):Int))).toNat=n+1:=by omega
 rw [e]
theorem ZcO {g:Int->Int} {top K x:Int} (hx:x<=top):(pck g top K x).1<=g x/\∀ y,x < y->y<=top->(pck g top K x).1<=K+g y:=by
 by_cases ht:x=top
 ·subst ht
  rw [jJ]
  exact ⟨wK _,λy h1 h2=>by omega⟩
 ·obtain ⟨n,hn⟩:∃ n:Nat,x=top - ((n+1:Nat):Int):=⟨(top - x - 1).toNat,by omega⟩
  subst hn
  rw [jK]
  split
  ·rename_i hc
   exact ⟨by dsimp only; omega,λy h1 h2=>by have:=u5 g top n y (by omega) h2; dsimp only; omega⟩
  ·rename_i hc
   exact ⟨wK _,λy h1 h2=>by have:=u5 g top n y (by omega) h2; dsimp only; omega⟩
theorem tD {g:Int->Int} {top K x:Int} (hx:x<=top):x<=(pck g top K x).2/\(pck g top K x).2<=top/\(((pck g top K x).2=x/\(pck g top K x).1=g x)\/(x < (pck g top K x).2/\(pck g top K x).1=K+g (pck g top K x).2/\(pck g top K x).1 < g x)):=by
 by_cases ht:x=top
 ·subst ht
  rw [jJ]
  exact ⟨wK _,wK _,.inl ⟨rfl,rfl⟩⟩
 ·obtain ⟨n,hn⟩:∃ n:Nat,x=top - ((n+1:Nat):Int):=⟨(top - x - 1).toNat,by omega⟩
  subst hn
  rw [jK]
  have hb:=qh g top n
  split
  ·rename_i hc
   exact ⟨by dsimp only; omega,hb.2.1,.inr ⟨by dsimp only; omega,by dsimp only; rw [hb.2.2],hc⟩⟩
  ·exact ⟨wK _,by dsimp only; omega,.inl ⟨rfl,rfl⟩⟩
theorem ZlT {g g':Int->Int} {top K x:Int} (h:∀ y,x<=y->y<=top->g y=g' y) (hx:x<=top):pck g top K x=pck g' top K x:=by
 have key:∀ n:Nat,x<=top - n->bst g top n=bst g' top n:=by
  intro n
  induction n with
  | zero=>intro hn; unfold bst; rw [h top (by omega) (by omega)]
  | succ n ih =>
   intro hn
   unfold bst
   rw [ih (by omega),h _ hn (by omega)]
 by_cases ht:x=top
 ·subst ht
  rw [jJ,jJ,h x (by omega) (by omega)]
 ·obtain ⟨n,hn⟩:∃ n:Nat,x=top - ((n+1:Nat):Int):=⟨(top - x - 1).toNat,by omega⟩
  subst hn
  rw [jK,jK,key n (by omega),h _ (by omega) (by omega)]
structure DayB (l:Aa):Prop where
 len:l.length<=16
 nb:∀ w∈l,nb 30 w
 w0:∀ w∈l,0<=w
 pos:0 < l.sum
theorem lh {s:Shp} (h:s.Ok) {y f:Int} (hy:nb 20 y) (hf:nb 40 f):nb 100 (s.day y f):=by
 have hd:nb 7 s.depth:=by have:=h.t0; have:=h.d0; have:=h.td; exact bM (by show -128 < _; omega) (by show _ < 128; omega)
 have hn:nb 50 (s.nx y f):=by
  unfold Shp.nx cf
  exact mx (aP (kM hd) (by decide)) (aP (eJ hy hf) (by decide))
 unfold Shp.day
 refine aP (dQ (mx (k:=95) (bF h.keep hn) (bF h.lack (kM hn))) (bF h.lost (eJ hn (eJ hy hf)))) (by decide)
def Bd (s:Shp) (b:Nat) (f:Int->Int):Prop:=∀ x,-s.depth<=x->x<=s.top->nb b (f x)
theorem ZiV {s:Shp} (h:s.Ok) {day:Aa} (hd:DayB day) {y:Int} (y1:-s.depth<=y) (y2:y<=s.top) {A:Int->Int} {b:Nat} (hA:Bd s b A) {sc:Int} (hs:nb b sc):nb (b+150) (s.wg day y A sc):=by
 have:=h.t0
 have:=h.d0
 have:=h.td
 have hlen:=hd.len
 have hy:nb 20 y:=bM (by show -1048576 < _; omega) (by show _ < 1048576; omega)
 have key:∀ (l:Aa) (k:Nat),(∀ w∈l,nb 30 w)->k+l.length<=16->nb (30+(b+101)+l.length) (ws (λf=>sc * s.day y f+A (s.nx y f)) k l):=by
  intro l
  induction l with
  | nil=>intro k _ _; unfold ws nb; exact xo (by simp)
  | cons w l ih =>
   intro k hw hk
   rw [wc] at hk ⊢
   have hf:nb 40 (k:Int):=bM (by show -1099511627776 < _; omega) (by show _ < 1099511627776; omega)
   have b1:=dQ (bF hs (lh h hy hf)) (hA _ (ig s y k) (ie h y2 (show (0:Int)<=k by omega)))
   have h1:=bF (hw w (by simp)) b1
   have h2:=ih (k+1) (λv hv=>hw v (v3 _ hv)) (by omega)
   unfold ws
   exact aP (dQ h1 h2) (by omega)
 exact aP (key day 0 hd.nb (by omega)) (by omega)
theorem dN {day:Aa} (hd:DayB day):nb 46 day.sum:=aP (ZaN hd.nb) (by have:=hd.len; omega)
theorem Zj4 {s:Shp} (h:s.Ok) {day:Aa} (hd:DayB day) {A:Int->Int} {b:Nat} (hA:Bd s b A) {sc:Int} (hs:nb b sc):Bd s (b+151) (s.sm day A sc):=λy y1 y2=>by
 have:=h.t0
 have:=h.d0
 have:=h.td
 have hy:nb 20 y:=bM (by show -1048576 < _; omega) (by show _ < 1048576; omega)
 unfold Shp.sm
 exact aP (dQ (bF (bF (bF hs (dN hd)) h.piece) hy) (ZiV h hd y1 y2 hA hs)) (by omega)
end Tw
set_option Elab.async false
set_option linter.all false
set_option maxRecDepth 100000
namespace Tw
open L2
noncomputable abbrev rng (lo hi:Int):Aa:=aI lo (hi - lo).toNat
variable {α:Type}
theorem sO (lo:Int) (a b:Nat):aI lo (a+b)=aI lo a++aI (lo+a) b:=by
 unfold aI
 rw [List.range_add,xn,ww]
 congr 1
 apply w6
 intro k _
 show lo+((a+k:Nat):Int)=lo+(a:Int)+(k:Int)
 omega
noncomputable def f3 (lo a b c:Int) (t:Int->Int->Int->Option α):Option α:=(rng lo a).findSome? λu=>(rng (u+1) b).findSome? λv=>(rng (v+1) c).findSome? λw=>t u v w
end Tw
set_option Elab.async false
set_option linter.all false
set_option maxRecDepth 100000
namespace Tw
open L2
noncomputable def enu:Nat->List Int->List PyData
 | _,[]=>[]
 | k,n::ns=>.tuple [.int k,.int n]::enu (k+1) ns
theorem Zhx:∀ (ns:Aa) (k:Nat),(List.range' k (ns.map PyData.int).length).zipWith (λ(n:Nat) x=>PyData.tuple [.int n,x]) (ns.map PyData.int)=enu k ns
 | [],k=>rfl
 | n::ns,k=>by
  rw [v9,wc,List.range'_succ,List.zipWith_cons_cons,Zhx ns (k+1)]
  rfl
theorem uD (ns:Aa):eN (ns.map PyData.int)=enu 0 ns:=by
 unfold eN
 rw [List.range_eq_range',Zhx]
theorem Zhw:∀ (ns:Aa) (k:Nat),(enu k ns).length=ns.length
 | [],k=>rfl
 | n::ns,k=>by rw [enu,wc,wc,Zhw ns]
noncomputable def fh:Nat->List Int->List Int
 | _,[]=>[]
 | k,n::ns=>if n > 0 then (k:Int)::fh (k+1) ns else fh (k+1) ns
theorem rP:∀ {ns:Aa} {k:Nat},(∃ n∈ns,n > 0)->fh k ns≠[]
 | [],k,h=>by obtain ⟨n,h,_⟩:=h; cases h
 | n::ns,k,h=>by
  unfold fh
  split
  ·simp
  ·rename_i hn
   obtain ⟨m,hm,hp⟩:=h
   rcases wo.mp hm with rfl | hm
   ·exact absurd hp hn
   ·exact rP ⟨m,hm,hp⟩
noncomputable def great (ls:Aa):Int:=fu (fh 0 ls)
structure DayOk (most:Nat) (ls:Aa):Prop where
 len:ls.length<=most
 pos:∃ n∈ls,n > 0
 le:∀ n∈ls,0<=n/\n<=1001
theorem ZjX {ls:Aa} (h:∀ n∈ls,0<=n):∀ n∈ls,n<=ls.sum:=by
 induction ls with
 | nil=>intro n hn; cases hn
 | cons a l ih =>
  intro n hn
  have h0:0<=l.sum:=by
   clear ih hn
   have h':∀ n∈l,0<=n:=λm hm=>h m (v3 _ hm)
   clear h
   induction l with
   | nil=>decide
   | cons b l ih2 =>
    rw [xA]
    have:=h' b (by simp)
    have:=ih2 λm hm=>h' m (v3 _ hm)
    omega
  have ha:=h a (by simp)
  rw [xA]
  rcases wo.mp hn with rfl | hn
  ·omega
  ·have:=ih (λm hm=>h m (v3 _ hm)) n hn
   omega
theorem DayOk.B {m:Nat} {ls:Aa} (h:DayOk m ls) (hm:m<=16):DayB ls:=by
 refine ⟨wv h.len hm,λw hw=>?_,λw hw=>(h.le w hw).1,?_⟩
 ·have:=h.le w hw
  exact bM (by show -1073741824 < _; omega) (by show _ < 1073741824; omega)
 ·obtain ⟨n,hn,hp⟩:=h.pos
  have:=ZjX (λn hn=>(h.le n hn).1) n hn
  omega
structure Shp.Dr (s:Shp):Prop where
 t0:0<=s.top
 d0:0<=s.depth
 td:s.top+s.depth<=39
 p:∀ n∈[s.start,s.piece,s.keep,s.lack,s.lost,s.back,s.late],0<=n/\n<=1000000
theorem Shp.Dr.ok {s:Shp} (h:s.Dr):s.Ok:=by
 have hp:=h.p
 simp only [wo,zo,or_false,forall_eq_or_imp,forall_eq] at hp
 obtain ⟨h1,h2,h3,h4,h5,h6,h7⟩:=hp
 have k:∀ n:Int,0<=n/\n<=1000000->nb 45 n:=λn hn=>bM (by show -35184372088832 < _; omega) (by show _ < 35184372088832; omega)
 exact ⟨h.t0,h.d0,by have:=h.td; omega,h1.1,k _ h1,k _ h2,k _ h3,k _ h4,k _ h5,k _ h6,k _ h7⟩
theorem Zkb {a b c d e f g h i:Int}:PyData.tuple [.int a,.int b,.int c,.int d,.int e,.int f,.int g,.int h,.int i]=(Shp.mk a b c d e f g h i).d:=by
 unfold Shp.d
 rfl
theorem uf (l:Aa):dC (tI l)=.ret (l.map PyData.int):=rfl
theorem ZdS (l:Aa):dC (lI l)=.ret (l.map PyData.int):=rfl
theorem gy (l:Aa):bZ dG [tI l]=.ret (.int l.sum):=pV l
end Tw
set_option Elab.async false
set_option linter.all false
set_option maxRecDepth 100000
set_option exponentiation.threshold 9000
namespace Tw
open L2
structure Rp (d:PyData) (k n:Nat):Prop where
 hd:d.hasDict=false
 sh:d.showable=true
 dp:d.depth<=k
 ln:d.shown.length<=n
theorem sI {d:PyData} {k n k' n':Nat} (h:Rp d k n) (hk:k<=k') (hn:n<=n'):Rp d k' n':=⟨h.hd,h.sh,wv h.dp hk,wv h.ln hn⟩
theorem Zb2 {i:Int} (h:nb 1900 i):Rp (.int i) 0 1901:=by
 have h1:=Zbb [i] λn hn=>by simp at hn; subst hn; exact h
 have h2:=(Zba [i] λn hn=>by simp at hn; subst hn; exact h).1
 refine ⟨rfl,?_,wS _,?_⟩
 ·simp only [v9,xR,PyData.showableAll,yM] at h1
  exact h1
 ·simp only [v9,xR,PyData.shownAll,xA,List.sum_nil,wc,xu] at h2
  omega
theorem Zb3 {k n:Nat}:∀ {xs:z9},(∀ x∈xs,Rp x k n)->PyData.hasDictAll xs=false/\PyData.showableAll xs=true/\PyData.depthAll xs<=k/\((PyData.shownAll xs).map (·.length)).sum<=xs.length * n/\(PyData.shownAll xs).length=xs.length
 | [],_=>⟨rfl,rfl,wS _,by simp [PyData.shownAll],rfl⟩
 | x::xs,h=>by
  obtain ⟨h1,h2,h3,h4,h5⟩:=Zb3 (xs:=xs) λy hy=>h y (v3 _ hy)
  have hx:=h x (by simp)
  refine ⟨?_,?_,?_,?_,?_⟩
  ·rw [PyData.hasDictAll,hx.hd,h1]; rfl
  ·rw [PyData.showableAll,hx.sh,h2]; rfl
  ·rw [PyData.depthAll]; have:=hx.dp; omega
  ·rw [PyData.shownAll,v9,xA,wc,xP]; have:=hx.ln; omega
  ·rw [PyData.shownAll,wc,wc,h5]
theorem ZkL {xs:z9} {k n:Nat} (h:∀ x∈xs,Rp x k n):Rp (.tuple xs) (k+1) (xs.length * n+2 * xs.length+10):=by
 obtain ⟨h1,h2,h3,h4,h5⟩:=Zb3 h
 have c3:=tupleText_len_le (PyData.shownAll xs)
 refine ⟨?_,?_,?_,?_⟩
 ·rw [PyData.hasDict,h1]
 ·rw [PyData.showable,h2]
 ·rw [PyData.depth]; omega
 ·rw [PyData.shown]; omega
theorem ZkM {l:Aa} {m:Nat} (h:∀ n∈l,nb 1900 n) (hl:l.length<=m):Rp (tI l) 1 (m * 1903+10):=by
 refine sI (ZkL (k:=0) (n:=1901) λx hx=>?_) (v4 _) ?_
 ·obtain ⟨i,hi,rfl⟩:=wP.mp hx
  exact Zb2 (h i hi)
 ·rw [vZ]
  have:l.length * 1903<=m * 1903:=xi _ hl
  omega
theorem ZkN {s:Shp} (h:s.Ok):Rp s.d 1 20000:=by
 have e:s.d=tI s.l:=by unfold Shp.d; rfl
 rw [e]
 refine sI (ZkM (m:=9) (λn hn=>?_) (v4 _)) (v4 _) (by decide)
 have:=h.t0
 have:=h.d0
 have:=h.td
 unfold Shp.l at hn
 simp only [wo,zo,or_false] at hn
 have k:∀ n:Int,nb 45 n->nb 1900 n:=λn hn=>aP hn (by decide)
 have k1:nb 1900 s.top:=k _ (bM (by show -35184372088832 < _; omega) (by show _ < 35184372088832; omega))
 have k2:nb 1900 s.depth:=k _ (bM (by show -35184372088832 < _; omega) (by show _ < 35184372088832; omega))
 rcases hn with rfl | rfl | rfl | rfl | rfl | rfl | rfl | rfl | rfl
 ·exact k1
 ·exact k2
 ·exact k _ h.start
 ·exact k _ h.piece
 ·exact k _ h.keep
 ·exact k _ h.lack
 ·exact k _ h.lost
 ·exact k _ h.back
 ·exact k _ h.late
end Tw
set_option Elab.async false
set_option linter.all false
set_option maxRecDepth 100000
set_option exponentiation.threshold 9000
namespace Tw
open L2
theorem euclid {p:zU} {s:zV} {E:Nat->Nat->List Sl} (hp:∀ a b:Nat,p (E a b)=.ret (decide (b≠0))) (hs:∀ a b:Nat,b≠0->s (E a b)=.ret (.next (E b (a % b)))) :
  ∀ n k a b:Nat,b < 2 ^ n->c7 p s (2 * n+1+k) (E a b)=.ret (.next (E (Nat.gcd a b) 0)):=by
 have stop:∀ k a:Nat,c7 p s (k+1) (E a 0)=.ret (.next (E a 0)):=λk a=>by
  rw [c7,hp,Tr.ret_bind]
  rfl
 have go:∀ k a b:Nat,b≠0->c7 p s (k+1) (E a b)=c7 p s k (E b (a % b)):=λk a b hb=>by
  rw [c7,hp,Tr.ret_bind,decide_eq_true hb,if_pos rfl,hs a b hb,Tr.ret_bind]
 intro n
 induction n with
 | zero =>
  intro k a b hb
  have e:b=0:=by simp at hb; exact hb
  subst e
  rw [Nat.gcd_zero_right,yx (2 * 0+1) k]
  exact stop k a
 | succ n ih =>
  intro k a b hb
  by_cases h0:b=0
  ·subst h0
   have e:2 * (n+1)+1+k=(2 * (n+1)+k)+1:=by omega
   rw [Nat.gcd_zero_right,e]
   exact stop _ a
  ·have e:2 * (n+1)+1+k=(2 * n+2+k)+1:=by omega
   rw [e,go _ a b h0]
   have hr:a % b < b:=Nat.mod_lt _ (xo h0)
   by_cases h1:a % b=0
   ·rw [h1]
    have e2:2 * n+2+k=(2 * n+1+k)+1:=by omega
    have eg:Nat.gcd a b=b:=by rw [yS,Nat.gcd_rec,h1,Nat.gcd_zero_left]
    rw [e2,eg]
    exact stop _ b
   ·have e2:2 * n+2+k=(2 * n+1+k)+1:=by omega
    rw [e2,go _ b (a % b) h1]
    have hlt:b % (a % b) < 2 ^ n:=by
     have h2:b % (a % b) < a % b:=Nat.mod_lt _ (xo h1)
     have h3:b % (a % b)+a % b<=b:=by
      have h4:=Nat.div_add_mod b (a % b)
      have h5:1<=b / (a % b):=(Nat.le_div_iff_mul_le (xo h1)).mpr (by omega)
      have h6:a % b<=(a % b) * (b / (a % b)):=Nat.le_mul_of_pos_right _ h5
      omega
     rw [Nat.pow_succ] at hb
     omega
    rw [ih k (a % b) (b % (a % b)) hlt]
    have eg:Nat.gcd a b=Nat.gcd (a % b) (b % (a % b)):=by
     rw [yS a b,Nat.gcd_rec b a,Nat.gcd_rec (a % b) b,yS]
    rw [eg]
theorem uu (a b:Nat):(a:Int).fmod (b:Int)=((a % b:Nat):Int):=by
 rw [zx _ (xC b)]
 rfl
theorem vE (n:Int):qA n=(n.natAbs:Int):=by
 unfold qA
 split <;> omega
noncomputable def fj (t b:Int):PyData:=.tuple [.int (Gc.cp t b),.int (Gc.b9 t b)]
theorem Zdr {t b:Int} {k l:Nat} (ht:nb k t) (hb:nb l b) (h0:b≠0):nb k (Gc.cp t b)/\nb l (Gc.b9 t b):=by
 obtain ⟨h1,h2⟩:=Gc.ZmP (t:=t) h0
 exact ⟨xz h1 ht,xz h2 hb⟩
theorem ZhQ {t b:Int} {l:Nat} (hb:nb l b) (h0:b≠0):nb l (Gc.den t b):=by
 unfold nb
 rw [Gc.uM]
 exact xz (Nat.gcd_le_right _ (by omega)) hb
noncomputable def pr (p:Int×Int):Aa:=[p.1,p.2]
end Tw
set_option Elab.async false
set_option linter.all false
set_option maxRecDepth 100000
namespace L2
mutual
noncomputable def cq:PyData->Bool
 | .none=>false
 | .bool _=>false
 | .int _=>false
 | .str _=>false
 | .list _=>true
 | .tuple xs=>gK xs
 | .dict kvs=>k8 kvs
noncomputable def gK:List PyData->Bool
 | []=>false
 | x::xs=>cq x || gK xs
noncomputable def k8:List (PyData×PyData)->Bool
 | []=>false
 | (_,v)::r=>cq v || k8 r
end
noncomputable def jX:aM->PyData
 | .inl i=>.int i
 | .inr x=>.str x
theorem Zd6:∀ {ks ds:z9},ks.length=ds.length->k8 (ks.zip ds)=gK ds
 | [],[],_=>by simp only [List.zip_nil_left,k8,gK]
 | k::ks,d::ds,h=>by
  rw [x9,k8,gK,Zd6 (Nat.succ.inj h)]
 | [],_::_,h=>by cases h
 | _::_,[],h=>by cases h
theorem Zna {P:Program} {w:World} {h:Heap}:∀ {es:List DictEntry} {vs:List (aM×Value)},Pairs (dH P w) es vs->ReadsAll h (es.map (·.key)) (vs.map λq=>jX q.1) []:=by
 intro es vs hp
 induction hp with
 | nil=>exact .nil
 | @cons e kv es kvs h1 h2 _ ih =>
  have h1':jW kv.1 e.key=true:=h1
  rcases gH h1' with ⟨i,t,e1,e2⟩ | ⟨x,t,e1,e2⟩
  ·rw [v9,v9,e1,e2]
   exact ReadsAll.cons (as:=[]) (bs:=[]) (.int i t) ih
  ·rw [v9,v9,e1,e2]
   exact ReadsAll.cons (as:=[]) (bs:=[]) (.str x t) ih
theorem ZlV {P:Program} {w:World} {es:List DictEntry} {vs:List (aM×Value)} (hp:Pairs (dH P w) es vs):es.map (·.val)=vs.map (·.2):=by
 induction hp with
 | nil=>rfl
 | @cons e kv es kvs h1 h2 _ ih=>rw [v9,v9,h2,ih]
theorem Zm8:∀ {ks:List (aM×V)} {vs:List (aM×Value)},KV ks vs->Vals (ks.map (·.2)) (vs.map (·.2))/\(ks.map (·.1))=vs.map (·.1):=by
 intro ks vs kv
 unfold KV at kv
 induction kv with
 | nil=>exact ⟨.nil,rfl⟩
 | cons h _ ih=>exact ⟨.cons h.2 ih.1,by rw [v9,v9,h.1,ih.2]⟩
theorem Zab:∀ {ks ds:z9},ks.length=ds.length->(ks.zip ds).map (·.1)=ks/\(ks.zip ds).map (·.2)=ds
 | [],[],_=>⟨rfl,rfl⟩
 | k::ks,d::ds,h=>by
  obtain ⟨h1,h2⟩:=Zab (Nat.succ.inj h)
  rw [x9,v9,v9,h1,h2]
  exact ⟨rfl,rfl⟩
 | [],_::_,h=>by cases h
 | _::_,[],h=>by cases h
mutual
/-- data without lists -/
theorem Dn.readsD {P:Program} {w:World} {H:Hp} {h:Heap} (ok:HOk P w H h):∀ {v:V} {d:PyData} {u:Value},Dn H v d->cq d=false->RelV v u->∃ as,Reads h u d as/\∀ b∈as,b≠sysModules
 | _,_,_,.non,_,r=>by cases r; exact ⟨_,.none,λb hb=>nomatch hb⟩
 | _,_,_,.bl b,_,r=>by cases r; exact ⟨_,.bool b,λb hb=>nomatch hb⟩
 | _,_,_,.int i,_,r=>by obtain ⟨t,rfl⟩:=r; exact ⟨_,.int i t,λb hb=>nomatch hb⟩
 | _,_,_,.str x,_,r=>by obtain ⟨t,rfl⟩:=r; exact ⟨_,.str x t,λb hb=>nomatch hb⟩
 | _,_,_,.tup e rs,hd,r=>by
  cases r
  obtain ⟨z,its,rv,o,h1,h2,n,h3⟩:=ok _ _ e
  obtain ⟨as,q,hq⟩:=DnAll.readsD ok rs (by rw [cq] at hd; exact hd) rv
  exact ⟨_,.tuple h1 h2 h3 (by simpa using q),hq⟩
 | _,_,_,.lst e rs,hd,r=>by rw [cq] at hd; cases hd
 | _,_,_,.dct (ks:=ks) (ds:=ds) e rs,hd,r=>by
  cases r
  obtain ⟨z,hsys,vs,kv,o,es,ep,h1,⟨h2,_⟩,h3,_,hp,_⟩:=e.ok ok
  obtain ⟨k1,k2⟩:=Zm8 kv
  have hl:(ks.map λk=>jX k.1).length=ds.length:=by
   have:=rs.length
   rw [vZ] at this ⊢
   exact this
  have hd2:k8 ((ks.map λk=>jX k.1).zip ds)=false:=by rw [cq] at hd; exact hd
  rw [Zd6 hl] at hd2
  obtain ⟨as,q,hq⟩:=DnAll.readsD ok rs hd2 k1
  obtain ⟨z1,z2⟩:=Zab hl
  have k3:(ks.map λk=>jX k.1)=vs.map λq=>jX q.1:=by
   have:=congrArg (List.map jX) k2
   rw [ww,ww] at this
   exact this
  show ∃ as,Reads h _ (.dict ((ks.map λk=>jX k.1).zip ds)) as/\_
  refine ⟨_,.dict (as:=[]) (bs:=as) h1 h2 h3 ?_ ?_,λb hb=>?_⟩
  ·rw [z1,k3]
   exact Zna hp
  ·rw [z2,ZlV hp]
   exact q
  ·rcases wU.mp hb with hb | hb
   ·rw [List.mem_singleton] at hb
    rw [hb]
    exact beq_eq_false_iff_ne.mp hsys
   ·exact hq b hb
theorem DnAll.readsD {P:Program} {w:World} {H:Hp} {h:Heap} (ok:HOk P w H h):∀ {vs:Ad} {ds:z9} {us:Ab},DnAll H vs ds->gK ds=false->Vals vs us->∃ as,ReadsAll h us ds as/\∀ b∈as,b≠sysModules
 | _,_,_,.nil,_,r=>by cases r; exact ⟨_,.nil,λb hb=>nomatch hb⟩
 | _,_,_,.cons p t,hd,r=>by
  cases r with
  | cons r1 r2 =>
   rw [gK,Bool.or_eq_false_iff] at hd
   obtain ⟨as,q,hq⟩:=Dn.readsD ok p hd.1 r1
   obtain ⟨bs,q2,hq2⟩:=DnAll.readsD ok t hd.2 r2
   refine ⟨_,.cons q q2,λb hb=>?_⟩
   rcases wU.mp hb with hb | hb
   ·exact hq b hb
   ·exact hq2 b hb
end
def Zci (xs:Ad) (H:Hp) (Q:VK):Prop:=∃ v d,xs=[v]/\Dn H v d/\(d.hasDict=false\/cq d=false)/\d.showable=true/\d.depth<=32/\d.shown.length<=sizeLine/\Q (.str d.shown) H
theorem Zh8 {X:Cx} {k:Nat} (hr:Room k X.A):dM X (.builtin "repr") Zci:=by
 intro pins s σ H xs us Q I r h
 obtain ⟨v,d,rfl,hd,hor,hs,hdp,hz,q⟩:=h
 obtain ⟨u,rfl,ru⟩:=eB r
 have hun:=hr.units
 have key:∀ (as:List Addr),Reads s.heap u d as->(d.hasDict=true->sysModules ∉ as)->wpAny (model X.prog X.w) X.A (call (.builtin "repr") [u]) (EP X pins σ Q) X.xe s:=by
  intro as rd hsm
  have viaRef:∀ {a:Addr},u=.ref a->wpAny (model X.prog X.w) X.A (call (.builtin "repr") [u]) (EP X pins σ Q) X.xe s:=λ{a} e=>by
   subst e
   exact repr_of_reads' rd hs hsm hr.gd (by omega) (λ_ _ e=>e) (λh' u' tk hk=>⟨.str d.shown,H,I.kept hk,⟨_,rfl⟩,q⟩) hz
  cases rd with
  | none=>exact PySem.P.repr_of_none ⟨.str "None",H,I.tok _,⟨_,rfl⟩,q⟩
  | bool b=>exact PySem.P.repr_of_bool ⟨.str (if b then "True" else "False"),H,I.tok _,⟨_,rfl⟩,q⟩
  | int i t=>exact PySem.P.repr_of_int (by simpa [PyData.showable] using hs) ⟨.str (toString i),H,I.tok _,⟨_,rfl⟩,q⟩
  | str x t=>exact PySem.P.repr_of_str ⟨.str (reprText x),H,I.tok _,⟨_,rfl⟩,q⟩ hz
  | list h1 h2 h3 h4=>exact viaRef rfl
  | tuple h1 h2 h3 h4=>exact viaRef rfl
  | dict h1 h2 h3 h4 h5=>exact viaRef rfl
 rcases hor with hn | hn
 ·obtain ⟨as,rd⟩:=Dn.reads I.hok hd hn ru
  exact key as rd (PyData.noDict_hsm hn)
 ·obtain ⟨as,rd,hsys⟩:=Dn.readsD I.hok hd hn ru
  exact key as rd λ_ hm=>hsys _ hm rfl
noncomputable def jF (d:PyData):Bool:=(!d.hasDict || !cq d) && d.showable && decide (d.depth<=32) && decide (d.shown.length<=sizeLine)
noncomputable def l9:List PyData->Option PyData
 | [d]=>if jF d=true then some (.str d.shown) else none
 | _=>none
theorem Zal:eR Zci l9:=λPK pa m G H vs ds d Q w hv hd k=>by
 unfold l9 at hd
 split at hd
 ·split at hd
  ·rename_i hc
   unfold jF at hc
   simp only [wl,Bool.or_eq_true,decide_eq_true_eq,yH] at hc
   cases hd
   cases hv with
   | cons h1 h2=>cases h2; exact ⟨_,_,rfl,h1.mono w.sub,hc.1.1.1,hc.1.1.2,hc.1.2,hc.2,k.here w (.str _)⟩
  ·cases hd
 ·cases hd
section
variable {PK:Pk} {X:Cx} {pos:Pos} {i j:zS}
theorem Kn.dct {pa:Addr} {m:Nat} {G H:Hp} {ks:List (aM×V)} {ds:z9} {Q:VK} {p:Addr} (k:Kn PK pa m G H (.dict ((ks.map λk=>match k.1 with | .inl i=>PyData.int i | .inr x=>PyData.str x).zip ds)) Q) (w:Wd PK pa m G H) (d:DnAll G (ks.map (·.2)) ds) (hp:H p=none):Q (.ref p) (upd H p (.dK ks)):=by
 obtain ⟨w1,s1⟩:=w.new (o:=.dK ks) hp
 exact k _ _ _ s1 w1 (.dct (.inl cA) (DnAll.mono s1.gs d))
theorem vD:PE X (.Dict [] [] pos) (TAe PK (aC (.dict []))):=ZlL.imp λσ H Q hz0=>by
 obtain ⟨pa,Ag,H₀,m,ρ,G,R,q⟩:=hz0
 exact λp hp=>Kn.dct (ks:=[]) (ds:=[]) q R.wd .nil hp
noncomputable def ZrF:zZ
 | .int k,v=>some (.dict [(.int k,v)])
 | _,_=>none
end
noncomputable def jA:List PyData->Option PyData
 | [.int i]=>if i.natAbs.log2 < 1920 then some (.str (toString i)) else none
 | _=>none
theorem Zak:eR (λxs H Q=>∃ i,xs=[.int i]/\i.natAbs.log2 < 1920/\Q (.str (toString i)) H) jA:=λPK pa m G H vs ds d Q w hv hd k=>by
 unfold jA at hd
 split at hd
 ·split at hd
  ·rename_i hc
   cases hd
   cases hv with
   | cons h1 h2=>cases h2; cases h1; exact ⟨_,rfl,hc,k.here w (.str _)⟩
  ·cases hd
 ·cases hd
theorem ZnX {d:PyData} (h:jF d=true):bZ l9 [d]=.ret (.str d.shown):=by
 show Tr.of (if jF d=true then some (PyData.str d.shown) else none)=_
 rw [if_pos h]
 rfl
theorem ZeP {i:Int} (h:i.natAbs.log2 < 1920):bZ jA [.int i]=.ret (.str (toString i)):=by
 show Tr.of (if i.natAbs.log2 < 1920 then some (PyData.str (toString i)) else none)=_
 rw [if_pos h]
 rfl
end L2
set_option Elab.async false
set_option linter.all false
set_option maxRecDepth 100000
namespace L2
noncomputable def plE:Expr->Bool
 | .Starred ..=>false
 | _=>true
theorem Zj0 {e:Expr} {es:List Expr} {env:Env} (h:plE e=true):starEach (e::es) env=(false,eval e env)::starEach es env:=by
 cases e <;> first | rfl | cases h
section
variable {X:Cx} {PK:Pk} {e:Expr} {es:List Expr} {i:zS} {is:zT}
theorem bQ (ha:PE X e (TAe PK i)) (hr:PA X es (TAd PK is)) (hs:plE e=true:=by rfl):PA X (e::es) (TAd PK (ae i is)):=ah ha hr (Zj0 hs)
end
end L2
set_option Elab.async false
set_option linter.all false
set_option maxRecDepth 100000
namespace L2
variable {PK:Pk} {X:Cx} {st:Stmt} {i n:zS}
noncomputable def Zcr (K:zR):V->V->Hp->VK->Prop:=λx y H Q=>∃ p xs i v,x=.ref p/\y=.int i/\SqL K H p xs/\0<=i/\bf xs i=some v/\Q v H
theorem Zd7:ZiJ X (Zcr X.K):=by
 intro pins s σ H x y v u Q I rx ry h
 obtain ⟨p,xs,i,z,rfl,rfl,hq,h0,he,q⟩:=h
 cases rx
 obtain ⟨t,rfl⟩:=ry
 obtain ⟨its,r,pl,hz⟩:=I.list hq
 obtain ⟨j,h1,h2,h3,h4,h5⟩:=qr he
 obtain ⟨w,ew,rw'⟩:=r.get h2
 have hl:=r.length
 have hn:=i8
 have fin:EP X pins σ Q w s:=⟨z,H,I,rw',q⟩
 have hj:i.toNat=j:=by
  rw [seqIndex_of h0 h5] at h1
  exact wG h1
 exact wpAny_getItem_list pl.isList h0 (by omega) (by rw [hj]; simpa using ew) fin
noncomputable def tJ (xs:z9):PyData->Option (Nat×Int)
 | .int y=>if 0<=y then (match xs[y.toNat]? with | some (.int a)=>some (y.toNat,a) | _=>none) else none
 | _=>none
noncomputable def ZdZ:PyData->Option Int
 | .int b=>some b
 | _=>none
noncomputable def ka (g:Int->Int->Int) (k:Nat) (n i:zS):zV:=λρ=>match ρ[k]? with
 | some (.own xs)=>(n ρ).bind λy=>(Tr.of (tJ xs y)).bind λja=>(i ρ).bind λz=>(Tr.of (ZdZ z)).bind λb=>.ret (.next (ρ.set k (.own (xs.set ja.1 (.int (g ja.2 b))))))
 | _=>.fail
theorem Ziy {k:Nat} {g:Int->Int->Int} (h:PS X st (ZaD (fA k) (TAe PK n) (TAe PK i) (Zcr X.K) (ug g) sP)):PS X st (bT PK (ka g k n i)):=h.imp λD σ H hz0=>by
 obtain ⟨pa,Ag,H₀,m,ρ,G,R,z⟩:=hz0
 unfold ka at z
 split at z
 ·rename_i xs hx
  obtain ⟨o,h1,h2⟩:=R.sl k _ hx
  cases h2 with
  | @own p vs _ a1 a2 a3 a4 =>
   refine ⟨_,h1,?_⟩
   refine TAe.then R z λm1 y v G1 H1 s1 w1 R1 d1 q1=>?_
   rw [Tr.ok_bind] at q1
   obtain ⟨ja,hja,q1⟩:=Tr.ok_of q1
   cases d1 with
   | int y =>
    have hy:∃ a,0<=y/\xs[y.toNat]?=some (.int a)/\ja=(y.toNat,a):=by
     have hja:(if 0<=y then (match xs[y.toNat]? with | some (.int a)=>some (y.toNat,a) | _=>none) else none)=some ja:=hja
     by_cases h0:0<=y
     ·rw [if_pos h0] at hja
      cases e:xs[y.toNat]? with
      | none=>rw [e] at hja; cases hja
      | some u =>
       rw [e] at hja
       cases u with
       | int a=>cases hja; exact ⟨a,h0,rfl,rfl⟩
       | _=>cases hja
     ·rw [if_neg h0] at hja; cases hja
    obtain ⟨a,h0,hat,rfl⟩:=hy
    obtain ⟨o,h1',h2⟩:=R1.sl k _ hx
    rw [h1] at h1'
    cases h1'
    cases h2 with
    | @own _ vs1 _ b1 b2 b3 b4 =>
     obtain ⟨va,hva,da⟩:=DnAll.get y.toNat b4 hat
     cases da
     refine ⟨p,vs1,y,.int a,rfl,rfl,SqL.of b1,h0,dl h0 hva,?_⟩
     refine TAe.then R1 q1 λm2 z2 u G2 H2 s2 w2 R2 d2 q2=>?_
     rw [Tr.ok_bind] at q2
     obtain ⟨b,hb,q2⟩:=Tr.ok_of q2
     cases d2 with
     | int b' =>
      cases hb
      obtain ⟨o,h1',h2⟩:=R2.sl k _ hx
      rw [h1] at h1'
      cases h1'
      cases h2 with
      | @own _ vs2 _ c1 c2 c3 c4 =>
       have hlt:y.toNat < xs.length:=(v8.mp hat).1
       refine ⟨a,b,rfl,rfl,p,vs2,y,y.toNat,rfl,rfl,c1,?_,?_⟩
       ·unfold de
        rw [if_pos h0,if_pos (by rw [c4.length]; omega)]
       ·exact q2 σ G2 _ (s1.gs.trans s2.gs) (R2.change hx h1 (c4.set y.toNat (.int _)))
     | _=>cases hb
   | _=>cases hja
 ·exact z.elim
variable {ρ:Af} {k:Nat} {g:Int->Int->Int} {xs:z9} {sl:Sl}
noncomputable def ag3 (g:Int->Int->Int) (k:Nat) (xs:z9) (ρ:Af) (ja:Nat×Int) (b:Int):Tr Ou:=.ret (.next (ρ.set k (.own (xs.set ja.1 (.int (g ja.2 b))))))
noncomputable def vx (g:Int->Int->Int) (k:Nat) (xs:z9) (ρ:Af) (ja:Nat×Int) (z:PyData):Tr Ou:=(Tr.of (ZdZ z)).bind (ag3 g k xs ρ ja)
noncomputable def vz (g:Int->Int->Int) (k:Nat) (i:zS) (xs:z9) (ρ:Af) (ja:Nat×Int):Tr Ou:=(i ρ).bind (vx g k xs ρ ja)
noncomputable def vA (g:Int->Int->Int) (k:Nat) (i:zS) (xs:z9) (ρ:Af) (y:PyData):Tr Ou:=(Tr.of (tJ xs y)).bind (vz g k i xs ρ)
theorem Zg3 (h:ρ[k]?=some (.own xs)):ka g k n i ρ=(n ρ).bind (vA g k i xs ρ):=by
 unfold ka
 rw [h]
 rfl
theorem Zhi {y:Int} {a:Int} (h0:0<=y) (h:xs[y.toNat]?=some (.int a)):vA g k i xs ρ (.int y)=vz g k i xs ρ (y.toNat,a):=by
 have e:tJ xs (.int y)=some (y.toNat,a):=by
  show (if 0<=y then (match xs[y.toNat]? with | some (.int a)=>some (y.toNat,a) | _=>none) else none)=_
  rw [if_pos h0,h]
 unfold vA
 rw [e]
 rfl
theorem Zhh {ja:Nat×Int}:vz g k i xs ρ ja=(i ρ).bind (vx g k xs ρ ja):=rfl
theorem Zhg {ja:Nat×Int} (b:Int):vx g k xs ρ ja (.int b)=.ret (.next (ρ.set k (.own (xs.set ja.1 (.int (g ja.2 b)))))):=rfl
end L2
set_option Elab.async false
set_option linter.all false
set_option maxRecDepth 100000
namespace L2
variable {PK:Pk} {X:Cx} {e:Expr} {pos:Pos} {is:zT} {st:Stmt} {s:zV}
noncomputable def rem (H:Hp) (p:Addr):Hp:=λb=>if b=p then none else H b
theorem sN {H:Hp} {p b:Addr} (h:b≠p):rem H p b=H b:=if_neg h
theorem ZkW {H:Hp} {p:Addr}:rem H p p=none:=if_pos rfl
theorem ZkV {H:Hp} {p b:Addr} {o:HO} (h:rem H p b=some o):H b=some o:=by
 unfold rem at h
 split at h
 ·cases h
 ·exact h
def ZqI (PK:Pk) (f:zW):Sp:=λvs H Q _=>∃ p us xs pa m G,vs=[.ref p]/\H p=some (.lst us)/\G p=none/\p≠pa/\Wd PK pa m G H/\DnAll G us xs/\(f [.own xs]).ok m λm' r=>Kr PK pa m' G (rem H p) r Q
def vX (PK:Pk) (P:Program) (w:World) (K:zR) (mg:Ae) (base:Heap) (x:Str) (k:Nat) (y:Str) (f:zW):Prop:=Callee P w K mg base x k [y] (ZqI PK f)
theorem ZqG {P:Program} {w:World} {K:zR} {mg:Ae} {base:Heap} {x y:Str} {N:Ac} {kk k:Nat} (D:Def K mg x st [y]) (S:FnScope N [y] (aO st)) (hk:N.length - 1=k) (hN:1<=N.length)
  (hbody:∀ (f:Addr) (cdv:Value) (A:Around) (outer:List Env) (sh:Shared) (H:Hp) (E:XK),Room kk (A.deeper (envOfC x (aO st) sh.heap.objs.size f cdv)) ->
   PSs (iD iL P w K mg base N x (aO st) f cdv A outer sh H E).nox (gN st) (bT PK s)):vX PK P w K mg base x (kk+1) y (bm 1 k s):=by
 refine D.ok S (λvs H Q E h=>?_) λf cdv A outer sh H vs Q E hr hsp=>?_
 ·obtain ⟨p,us,xs,pa,m,G,rfl,_⟩:=h
  rfl
 ·obtain ⟨p,us,xs,pa,m,G,rfl,h1,h2,h3,wd,dn,z⟩:=hsp
  refine ⟨_,hbody f cdv A outer sh H E hr,?_⟩
  unfold bm at z
  obtain ⟨_,z⟩:=ic z
  have R:Rl PK pa G (rem H p) m (L2.start N [.ref p]) ([.own xs]++List.replicate k .un) G H:=by
   obtain ⟨o,ho,hpk⟩:=wd.pen
   have hs:∀ (q:Nat) (sl:Sl),([Sl.own xs]++List.replicate k .un)[q]?=some sl->(q=0/\sl=.own xs)\/(1<=q/\q < k+1/\sl=.un):=λq sl h=>by
    cases q with
    | zero=>simp at h; exact .inl ⟨rfl,h.symm⟩
    | succ q =>
     simp only [List.cons_append,yq,yJ,wJ] at h
     split at h
     ·cases h
      exact .inr ⟨by omega,by omega,rfl⟩
     ·cases h
   refine ⟨wd,⟨λ_ _ h=>h,λ_ _ h=>.inl h,λb o h _=>ZkV h⟩,⟨o,by rw [sN (Ne.symm h3)]; exact ho⟩,λq sl h=>?_,?_,λq n xs ys hn q1 q2=>?_,λq n xs ys hn q1 q2=>?_⟩
   ·rcases hs q sl h with ⟨rfl,rfl⟩ | ⟨a,b,rfl⟩
    ·exact ⟨_,rfl,.own h1 h2 ZkW dn⟩
    ·unfold L2.start
     refine ⟨none,?_,.un⟩
     rw [wL (by simpa using a),wJ,if_pos (by simp; omega)]
   ·unfold L2.start
    simp
    omega
   ·rcases hs q _ q1 with ⟨rfl,_⟩ | ⟨_,_,z⟩
    ·rcases hs n _ q2 with ⟨rfl,_⟩ | ⟨_,_,z⟩
     ·exact absurd rfl hn
     ·cases z
    ·cases z
   ·rcases hs q _ q1 with ⟨_,z⟩ | ⟨_,_,z⟩ <;> cases z
  refine ⟨pa,G,rem H p,m,_,G,R,Tr.ok_mono (Tr.ok_bind.mp z) λm1 o ko=>?_⟩
  cases o with
  | next ρ=>exact λσ G1 H1 sb R1=>ko .non G1 H1 R1.st R1.wd .non
  | ret r=>exact ko
  | brk ρ=>exact ko.elim
  | cont ρ=>exact ko.elim
noncomputable def cO (f:zW) (xs:z9):Tr Re:=f [.own xs]
noncomputable def vL (f:zW) (is:zT):zW:=λρ=>(is ρ).bind (cO f)
theorem Zn0 {f:zW} {ρ:Af}:vL f is ρ=(is ρ).bind (cO f):=rfl
theorem Zn1 {f:zW} {xs:z9}:cO f xs=f [.own xs]:=rfl
theorem Zqq {x y:Str} {k:Nat} {f:zW} {pp:Pos} (C:vX PK X.prog X.w X.K X.mg X.base x k y f) (hr:Room k X.A) (hg:Gl X x) (ha:PE X e (ff PK is))
  (hdb:(x == ("__debug__":Str))=false:=by decide)
  (hs:starEach [e] X.env=(false,eval e X.env)::starEach [] X.env:=by rfl) (hpl:(backTo pos (starEach [] X.env)).any (·.1)=false:=by rfl):PE X (.Call (.Name x pp) [e] [] pos) (nF PK (vL f is)) :=
 (oG C hr hg (bp ha cm hs) hdb hs hpl).imp λσ H Q hz0=>by
  obtain ⟨pa,Ag,H₀,m,ρ,G,R,z⟩:=hz0
  refine ⟨pa,Ag,H₀,m,ρ,G,R,Tr.ok_mono (Tr.ok_bind.mp z) λm1 xs q1=>?_⟩
  intro p vs G' H' s1 w1 hp hgp hl dn
  obtain ⟨o,ho,_⟩:=R.wd.pen
  have hne:p≠pa:=λe=>by rw [e,ho] at hp; cases hp
  refine ⟨p,vs,xs,pa,m1,G',rfl,hl,hgp,hne,w1,dn,Tr.ok_mono q1 λm2 r k=>?_⟩
  refine Kr.later k ⟨s1.gs,s1.gn,λb o h n=>?_⟩ ?_
  ·have hb:b≠p:=λe=>by rw [e,hp] at h; cases h
   rw [sN hb]
   exact s1.hk b o h n
  ·obtain ⟨o',ho',_⟩:=w1.pen
   exact ⟨o',by rw [sN (Ne.symm hne)]; exact ho'⟩
end L2
set_option Elab.async false
set_option linter.all false
set_option maxRecDepth 100000
namespace Tw
open L2
theorem lD {f:Int->Int} {m:Int}:∀ {l:Aa} {k:Nat},ws (λx=>m * f x) k l=m * ws f k l
 | [],k=>by unfold ws; simp
 | w::l,k=>by
  unfold ws
  rw [lD (l:=l)]
  grind
theorem Zih {g:Int->Int} {top m:Int} (hm:0 < m):∀ n:Nat,bst (λy=>m * g y) top n=(m * (bst g top n).1,(bst g top n).2)
 | 0=>rfl
 | n+1=>by
  unfold bst
  rw [Zih hm n]
  dsimp only
  by_cases h:(bst g top n).1 < g (top - ((n+1:Nat):Int))
  ·rw [if_pos h,if_pos (xW h hm)]
  ·rw [if_neg h,if_neg (λz=>h (yA z (wC hm)))]
theorem ZcN {g:Int->Int} {top K m x:Int} (hm:0 < m) (hx:x<=top):pck (λy=>m * g y) top (m * K) x=(m * (pck g top K x).1,(pck g top K x).2):=by
 by_cases ht:x=top
 ·subst ht
  rw [jJ,jJ]
 ·obtain ⟨n,hn⟩:∃ n:Nat,x=top - ((n+1:Nat):Int):=⟨(top - x - 1).toNat,by omega⟩
  subst hn
  rw [jK,jK,Zih hm]
  dsimp only
  rw [<- xZ]
  by_cases h:K+(bst g top n).1 < g (top - ((n+1:Nat):Int))
  ·rw [if_pos h,if_pos (xW h hm)]
  ·rw [if_neg h,if_neg (λz=>h (yA z (wC hm)))]
end Tw
set_option Elab.async false
set_option linter.all false
set_option maxRecDepth 100000
namespace Tw
open L2
noncomputable abbrev Rw:=Aa×Int
noncomputable def tot (X:List Rw) (c:List Int->Int):Int:=(X.map λp=>p.2 * c p.1).sum
def Shp.RlOk (s:Shp) (g:Int->Int):Prop:=∀ x,-s.depth<=x->x<=s.top->x<=g x/\g x<=s.top
theorem oJ {s:Shp} (h:s.Ok) {x y:Int} (hx:nb 20 x) (hy:nb 20 y):nb 100 (s.ord x y):=by
 unfold Shp.ord
 exact mx (show (0:Int).natAbs < 2 ^ 100 from xo (by simp)) (aP (dQ h.start (bF h.piece (eJ hy hx))) (by decide))
theorem f9 {s:Shp} (h:s.Ok) {x:Int} (x1:-s.depth<=x) (x2:x<=s.top):nb 20 x:=by
 have:=h.t0
 have:=h.d0
 have:=h.td
 exact bM (by show -1048576 < _; omega) (by show _ < 1048576; omega)
theorem Zaf {f:Int->Int} {a b:Nat}:∀ {l:Aa} {k:Nat},(∀ w∈l,nb a w)->(∀ x:Int,(k:Int)<=x->x < k+l.length->nb b (f x))->nb (a+b+l.length) (ws f k l)
 | [],k,_,_=>by unfold ws nb; exact xo (by simp)
 | w::l,k,hw,hf=>by
  rw [wc] at hf ⊢
  have h1:=bF (hw w (by simp)) (hf k (by omega) (by omega))
  have h2:=Zaf (f:=f) (a:=a) (b:=b) (l:=l) (k:=k+1) (λv hv=>hw v (v3 _ hv)) λx x1 x2=>hf x (by omega) (by omega)
  unfold ws
  exact aP (dQ h1 h2) (by omega)
end Tw
set_option Elab.async false
set_option linter.all false
set_option maxRecDepth 100000
namespace Tw
open L2
end Tw
set_option Elab.async false
set_option linter.all false
set_option maxRecDepth 100000
namespace L2
theorem Zeo {g:zY} {s:zV} {r:Re} {full:z9} (B:List PyData->PyData->Prop) (I:List PyData->List Sl->Prop)
  (ht:∀ pre x post ρ,full=pre++x::post->I pre ρ->∃ ρ1,g x ρ=some ρ1/\((B pre x/\s ρ1=.ret (.ret r))\/(¬ B pre x/\∃ ρ2,s ρ1=.ret (.next ρ2)/\I (pre++[x]) ρ2))) :
  ∀ {xs pre:z9} {ρ:Af},full=pre++xs->I pre ρ->(∀ p x q,pre=p++x::q->¬ B p x) ->
   ((∃ p x q,full=p++x::q/\B p x)/\bV g s xs ρ=.ret (.ret r))\/((∀ p x q,full=p++x::q->¬ B p x)/\∃ ρ2,bV g s xs ρ=.ret (.next ρ2)/\I full ρ2)
 | [],pre,ρ,e,h0,hn=>by
  rw [w8] at e
  subst e
  exact .inr ⟨hn,ρ,rfl,h0⟩
 | x::xs,pre,ρ,e,h0,hn=>by
  obtain ⟨ρ1,e1,hx⟩:=ht pre x xs ρ e h0
  rw [eM,e1,Tr.of_some,Tr.ret_bind]
  unfold lb
  rcases hx with ⟨hb,e2⟩ | ⟨hb,ρ2,e2,h2⟩
  ·exact .inl ⟨⟨pre,x,xs,e,hb⟩,by rw [e2,Tr.ret_bind]; rfl⟩
  ·rw [e2,Tr.ret_bind,fv]
   refine Zeo B I ht (xs:=xs) (pre:=pre++[x]) (by rw [e,xk]; rfl) h2 λp y q hp=>?_
   rcases List.append_eq_append_iff.mp hp with ⟨a,h1,h2'⟩ | ⟨a,h1,h2'⟩
   ·cases a with
    | nil =>
     rw [yq] at h2'
     rw [w8] at h1
     cases h2'
     subst h1
     exact hb
    | cons z a =>
     simp at h2'
   ·cases a with
    | nil =>
     rw [yq] at h2'
     rw [w8] at h1
     cases h2'
     subst h1
     exact hb
    | cons z a =>
     rw [List.cons_append] at h2'
     cases h2'
     exact hn p y a h1
theorem mX {g:zY} {s:zV} {r:Re} {xs:z9} {ρ:Af} (B:List PyData->PyData->Prop) (I:List PyData->List Sl->Prop) (h0:I [] ρ)
  (ht:∀ pre x post ρ,xs=pre++x::post->I pre ρ->∃ ρ1,g x ρ=some ρ1/\((B pre x/\s ρ1=.ret (.ret r))\/(¬ B pre x/\∃ ρ2,s ρ1=.ret (.next ρ2)/\I (pre++[x]) ρ2))) :
   ((∃ p x q,xs=p++x::q/\B p x)/\bV g s xs ρ=.ret (.ret r))\/((∀ p x q,xs=p++x::q->¬ B p x)/\∃ ρ2,bV g s xs ρ=.ret (.next ρ2)/\I xs ρ2) :=
 Zeo B I ht (xs:=xs) (pre:=[]) rfl h0 λp x q hp=>by
  have:=congrArg List.length hp
  simp at this
end L2
set_option Elab.async false
set_option linter.all false
set_option maxRecDepth 100000
namespace Bar
noncomputable abbrev bK:=Nat->Int
noncomputable def lap (f:bK->Int):List bK->(List bK->Int)->Int
 | [],_=>0
 | c::cs,g=>f c * g cs - lap f cs λr=>g (c::r)
theorem t3 (f:bK->Int) (m:Int):∀ (cs:List bK) (g h:List bK->Int),lap f cs (λr=>m * g r - h r)=m * lap f cs g - lap f cs h
 | [],g,h=>by simp [lap]
 | c::cs,g,h=>by
  rw [lap,lap,lap,t3 f m cs (λr=>g (c::r)) λr=>h (c::r)]
  grind
theorem ZdJ (f:bK->Int):∀ cs:List bK,lap f cs (λ_=>0)=0
 | []=>rfl
 | c::cs=>by rw [lap,ZdJ f cs]; simp
theorem tZ (f h:bK->Int):∀ (cs:List bK) (g:List bK->Int),lap f cs (λr=>lap h r g)=-lap h cs λr=>lap f r g
 | [],g=>by simp [lap]
 | c::cs,g=>by
  have ih:=tZ f h cs λr=>g (c::r)
  have e1:(λr=>lap h (c::r) g)=λr=>h c * g r - lap h r λq=>g (c::q):=rfl
  have e2:(λr=>lap f (c::r) g)=λr=>f c * g r - lap f r λq=>g (c::q):=rfl
  rw [lap,lap,e1,e2,t3,t3,ih]
  grind
noncomputable def D:Nat->List bK->Int
 | 0,_=>1
 | k+1,cs=>lap (λc=>c k) cs (D k)
theorem ZiP:∀ {k r:Nat},r < k->∀ cs:List bK,lap (λc=>c r) cs (D k)=0
 | 0,r,h,_=>by cases h
 | k+1,r,h,cs=>by
  have e:lap (λc=>c r) cs (D (k+1))=lap (λc=>c r) cs λq=>lap (λc=>c k) q (D k):=rfl
  rw [e]
  by_cases hr:r=k
  ·subst hr
   have:=tZ (λc=>c r) (λc=>c r) cs (D r)
   omega
  ·rw [tZ]
   have ez:(λq=>lap (λc=>c r) q (D k))=λ_=>(0:Int):=funext λq=>ZiP (by omega) q
   rw [ez,ZdJ]
   rfl
variable (A:Nat->Nat->Int)
noncomputable def col (l:Nat):bK:=λr=>A r l
noncomputable def R:Nat->List bK
 | 0=>[]
 | k+1=>col A k::R k
noncomputable def aw (f:Nat->Int):Nat->Int
 | 0=>0
 | n+1=>aw f n+f n
theorem kn {f g:Nat->Int}:∀ {n:Nat},(∀ l,l < n->f l=g l)->aw f n=aw g n
 | 0,_=>rfl
 | n+1,h=>by rw [aw,aw,kn λl hl=>h l (by omega),h n (by omega)]
theorem gY (f g h:Nat->Int) (a b:Int):∀ n:Nat,aw (λl=>f l * (a * g l - b * h l)) n=a * aw (λl=>f l * g l) n - b * aw (λl=>f l * h l) n
 | 0=>by simp [aw]
 | n+1=>by
  rw [aw,aw,aw,gY f g h a b n]
  grind
theorem lN {f:Nat->Int} {n:Nat} (h:∀ l,l < n->f l=0):aw f n=0:=by
 rw [kn (g:=λ_=>0) h]
 induction n with
 | zero=>rfl
 | succ n ih=>rw [aw,ih λl hl=>h l (by omega)]; rfl
noncomputable def eO:Nat->(List bK->Int)->Nat->Int
 | 0,_,_=>0
 | k+1,g,l=>if l=k then g (R A k) else -eO k (λcs=>g (col A k::cs)) l
theorem ZdL (f:bK->Int):∀ (k:Nat) (g:List bK->Int),lap f (R A k) g=aw (λl=>f (col A l) * eO A k g l) k
 | 0,g=>rfl
 | k+1,g=>by
  have e1:aw (λl=>f (col A l) * eO A (k+1) g l) k=-aw (λl=>f (col A l) * eO A k (λcs=>g (col A k::cs)) l) k:=by
   have:∀ n,n<=k->aw (λl=>f (col A l) * eO A (k+1) g l) n=-aw (λl=>f (col A l) * eO A k (λcs=>g (col A k::cs)) l) n:=by
    intro n
    induction n with
    | zero=>intro _; rfl
    | succ n ih =>
     intro hn
     rw [aw,aw,ih (by omega)]
     have e:eO A (k+1) g n=-eO A k (λcs=>g (col A k::cs)) n:=by rw [eO,if_neg (by omega)]
     rw [e]
     grind
   exact this k (v4 _)
  have e2:eO A (k+1) g k=g (R A k):=by rw [eO,if_pos rfl]
  rw [R,lap,ZdL f k,aw,e1,e2]
  omega
noncomputable def d (k:Nat):Int:=D k (R A k)
noncomputable def sol (k:Nat) (a:bK):Nat->Int:=eO A k λcs=>D k (a::cs)
noncomputable def F (k:Nat) (i:Nat) (a:bK):Int:=d A k * a i - aw (λl=>A i l * sol A k a l) k
theorem t4 (k i:Nat) (a:bK):lap (λc=>c i) (a::R A k) (D k)=F A k i a:=by
 rw [lap,ZdL]
 unfold F d sol col
 rw [yW]
theorem cramer {k r:Nat} (h:r < k) (a:bK):aw (λl=>A r l * sol A k a l) k=d A k * a r:=by
 have:=t4 A k r a
 rw [ZiP h] at this
 unfold F at this
 omega
theorem p9 (k:Nat):d A (k+1)=F A k k (col A k):=by
 rw [<- t4]
 rfl
theorem p8:d A 0=1:=rfl
theorem sole:∀ {k:Nat},(∀ j,j<=k->d A j≠0)->∀ {z:Nat->Int},(∀ r,r < k->aw (λl=>A r l * z l) k=0)->∀ l,l < k->z l=0
 | 0,_,z,_,l,hl=>by cases hl
 | k+1,hd,z,hz,l,hl=>by
  have ih:∀ z:Nat->Int,(∀ r,r < k->aw (λl=>A r l * z l) k=0)->∀ l,l < k->z l=0:=λz=>sole (k:=k) (λj hj=>hd j (by omega)) (z:=z)
  have dk:=hd k (by omega)
  have dk1:=hd (k+1) (by omega)
  -- d k times z,beside what the last of z asks of the first k
  have key:∀ l,l < k->1 * (d A k * z l - (-z k) * sol A k (col A k) l)=0:=by
   intro l hl
   have:=ih (λl=>d A k * z l - (-z k) * sol A k (col A k) l) (λr hr=>by
    rw [gY,cramer A hr]
    have h1:=hz r (by omega)
    rw [aw] at h1
    have e:aw (λl=>A r l * z l) k=-(A r k * z k):=by omega
    rw [e]
    show d A k * -(A r k * z k) - -z k * (d A k * A r k)=0
    grind) l hl
   simpa using this
  have hk:z k=0:=by
   have h1:=hz k (by omega)
   rw [aw] at h1
   have e1:aw (λl=>A k l * (d A k * z l - (-z k) * sol A k (col A k) l)) k=0:=lN λl hl=>by
    have:=key l hl
    rw [zt] at this
    rw [this,x6]
   rw [gY] at e1
   have e2:=p9 A k
   unfold F at e2
   have e3:aw (λl=>A k l * z l) k=-(A k k * z k):=by omega
   rw [e3] at e1
   have e4:col A k k=A k k:=rfl
   rw [e4] at e2
   generalize aw (λl=>A k l * sol A k (col A k) l) k=S at *
   have e5:z k * d A (k+1)=0:=by
    rw [e2]
    grind
   rcases zu.mp e5 with q | q
   ·exact q
   ·exact absurd q dk1
  by_cases hlk:l=k
  ·rw [hlk]; exact hk
  ·have:=key l (by omega)
   rw [hk] at this
   have e:d A k * z l=0:=by
    rw [zt] at this
    simpa using this
   rcases zu.mp e with q | q
   ·exact absurd q dk
   ·exact q
end Bar
set_option Elab.async false
set_option linter.all false
set_option maxRecDepth 100000
namespace Bar
variable (A:Nat->Nat->Int)
theorem step {k:Nat} (hd:∀ j,j<=k+1->d A j≠0) (a:bK):sol A (k+1) a k=F A k k a/\∀ l,l < k->d A k * sol A (k+1) a l=d A (k+1) * sol A k a l - F A k k a * sol A k (col A k) l:=by
 have dk:=hd k (by omega)
 have e0:=p9 A k
 have eF:F A k k a=d A k * a k - aw (λl=>A k l * sol A k a l) k:=rfl
 have eC:F A k k (col A k)=d A k * A k k - aw (λl=>A k l * sol A k (col A k) l) k:=rfl
 rw [eC] at e0
 have low:∀ r,r < k+1->aw (λl=>A r l * (d A k * sol A (k+1) a l - 1 * (d A (k+1) * sol A k a l - F A k k a * sol A k (col A k) l))) k+A r k * (d A k * sol A (k+1) a k - d A k * F A k k a)=0:=by
  intro r hr
  rw [gY,gY]
  have c1:=cramer A hr a
  rw [aw] at c1
  have c1':aw (λl=>A r l * sol A (k+1) a l) k=d A (k+1) * a r - A r k * sol A (k+1) a k:=by omega
  rw [c1']
  by_cases hk:r=k
  ·subst hk
   have q1:aw (λl=>A r l * sol A r a l) r=d A r * a r - F A r r a:=by omega
   have q2:aw (λl=>A r l * sol A r (col A r) l) r=d A r * A r r - d A (r+1):=by omega
   rw [q1,q2]
   grind
  ·have q1:=cramer A (show r < k by omega) a
   have q2:=cramer A (show r < k by omega) (col A k)
   have q2':col A k r=A r k:=rfl
   rw [q2'] at q2
   rw [q1,q2]
   grind
 have z:=sole A hd (z:=λl=>if l=k then d A k * sol A (k+1) a k - d A k * F A k k a else d A k * sol A (k+1) a l - 1 * (d A (k+1) * sol A k a l - F A k k a * sol A k (col A k) l)) (λr hr=>by
  rw [aw,if_pos rfl]
  rw [kn (g:=λl=>A r l * (d A k * sol A (k+1) a l - 1 * (d A (k+1) * sol A k a l - F A k k a * sol A k (col A k) l))) λl hl=>by rw [if_neg (by omega)]]
  exact low r hr)
 constructor
 ·have:=z k (by omega)
  rw [if_pos rfl] at this
  have e:d A k * (sol A (k+1) a k - F A k k a)=0:=by rw [Int.mul_sub]; exact this
  rcases zu.mp e with q | q
  ·exact absurd q dk
  ·omega
 ·intro l hl
  have:=z l (by omega)
  rw [if_neg (by omega)] at this
  omega
noncomputable def M (k i:Nat) (a:bK):Int:=if i < k then sol A k a i else F A k i a
theorem Zrp (i:Nat) (a:bK):M A 0 i a=a i:=by
 unfold M F
 rw [if_neg (by omega),p8,aw]
 omega
theorem vT (k:Nat):M A k k (col A k)=d A (k+1):=by
 unfold M
 rw [if_neg (by omega),p9]
theorem Zrr {k:Nat} (hd:∀ j,j<=k+1->d A j≠0) (a:bK):M A (k+1) k a=M A k k a:=by
 unfold M
 rw [if_pos (by omega),if_neg (by omega)]
 exact (step A hd a).1
theorem Zrq {k:Nat} (hd:∀ j,j<=k+1->d A j≠0) (a:bK) {i:Nat} (hi:i≠k):d A k * M A (k+1) i a=M A k k (col A k) * M A k i a - M A k i (col A k) * M A k k a:=by
 obtain ⟨s1,s2⟩:=step A hd a
 rw [vT]
 unfold M
 by_cases h:i < k
 ·rw [if_pos (by omega),if_pos h,if_pos h,if_neg (by omega),s2 i h,yW (sol A k (col A k) i)]
 ·rw [if_neg (by omega),if_neg h,if_neg h,if_neg (by omega)]
  have e1:F A (k+1) i a=d A (k+1) * a i - (aw (λl=>A i l * sol A (k+1) a l) k+A i k * sol A (k+1) a k):=rfl
  have e2:F A k i a=d A k * a i - aw (λl=>A i l * sol A k a l) k:=rfl
  have e3:F A k i (col A k)=d A k * A i k - aw (λl=>A i l * sol A k (col A k) l) k:=rfl
  have e4:d A k * aw (λl=>A i l * sol A (k+1) a l) k=d A (k+1) * aw (λl=>A i l * sol A k a l) k - F A k k a * aw (λl=>A i l * sol A k (col A k) l) k:=by
   have q1:=gY (λl=>A i l) (sol A (k+1) a) (λ_=>0) (d A k) 0 k
   have q2:=gY (λl=>A i l) (sol A k a) (sol A k (col A k)) (d A (k+1)) (F A k k a) k
   rw [<- q2]
   have q3:d A k * aw (λl=>A i l * sol A (k+1) a l) k=aw (λl=>A i l * (d A k * sol A (k+1) a l - 0 * 0)) k:=by rw [q1]; omega
   rw [q3]
   refine kn λl hl=>?_
   rw [<- s2 l hl]
   simp
  rw [e1,e2,e3,s1]
  generalize aw (λl=>A i l * sol A (k+1) a l) k=S1 at *
  generalize aw (λl=>A i l * sol A k a l) k=S2 at *
  generalize aw (λl=>A i l * sol A k (col A k) l) k=S3 at *
  have e5:d A k * (d A (k+1) * a i - (S1+A i k * F A k k a))=d A k * d A (k+1) * a i - d A k * S1 - d A k * (A i k * F A k k a):=by grind
  rw [e5,e4]
  grind
theorem Zrs {n r:Nat} (h:r < n) (a:bK):aw (λl=>A r l * M A n l a) n=d A n * a r:=by
 rw [<- cramer A h a]
 refine kn λl hl=>?_
 unfold M
 rw [if_pos hl]
end Bar
set_option Elab.async false
set_option linter.all false
set_option maxRecDepth 100000
namespace Bar
variable (A:Nat->Nat->Int)
noncomputable def unit (k:Nat):bK:=λr=>if r=k then 1 else 0
theorem Zrv {k:Nat} (hd:∀ j,j<=k->d A j≠0):F A k k (unit k)=d A k:=by
 have z:=sole A hd (z:=sol A k (unit k)) (λr hr=>by
  rw [cramer A hr]
  unfold unit
  rw [if_neg (by omega),x6])
 unfold F
 rw [lN λl hl=>by rw [z l hl,x6]]
 unfold unit
 rw [if_pos rfl]
 omega
theorem Zj3 (k:Nat):sol A (k+1) (unit k) k=F A k k (unit k):=by
 unfold sol
 rw [eO,if_pos rfl]
 exact t4 A k k (unit k)
theorem rJ {p v:Nat->Int} {V:Int} (hV:0<=V) (v0:v 0=0):∀ {m:Nat},(∀ l,l < m+1->0<=p l)->(∀ l,l < m+1->v l<=V)->aw (λl=>p l * v l) (m+1)<=(aw p (m+1) - p 0) * V
 | 0,hp,hv=>by
  show 0+p 0 * v 0<=(0+p 0 - p 0) * V
  rw [v0]
  simp
 | m+1,hp,hv=>by
  have ih:=rJ (p:=p) (v:=v) hV v0 (m:=m) (λl hl=>hp l (by omega)) λl hl=>hv l (by omega)
  have h1:=wO (hv (m+1) (by omega)) (hp (m+1) (by omega))
  have e1:aw (λl=>p l * v l) (m+1+1)=aw (λl=>p l * v l) (m+1)+p (m+1) * v (m+1):=rfl
  have e2:aw p (m+1+1)=aw p (m+1)+p (m+1):=rfl
  have e3:(aw p (m+1)+p (m+1) - p 0) * V=(aw p (m+1) - p 0) * V+p (m+1) * V:=by grind
  rw [e1,e2,e3]
  omega
theorem ZaL (f:Nat->Int):∀ n:Nat,aw (λl=>-f l) n=-aw f n
 | 0=>rfl
 | n+1=>by rw [aw,aw,ZaL f n]; omega
theorem rK {p:Nat->Int}:∀ {m n:Nat},m<=n->(∀ l,l < n->0<=p l)->aw p m<=aw p n
 | m,0,h,_=>by
  have:m=0:=by omega
  subst this
  exact wK _
 | m,n+1,h,hp=>by
  by_cases e:m=n+1
  ·subst e; exact wK _
  ·have:=rK (p:=p) (m:=m) (n:=n) (by omega) λl hl=>hp l (by omega)
   have:=hp n (by omega)
   rw [aw]
   omega
theorem argmax (v:Nat->Int):∀ k:Nat,∃ i,i<=k/\∀ l,l<=k->v l<=v i
 | 0=>⟨0,v4 _,λl hl=>by
  have e:l=0:=by omega
  rw [e]
  exact wK _⟩
 | k+1=>by
  obtain ⟨i,hi,h⟩:=argmax v k
  by_cases hc:v i<=v (k+1)
  ·refine ⟨k+1,by omega,λl hl=>?_⟩
   by_cases e:l=k+1
   ·subst e; exact wK _
   ·have:=h l (by omega)
    omega
  ·refine ⟨i,by omega,λl hl=>?_⟩
   by_cases e:l=k+1
   ·subst e; omega
   ·exact h l (by omega)
structure Pol (n:Nat) (A P:Nat->Nat->Int) (W:Int):Prop where
 W0:0 < W
 a0:∀ i,i < n->A i 0=W
 a:∀ i j,i < n->1<=j->j < n->A i j=(if i=j then W else 0) - P i j
 p:∀ i j,i < n->j < n->0<=P i j
 p0:∀ i,i < n->0 < P i 0
 s:∀ i,i < n->aw (P i) n=W
variable {A} {P:Nat->Nat->Int} {W:Int} {n:Nat}
theorem gz (h:Pol n A P W) (z:Nat->Int) {i:Nat} (hi:i < n):∀ {m:Nat},m+1<=n->aw (λl=>A i l * z l) (m+1)=W * z 0+(if 1<=i/\i<=m then W * z i else 0) - aw (λl=>P i l * (if l=0 then 0 else z l)) (m+1)
 | 0,hm=>by
  show 0+A i 0 * z 0=_
  rw [if_neg (by omega),h.a0 i hi]
  show _=W * z 0+0 - (0+P i 0 * (if 0=0 then 0 else z 0))
  rw [if_pos rfl]
  omega
 | m+1,hm=>by
  have ih:=gz h z hi (m:=m) (by omega)
  have e1:aw (λl=>A i l * z l) (m+1+1)=aw (λl=>A i l * z l) (m+1)+A i (m+1) * z (m+1):=rfl
  have e2:aw (λl=>P i l * (if l=0 then 0 else z l)) (m+1+1)=aw (λl=>P i l * (if l=0 then 0 else z l)) (m+1)+P i (m+1) * (if m+1=0 then 0 else z (m+1)):=rfl
  rw [e1,e2,ih,h.a i (m+1) hi (by omega) (by omega),if_neg (show ¬ m+1=0 by omega)]
  by_cases e:i=m+1
  ·subst e
   rw [if_pos rfl,if_neg (by omega),if_pos (by omega)]
   grind
  ·rw [if_neg e]
   by_cases e2:1<=i/\i<=m
   ·rw [if_pos e2,if_pos (by omega)]
    grind
   ·rw [if_neg e2,if_neg (by omega)]
    grind
theorem sign (h:Pol n A P W) {k:Nat} (hk:1<=k) (hn:k+1<=n) {z:Nat->Int} {c:Int} (hz:∀ r,r < k+1->aw (λl=>A r l * z l) (k+1)=if r=k then c else 0) (zk:0 < z k):0 < c:=by
 apply zN.mp
 intro hc
 have W0:=h.W0
 -- worths: nought at the lowest
 have hv:∀ r,r < k+1->W * z 0+W * (if r=0 then 0 else z r) - aw (λl=>P r l * (if l=0 then 0 else z l)) (k+1)=if r=k then c else 0:=λr hr=>by
  have:=hz r hr
  rw [gz h z (by omega) (by omega)] at this
  rw [<- this]
  by_cases e:r=0
  ·rw [if_pos e,if_neg (by omega)]
   omega
  ·rw [if_neg e,if_pos (by omega)]
 generalize hvd:(λl=>if l=0 then 0 else z l)=v at *
 have v0:v 0=0:=by rw [<- hvd]; rfl
 have vk:v k=z k:=by rw [<- hvd]; show (if k=0 then 0 else z k)=z k; rw [if_neg (by omega)]
 have hv':∀ r,r < k+1->W * z 0+W * v r - aw (λl=>P r l * v l) (k+1)=if r=k then c else 0:=λr hr=>by
  have:=hv r hr
  rw [<- hvd]
  exact this
 clear hv
 have hs:∀ i,i < n->aw (P i) (k+1)<=W:=λi hi=>by
  rw [<- h.s i hi]
  exact rK (by omega) λl hl=>h.p i l hi hl
 have up:∀ (u:Nat->Int) (V:Int) (i:Nat),0 < V->u 0=0->i < n->(∀ l,l < k+1->u l<=V)->aw (λl=>P i l * u l) (k+1)<=(W - P i 0) * V:=λu V i hV u0 hi hu=>by
  have a1:=rJ (p:=P i) (v:=u) (wC hV) u0 (m:=k) (λl hl=>h.p i l hi (by omega)) hu
  have a2:=yg (show aw (P i) (k+1) - P i 0<=W - P i 0 by have:=hs i hi; omega) (wC hV)
  omega
 obtain ⟨i,hi,hmax⟩:=argmax v k
 have vpos:0 < v i:=by have:=hmax k (v4 _); omega
 -- the greatest worth: the mean is below nought
 have m0:z 0 < 0:=by
  have r1:=hv' i (by omega)
  have r2:=up v (v i) i vpos v0 (by omega) (λl hl=>hmax l (by omega))
  have r3:=xb (h.p0 i (by omega)) vpos
  have e:(W - P i 0) * v i=W * v i - P i 0 * v i:=by grind
  have r4:W * z 0 < 0:=by
   have:(if i=k then c else 0)<=0:=by split <;> omega
   omega
  apply zN.mp
  intro q
  have:=xm (wC W0) q
  omega
 -- the least worth: it is above nought
 obtain ⟨j,hj,hmin⟩:=argmax (λl=>-v l) k
 have r0:=hv' 0 (by omega)
 rw [v0,if_neg (by omega)] at r0
 have Wm:W * z 0 < 0:=by
  have:=wO (show z 0<=-1 by omega) (wC W0)
  omega
 have jneg:v j < 0:=by
  apply zN.mp
  intro q
  have all0:∀ l,l<=k->0<=v l:=λl hl=>by
   have:-v l<=-v j:=hmin l hl
   omega
  have:0<=aw (λl=>P 0 l * v l) (k+1):=by
   have:=rK (p:=λl=>P 0 l * v l) (m:=0) (n:=k+1) (by omega) λl hl=>xm (h.p 0 l (by omega) (by omega)) (all0 l (by omega))
   exact this
  omega
 have jk:j≠k:=λe=>by rw [e,vk] at jneg; omega
 have r1:=hv' j (by omega)
 rw [if_neg jk] at r1
 have r2:=up (λl=>-v l) (-v j) j (by omega) (by show -v 0=0; rw [v0]; rfl) (by omega) (λl hl=>hmin l (by omega))
 have e1:aw (λl=>P j l * -v l) (k+1)=-aw (λl=>P j l * v l) (k+1):=by
  rw [<- ZaL]
  refine kn λl _=>?_
  grind
 rw [e1] at r2
 have r3:=xb (h.p0 j (by omega)) (show 0 < -v j by omega)
 have e2:(W - P j 0) * -v j=-(W * v j) - P j 0 * -v j:=by grind
 omega
theorem leads (h:Pol n A P W):∀ k,k<=n->0 < d A k
 | 0,_=>by rw [p8]; decide
 | k+1,hk=>by
  have ih:∀ j,j<=k->0 < d A j:=λj hj=>leads h j (by omega)
  by_cases k0:k=0
  ·subst k0
   have:d A 1=A 0 0:=by
    rw [p9]
    unfold F
    rw [p8,aw]
    show 1 * A 0 0 - 0=A 0 0
    omega
   rw [this,h.a0 0 (by omega)]
   exact h.W0
  ·refine sign h (k:=k) (by omega) hk (z:=sol A (k+1) (unit k)) (c:=d A (k+1)) (λr hr=>?_) ?_
   ·rw [cramer A hr]
    unfold unit
    split
    ·omega
    ·omega
   ·rw [Zj3,Zrv A λj hj=>by have:=ih j hj; omega]
    exact ih k (v4 _)
termination_by k=>k
end Bar
set_option Elab.async false
set_option linter.all false
set_option maxRecDepth 100000
namespace Bar
variable {A P:Nat->Nat->Int} {W:Int} {n:Nat}
theorem improve (h:Pol n A P W) (hn:1<=n) {y:Nat->Int} {s:Nat->Int} (hs:∀ r,r < n->0<=s r) (hy:∀ r,r < n->aw (λl=>A r l * y l) n=-s r) :
  y 0 < 0\/(y 0=0/\∀ r,1<=r->r < n->y r<=0):=by
 obtain ⟨k,rfl⟩:∃ k,n=k+1:=⟨n - 1,by omega⟩
 have W0:=h.W0
 have hv:∀ r,r < k+1->W * y 0+W * (if r=0 then 0 else y r) - aw (λl=>P r l * (if l=0 then 0 else y l)) (k+1)=-s r:=λr hr=>by
  have:=hy r hr
  rw [gz h y hr (by omega)] at this
  rw [<- this]
  by_cases e:r=0
  ·rw [if_pos e,if_neg (by omega)]
   omega
  ·rw [if_neg e,if_pos (by omega)]
 generalize hvd:(λl=>if l=0 then 0 else y l)=v at *
 have v0:v 0=0:=by rw [<- hvd]; rfl
 have vr:∀ r,1<=r->v r=y r:=λr hr=>by rw [<- hvd]; show (if r=0 then 0 else y r)=y r; rw [if_neg (by omega)]
 have hv':∀ r,r < k+1->W * y 0+W * v r - aw (λl=>P r l * v l) (k+1)=-s r:=λr hr=>by
  have:=hv r hr
  rw [<- hvd]
  exact this
 clear hv
 have up:∀ (V:Int) (i:Nat),0<=V->i < k+1->(∀ l,l < k+1->v l<=V)->aw (λl=>P i l * v l) (k+1)<=(W - P i 0) * V:=λV i hV hi hu=>by
  have a1:=rJ (p:=P i) (v:=v) hV v0 (m:=k) (λl hl=>h.p i l hi (by omega)) hu
  rw [h.s i hi] at a1
  exact a1
 obtain ⟨i,hi,hmax⟩:=argmax v k
 have vi:0<=v i:=by have:=hmax 0 (by omega); omega
 have r1:=hv' i (by omega)
 have r2:=up (v i) i vi (by omega) (λl hl=>hmax l (by omega))
 have e:(W - P i 0) * v i=W * v i - P i 0 * v i:=by grind
 have si:=hs i (by omega)
 by_cases hp:0 < v i
 ·left
  have r3:=xb (h.p0 i (by omega)) hp
  apply zN.mp
  intro q
  have:=xm (wC W0) q
  omega
 ·have v00:v i=0:=by omega
  have all0:∀ r,r < k+1->v r<=0:=λr hr=>by have:=hmax r (by omega); omega
  have q1:=hv' 0 (by omega)
  have q2:=up 0 0 (wK _) (by omega) all0
  have s0:=hs 0 (by omega)
  rw [v0] at q1
  have Wy:W * y 0<=0:=by omega
  by_cases hy0:y 0 < 0
  ·exact .inl hy0
  ·right
   have:y 0=0:=by
    apply Int.le_antisymm
    ·apply Int.not_lt.mp
     intro q
     have:=xb W0 q
     omega
    ·omega
   exact ⟨this,λr r1 r2=>by have:=all0 r r2; rw [vr r r1] at this; exact this⟩
def Bet (n:Nat) (z:Nat->Int) (D:Int) (z':Nat->Int) (D':Int):Prop:=D * z' 0 < D' * z 0\/(D * z' 0=D' * z 0/\(∀ r,r < n->D * z' r<=D' * z r)/\∃ r,r < n/\D * z' r < D' * z r)
theorem Zda {a b c A B C:Int} (hA:0 < A) (hB:0 < B) (hC:0 < C) (h1:A * b<=B * a) (h2:B * c<=C * b):A * c<=C * a/\((A * b < B * a\/B * c < C * b)->A * c < C * a):=by
 -- B (A c)<=A C b<=C B a
 have e1:=wO h2 (wC hA)
 have e2:=wO h1 (wC hC)
 have q1:A * (B * c)=B * (A * c):=by grind
 have q2:A * (C * b)=C * (A * b):=by grind
 have q3:C * (B * a)=B * (C * a):=by grind
 refine ⟨yB (show B * (A * c)<=B * (C * a) by omega) hB,λh=>?_⟩
 have hlt:B * (A * c) < B * (C * a):=by
  rcases h with h | h
  ·have:=xW h hC
   omega
  ·have:=xW h hA
   omega
 exact yA hlt (wC hB)
theorem Bet.trans {z z' z'':Nat->Int} {D D' D'':Int} (hD:0 < D) (hD':0 < D') (hD'':0 < D'') (h1:Bet n z D z' D') (h2:Bet n z' D' z'' D''):Bet n z D z'' D'':=by
 have t:=λr=>Zda (a:=z r) (b:=z' r) (c:=z'' r) hD hD' hD''
 rcases h1 with a | ⟨a1,a2,r,hr,a3⟩
 ·rcases h2 with b | ⟨b1,b2,_⟩
  ·exact .inl ((t 0 (wC a) (wC b)).2 (.inl a))
  ·exact .inl ((t 0 (wC a) (yz b1)).2 (.inl a))
 ·rcases h2 with b | ⟨b1,b2,_⟩
  ·exact .inl ((t 0 (yz a1) (wC b)).2 (.inr b))
  ·right
   refine ⟨?_,λq hq=>(t q (a2 q hq) (b2 q hq)).1,r,hr,(t r (a2 r hr) (b2 r hr)).2 (.inl a3)⟩
   have u1:=(t 0 (yz a1) (yz b1)).1
   have u2:=(Zda (a:=z'' 0) (b:=z' 0) (c:=z 0) hD'' hD' hD (yz b1.symm) (yz a1.symm)).1
   omega
theorem Bet.irrefl {z:Nat->Int} {D:Int} (h:Bet n z D z D):False:=by
 rcases h with a | ⟨_,_,r,_,a⟩ <;> omega
theorem better (h:Pol n A P W) (hn:1<=n) {z z':Nat->Int} {D D':Int} (hD:0 < D) (hD':0 < D') {b:Nat->Int} (hz':∀ r,r < n->aw (λl=>A r l * z' l) n=D' * b r) {s:Nat->Int} (hs:∀ r,r < n->0<=s r) (hz:∀ r,r < n->aw (λl=>A r l * z l) n=D * b r+s r) (hsome:∃ r,r < n/\0 < s r):Bet n z D z' D':=by
 have hy:∀ r,r < n->aw (λl=>A r l * (D * z' l - D' * z l)) n=-(D' * s r):=λr hr=>by
  rw [gY,hz' r hr,hz r hr]
  grind
 have key:=improve h hn (y:=λl=>D * z' l - D' * z l) (s:=λr=>D' * s r) (λr hr=>xm (wC hD') (hs r hr)) hy
 rcases key with k | ⟨k0,k1⟩
 ·left
  have k':D * z' 0 - D' * z 0 < 0:=k
  omega
 ·have k0':D * z' 0 - D' * z 0=0:=k0
  have all0:∀ r,r < n->D * z' r<=D' * z r:=λr hr=>by
   by_cases e:r=0
   ·subst e; omega
   ·have k1':D * z' r - D' * z r<=0:=k1 r (by omega) hr
    omega
  refine .inr ⟨by omega,all0,?_⟩
  apply xE
  intro hno
  have zero:∀ r,r < n->D * z' r - D' * z r=0:=λr hr=>by
   have a:=all0 r hr
   have:¬ D * z' r < D' * z r:=λq=>hno ⟨r,hr,q⟩
   omega
  obtain ⟨r,hr,sr⟩:=hsome
  have e:=hy r hr
  rw [lN λl hl=>by rw [zero l hl,x6]] at e
  have:=xb hD' sr
  omega
end Bar
set_option Elab.async false
set_option linter.all false
set_option maxRecDepth 100000
namespace Bar
open Tw
theorem kN (k:Nat):nb k 0:=by show (0:Int).natAbs < 2 ^ k; exact Nat.pow_pos (by decide)
theorem ZdK {Q:bK->Prop} {f:bK->Int} {b B m:Nat} (hf:∀ c,Q c->nb b (f c)):∀ (cs:List bK) (g:List bK->Int),(∀ c∈cs,Q c)->(∀ q:List bK,(∀ c∈q,Q c)->q.length+1<=cs.length->nb B (g q))->nb (b+B+cs.length) (lap f cs g)
 | [],g,_,_=>kN _
 | c::cs,g,hq,hg=>by
  have h1:=bF (hf c (hq c (by simp))) (hg cs (λx hx=>hq x (v3 _ hx)) (by simp))
  have h2:=ZdK (m:=m) hf cs (λr=>g (c::r)) (λx hx=>hq x (v3 _ hx)) λq q1 q2=>hg (c::q) (λx hx=>by
   rcases wo.mp hx with rfl | hx
   ·exact hq _ (by simp)
   ·exact q1 x hx) (by simp; omega)
  rw [lap,wc]
  exact aP (eJ h1 h2) (by omega)
noncomputable def iF (b k:Nat):Nat:=1+k * (b+10)
theorem vW {n b:Nat}:∀ (k:Nat),k<=n->∀ cs:List bK,(∀ c∈cs,∀ r,r < n->nb b (c r))->cs.length<=10->nb (iF b k) (D k cs)
 | 0,_,cs,_,_=>by show (1:Int).natAbs < 2 ^ (1+0 * _); rw [Nat.zero_mul]; decide
 | k+1,hk,cs,hc,hl=>by
  have h:=ZdK (Q:=λc=>∀ r,r < n->nb b (c r)) (f:=λc=>c k) (b:=b) (B:=iF b k) (m:=0) (λc hc=>hc k (by omega)) cs (D k) hc λq q1 q2=>vW k (by omega) q q1 (by omega)
  refine aP h ?_
  unfold iF
  rw [xP]
  omega
variable {A:Nat->Nat->Int}
theorem vP:∀ {k:Nat} {c:bK},c∈R A k->∃ l,l < k/\c=col A l
 | 0,c,h=>by cases h
 | k+1,c,h=>by
  rcases wo.mp h with rfl | h
  ·exact ⟨k,by omega,rfl⟩
  ·obtain ⟨l,h1,h2⟩:=vP h
   exact ⟨l,by omega,h2⟩
theorem vQ (A:Nat->Nat->Int):∀ k:Nat,(R A k).length=k
 | 0=>rfl
 | k+1=>by rw [R,wc,vQ A k]
theorem ZhZ {Q:bK->Prop} {B:Nat}:∀ (k:Nat) (g:List bK->Int) (l:Nat),(∀ j,j < k->Q (col A j))->(∀ q:List bK,(∀ c∈q,Q c)->q.length+1<=k->nb B (g q))->nb B (eO A k g l)
 | 0,g,l,_,_=>kN _
 | k+1,g,l,hq,hg=>by
  rw [eO]
  split
  ·exact hg _ (λc hc=>by obtain ⟨j,h1,rfl⟩:=vP hc; exact hq j (by omega)) (by rw [vQ]; exact v4 _)
  ·refine kM (ZhZ k _ l (λj hj=>hq j (by omega)) λq q1 q2=>hg _ (λc hc=>?_) (by rw [wc]; omega))
   rcases wo.mp hc with rfl | hc
   ·exact hq k (by omega)
   ·exact q1 c hc
theorem ZaM {f:Nat->Int} {b:Nat}:∀ (n:Nat),(∀ l,l < n->nb b (f l))->nb (b+n) (aw f n)
 | 0,_=>kN _
 | n+1,h=>by
  rw [aw]
  exact aP (dQ (ZaM n λl hl=>h l (by omega)) (h n (by omega))) (by omega)
theorem qa {n b:Nat} (hn:n<=9) (hA:∀ i j,i < n->j < n->nb b (A i j)) {k:Nat} (hk:k<=n):nb (iF b 9) (d A k):=by
 have h:=vW (n:=n) (b:=b) k hk (R A k) (λc hc r hr=>by obtain ⟨j,h1,rfl⟩:=vP hc; exact hA r j hr (by omega)) (by rw [vQ]; omega)
 refine aP h ?_
 unfold iF
 have:=xi (b+10) (show k<=9 by omega)
 omega
theorem ZiN {n b:Nat} (hn:n<=9) (hA:∀ i j,i < n->j < n->nb b (A i j)) {k i:Nat} (hk:k<=n) (hi:i < n) {a:bK} (ha:∀ r,r < n->nb b (a r)):nb (b+iF b 9+11) (M A k i a):=by
 have hs:∀ l,nb (iF b 9) (sol A k a l):=λl=>by
  unfold sol
  refine ZhZ (Q:=λc=>∀ r,r < n->nb b (c r)) k _ l (λj hj r hr=>hA r j hr (by omega)) λq q1 q2=>?_
  refine aP (vW (n:=n) (b:=b) k hk (a::q) (λc hc=>?_) (by rw [wc]; omega)) ?_
  ·rcases wo.mp hc with rfl | hc
   ·exact ha
   ·exact q1 c hc
  ·unfold iF
   have:=xi (b+10) (show k<=9 by omega)
   omega
 unfold M
 split
 ·exact aP (hs i) (by omega)
 ·unfold F
  have h1:=bF (qa hn hA hk) (ha i hi)
  have h2:=ZaM (f:=λl=>A i l * sol A k a l) (b:=b+iF b 9) k λl hl=>bF (hA i l hi (by omega)) (hs l)
  exact aP (eJ h1 h2) (by omega)
end Bar
set_option Elab.async false
set_option linter.all false
set_option maxRecDepth 100000
namespace Tw
open L2
end Tw
set_option Elab.async false
set_option linter.all false
set_option maxRecDepth 100000
namespace Tw
open L2
end Tw
set_option Elab.async false
set_option linter.all false
set_option maxRecDepth 100000
namespace Tw
open L2
end Tw
set_option Elab.async false
set_option linter.all false
set_option maxRecDepth 100000
namespace Tw
open L2
end Tw
set_option Elab.async false
set_option linter.all false
set_option maxRecDepth 100000
namespace Tw
open L2
noncomputable def ji (g:Int->Int) (K x y:Int):Int:=if x < y then K+g y else g y
end Tw
set_option Elab.async false
set_option linter.all false
set_option maxRecDepth 100000
namespace L2
noncomputable def cD (c:Addr) (at' left:Int):List (aM×V):=[(Sum.inr "cells",.ref c),(Sum.inr "at",.int at'),(Sum.inr "left",.int left)]
theorem nc1:¬ ((Sum.inr ("cells":Str):aM)=(Sum.inr ("at":Str):aM)):=by trivial
theorem nc2:¬ ((Sum.inr ("cells":Str):aM)=(Sum.inr ("left":Str):aM)):=by trivial
theorem tL:¬ ((Sum.inr ("at":Str):aM)=(Sum.inr ("left":Str):aM)):=by trivial
theorem ZlA (c:Addr) (a l:Int):eS (cD c a l) (Sum.inr "cells":aM)=some (.ref c):=ki rfl
theorem ZcK (c:Addr) (a l:Int):eS (cD c a l) (Sum.inr "at":aM)=some (.int a):=by
 unfold cD
 rw [kj nc1,ki rfl]
theorem ZcJ (c:Addr) (a l:Int):eS (cD c a l) (Sum.inr "left":aM)=some (.int l):=by
 unfold cD
 rw [kj nc2,kj tL,ki rfl]
theorem Zlz (c:Addr) (a l b:Int):dB (cD c a l) (Sum.inr "at":aM) (.int b)=cD c b l:=by
 have h:((cD c a l).any λkv=>decide (kv.1=(Sum.inr "at":aM)))=true:=by rw [nY,ZcK]; rfl
 unfold dB
 rw [if_pos h]
 unfold cD
 simp only [v9,xR,if_neg nc1,if_neg (Ne.symm tL),if_true]
theorem Zly (c:Addr) (a l b:Int):dB (cD c a l) (Sum.inr "left":aM) (.int b)=cD c a b:=by
 have h:((cD c a l).any λkv=>decide (kv.1=(Sum.inr "left":aM)))=true:=by rw [nY,ZcJ]; rfl
 unfold dB
 rw [if_pos h]
 unfold cD
 simp only [v9,xR,if_neg nc2,if_neg tL,if_true]
section
variable {H:Hp} {p c:Addr} {a l b:Int}
theorem p6 (h:H p=some (.dK (cD c a l))):DGet H p (.str "cells") (some (.ref c)):=by
 have q:=DGet.k (k:=(Sum.inr "cells":aM)) h
 rw [ZlA] at q
 exact q
theorem Zox (h:H p=some (.dK (cD c a l))):DGet H p (.str "at") (some (.int a)):=by
 have q:=DGet.k (k:=(Sum.inr "at":aM)) h
 rw [ZcK] at q
 exact q
theorem uL (h:H p=some (.dK (cD c a l))):DGet H p (.str "left") (some (.int l)):=by
 have q:=DGet.k (k:=(Sum.inr "left":aM)) h
 rw [ZcJ] at q
 exact q
theorem Zov (h:H p=some (.dK (cD c a l))):DPut H p (.str "at") (.int b) (upd H p (.dK (cD c b l))):=by
 have q:=DPut.k (k:=(Sum.inr "at":aM)) (v:=V.int b) h (by show 3 < sizeLine; decide)
 rw [Zlz] at q
 exact q
theorem ZhI (h:H p=some (.dK (cD c a l))):DPut H p (.str "left") (.int b) (upd H p (.dK (cD c a b))):=by
 have q:=DPut.k (k:=(Sum.inr "left":aM)) (v:=V.int b) h (by show 3 < sizeLine; decide)
 rw [Zly] at q
 exact q
end
structure Pen6 (K:zR) (H:Hp) (p c:Addr) (ns:Aa) (m:Nat):Prop where
 ex:∃ (k:Nat) (left:Int),H p=some (.dK (cD c k left))/\k<=m/\0<=left
 cells:SqL K H c (ns.map V.int)
 len:ns.length<=63
def ZaT (K:zR):Sp:=λvs H Q _=>∃ (p c:Addr) (ns:Aa) (m:Nat) (most:Int),vs=[.ref p,.int most]/\Pen6 K H p c ns m/\m<=500000/\0 < most/\most < 1073741824 /\
 ∀ (r:Int) (H':Hp),0<=r->r < most->Pen6 K H' p c ns (m+1)->Kept p H H'->Q (.int r) H'
def Zj1 (K:zR):Sp:=λvs H Q _=>∃ (a:Addr) (ns:Aa),vs=[.ref a]/\SqL K H a (ns.map V.int)/\ns.length<=63 /\
 ∀ (p:Addr) (H':Hp),H p=none->(∃ c,Pen6 K H' p c ns 0)->Same H H'->Q (.ref p) H'
noncomputable def bu (cn:zR×Addr×Aa):Pk where
 is:=λo G m=>∃ (k:Nat) (left:Int),o=.dK (cD cn.2.1 k left)/\k<=m/\0<=left/\SqL cn.1 G cn.2.1 (cn.2.2.map V.int)/\cn.2.2.length<=63
 mono:=λs ⟨k,left,e,h1,h2,h3,h4⟩=>⟨k,left,e,h1,h2,Same.seq (λb o h=>s b o h) h3,h4⟩
theorem oC {cn:zR×Addr×Aa}:PkLow (bu cn):=⟨λ⟨_,_,_,_,_,h3,_⟩ _ ⟨k,left,e,h1,h2,_,h4⟩=>⟨k,left,e,h1,h2,h3,h4⟩⟩
theorem Zli {ι:Type} {X:Cx} {e:List Stmt} {t:ι->TS} (h:∀ i,PSs X e (t i)):PSs X e (λD σ H=>∃ i,t i D σ H):=λpins s σ H D I z=>by
 obtain ⟨i,z⟩:=z
 exact h i pins s σ H D I z
noncomputable def pA:zW:=λas=>match as with
 | [.pen,.d (.int most)]=>.draw most λr=>.ret (.d (.int r))
 | _=>.fail
theorem ZhG {as:Af} {m:Nat} {Z:Nat->Re->Prop} (h:(pA as).ok m Z):∃ most,as=[.pen,.d (.int most)]:=by
 unfold pA at h
 split at h
 ·exact ⟨_,rfl⟩
 ·exact h.elim
theorem Zou {P:Program} {w:World} {K:zR} {c:Addr×Aa} {mg:Ae} {base:Heap} {x:Str} {k:Nat} {ps:Ac} (hp:ps.length=2) (C:Callee P w K mg base x k ps (ZaT K)):ACal (bu (K,c)) P w K mg base x k ps pA:=by
 refine ⟨?_,λas m Z h=>by obtain ⟨most,rfl⟩:=ZhG h; exact hp.symm⟩
 obtain ⟨f,fd,F,hm,hk,hb⟩:=C.ex
 refine ⟨f,fd,F.imp λvs H Q E h=>?_,hm,hk,hb⟩
 obtain ⟨hv,pa,m,G,as,wd,ar,z⟩:=h
 obtain ⟨most,rfl⟩:=ZhG z
 obtain ⟨h1,h2,h3,h4⟩:=z
 cases ar with
 | cons a1 ar =>
  cases ar with
  | cons a2 ar =>
   cases ar
   cases a1
   cases a2 with
   | d d2 =>
    cases d2
    obtain ⟨c,ns⟩:=c
    obtain ⟨o,ho,kk,left,rfl,q1,q2,q3,q4⟩:=wd.pen
    replace q3:SqL K G c (ns.map V.int):=q3
    refine ⟨pa,c,ns,m,most,rfl,⟨⟨kk,left,ho,q1,q2⟩,Same.seq (λb o h=>wd.sub b o h) q3,q4⟩,by omega,h2,h3,λr H' r0 r1 P' K'=>?_⟩
    refine h4 r r0 r1 (.int r) G H' ⟨λ_ _ q=>q,λ_ _ q=>.inl q,λb o e n=>K' b o e n⟩ ⟨λb o e=>K' b o (wd.sub b o e) (λz=>by subst z; rw [wd.gpa] at e; cases e),wd.gpa,?_⟩ (.int r)
    obtain ⟨⟨k2,l2,e2,g1,g2⟩,_,_⟩:=P'
    exact ⟨_,e2,k2,l2,rfl,g1,g2,q3,q4⟩
noncomputable def ZaS:zR->Sp:=λK vs H Q _=>∃ (a:Addr) (ns:Aa),vs=[.ref a]/\SqL K H a (ns.map V.int)/\ns.length<=63/\∀ H',Q (.bl true) H'
theorem Zm6 {K:zR} {D:Ends} {p:Addr} {ns:Aa} {H:Hp} {σ:St} {s:zV} {n:Nat} (P:∃ c,Pen6 K H p c ns 0) (hσ:σ.length=n+2) (h1:σ[1]?=some (some (.ref p))) (hrt:∀ H',D.rt (.bl true) H')
  (h:(s (.un::.pen::List.replicate n .un)).ok 0 λ_ o=>o=.ret (.d (.bool true))):∃ cn:Addr×Aa,bT (bu (K,cn)) s D σ H:=by
 obtain ⟨c,⟨k,l,e,hk,hl⟩,hc,hn⟩:=P
 obtain ⟨G,gs,gp,gc⟩:∃ G:Hp,(∀ b o,G b=some o->H b=some o)/\G p=none/\SqL K G c (ns.map V.int):=by
  rcases hc with (hc | ⟨o,hc⟩) | hc
  ·refine ⟨λb=>if b=c then H c else none,λb o hb=>?_,?_,.inl (.inl (by simp [hc]))⟩
   ·by_cases hbc:b=c
    ·subst hbc; simpa using hb
    ·simp [hbc] at hb
   ·have:p≠c:=mw e hc (by intro z; cases z)
    exact if_neg this
  ·refine ⟨λb=>if b=c then H c else none,λb o hb=>?_,?_,.inl (.inr ⟨o,by simp [hc]⟩)⟩
   ·by_cases hbc:b=c
    ·subst hbc; simpa using hb
    ·simp [hbc] at hb
   ·have:p≠c:=mw e hc (by intro z; cases z)
    exact if_neg this
  ·exact ⟨λ_=>none,λb o hb=>(by cases hb),rfl,.inr hc⟩
 have key:∀ (i:Nat) (sl:Sl),(Sl.un::.pen::List.replicate n .un)[i]?=some sl->sl=.un\/(i=1/\sl=.pen):=λi sl hi=>by
  match i with
  | 0=>simp at hi; exact .inl hi.symm
  | 1=>simp at hi; exact .inr ⟨rfl,hi.symm⟩
  | i+2 =>
   simp [wJ] at hi
   exact .inl hi.2.symm
 refine ⟨(c,ns),p,G,H,0,_,G,⟨⟨gs,gp,?_⟩,.refl,⟨_,e⟩,λi sl hi=>?_,by simp [hσ],λi j xs ys _ hi _=>?_,λi j xs ys _ hi _=>by rcases key i _ hi with z | ⟨_,z⟩ <;> cases z⟩,Tr.ok_mono h λm o ho=>?_⟩
 ·exact ⟨_,e,k,l,rfl,hk,hl,gc,hn⟩
 ·have hlt:i < σ.length:=by
   have:=(v8.mp hi).1
   simp at this
   omega
  rcases key i sl hi with rfl | ⟨rfl,rfl⟩
  ·exact ⟨σ[i],by simp [hlt],.un⟩
  ·exact ⟨_,h1,.pen⟩
 ·rcases key i _ hi with z | ⟨_,z⟩ <;> cases z
 ·subst ho
  intro v G H' s' w' d
  cases (show Dn G v (.bool true) from d)
  exact hrt H'
end L2
set_option Elab.async false
set_option linter.all false
set_option maxRecDepth 100000
namespace My
open L2
noncomputable def top (i:Nat):Stmt:=PySem.Challenge.pw_twomarks_k37_lasting_papers_spoilt.main.body.getD i (.Pass ⟨0,0,0,0⟩)
noncomputable abbrev Zby:Stmt:=top 5
abbrev ZqY:Ac:=["thing"]
theorem Zkl:FnScope ZqY ["thing"] (aO Zby):=by trivial
noncomputable abbrev Zbx:Stmt:=top 6
abbrev ZqX:Ac:=["thing","lowest","highest"]
theorem Zkk:FnScope ZqX ["thing","lowest","highest"] (aO Zbx):=by trivial
noncomputable abbrev ZbF:Stmt:=top 8
abbrev Zq5:Ac:=["one","other"]
theorem rY:FnScope Zq5 ["one","other"] (aO ZbF):=by trivial
noncomputable abbrev Zbz:Stmt:=top 9
abbrev ZqZ:Ac:=["thing","top","bottom"]
theorem rX:FnScope ZqZ ["thing"] (aO Zbz):=by trivial
noncomputable abbrev Zbs:Stmt:=top 10
abbrev ZqS:Ac:=["top","bottom","divisor"]
theorem rV:FnScope ZqS ["top","bottom"] (aO Zbs):=by trivial
noncomputable abbrev Zbt:Stmt:=top 11
abbrev ZqT:Ac:=["one","other"]
theorem Zkf:FnScope ZqT ["one","other"] (aO Zbt):=by trivial
noncomputable abbrev Zbr:Stmt:=top 20
abbrev ZqR:Ac:=["shop"]
theorem Zke:FnScope ZqR ["shop"] (aO Zbr):=by trivial
noncomputable abbrev ZbA:Stmt:=top 21
abbrev Zq0:Ac:=["shop","stock","thing"]
theorem Zkm:FnScope Zq0 ["shop","stock","thing"] (aO ZbA):=by trivial
noncomputable abbrev sB:Stmt:=top 22
abbrev nK:Ac:=["day"]
theorem Zkn:FnScope nK ["day"] (aO sB):=by trivial
noncomputable abbrev Zbu:Stmt:=top 23
abbrev ZqU:Ac:=["shop","stock","level"]
theorem Zkg:FnScope ZqU ["shop","stock","level"] (aO Zbu):=by trivial
noncomputable abbrev Zbw:Stmt:=top 24
abbrev ZqV:Ac:=["shop","level","fall"]
theorem Zkh:FnScope ZqV ["shop","level","fall"] (aO Zbw):=by trivial
noncomputable abbrev ZbD:Stmt:=top 25
abbrev Zq3:Ac:=["shop","level","fall","stock","sold_never","held"]
theorem oi:FnScope Zq3 ["shop","level","fall"] (aO ZbD):=by trivial
noncomputable abbrev sA:Stmt:=top 27
abbrev nJ:Ac:=["shop","thing","own"]
theorem Zbo:FnScope nJ ["shop","thing"] (aO sA):=by trivial
noncomputable abbrev Zbq:Stmt:=top 28
abbrev ZqQ:Ac:=["shop","day","level","ahead","scale","total","fall","weight","following"]
theorem kr:FnScope ZqQ ["shop","day","level","ahead","scale"] (aO Zbq):=by trivial
noncomputable abbrev ZbE:Stmt:=top 29
abbrev Zq4:Ac:=["shop","day","levels","ahead","scale","own_scale","costs","stock","level"]
theorem lX:FnScope Zq4 ["shop","day","levels","ahead","scale"] (aO ZbE):=by trivial
noncomputable abbrev sj:Stmt:=top 31
abbrev qT:Ac:=["shop","day","costs","ahead","scale","own_scale","behind","stock","cost","level"]
theorem ku:FnScope qT ["shop","day","costs","ahead","scale"] (aO sj):=by trivial
noncomputable abbrev su:Stmt:=top 33
abbrev qU:Ac:=["shop","day","ahead","scale","own_scale"]
theorem Zbn:FnScope qU ["shop","day","ahead","scale"] (aO su):=by trivial
noncomputable abbrev ZbG:Stmt:=top 34
abbrev Zq6:Ac:=["shop","low","by_level","scale","picks","best","stock","own","cost","level"]
theorem iQ:FnScope Zq6 ["shop","low","by_level","scale"] (aO ZbG):=by trivial
noncomputable abbrev ZbH:Stmt:=top 35
abbrev Zq7:Ac:=["shop","by_level","scale"]
theorem Zko:FnScope Zq7 ["shop","by_level","scale"] (aO ZbH):=by trivial
noncomputable abbrev ZbI:Stmt:=top 37
abbrev Zq8:Ac:=["shop","one"]
theorem Zkp:FnScope Zq8 ["shop","one"] (aO ZbI):=by trivial
noncomputable abbrev ZbC:Stmt:=top 38
abbrev Zq2:Ac:=["shop","one","stock","level","row","fall","weight","nothing_ahead","cost"]
theorem kw:FnScope Zq2 ["shop","one","stock","level"] (aO ZbC):=by trivial
noncomputable abbrev om:Stmt:=top 39
abbrev jt:Ac:=["rows","before","k","leading","lead","at","many"]
theorem iP:FnScope jt ["rows"] (aO om):=by trivial
noncomputable abbrev sk:Stmt:=top 40
abbrev nI:Ac:=["shop","one","levels","found","scale"]
theorem rW:FnScope nI ["shop","one","levels"] (aO sk):=by trivial
noncomputable abbrev sC:Stmt:=top 41
abbrev nL:Ac:=["shop","one","levels","mean","worths","scale","picks","better"]
theorem iR:FnScope nL ["shop","one"] (aO sC):=by trivial
noncomputable abbrev sx:Stmt:=top 42
abbrev qV:Ac:=["shop","one","mean","worths","scale","levels"]
theorem lW:FnScope qV ["shop","one"] (aO sx):=by trivial
noncomputable abbrev sy:Stmt:=top 44
abbrev qW:Ac:=["shop","thing"]
theorem Zkj:FnScope qW ["shop","thing"] (aO sy):=by trivial
noncomputable abbrev ZbB:Stmt:=top 45
abbrev Zq1:Ac:=["shop","thing","mean","worths","levels"]
theorem oh:FnScope Zq1 ["shop","thing"] (aO ZbB):=by trivial
noncomputable abbrev sg:Stmt:=top 46
abbrev nH:Ac:=["worths","scale","top","bottom"]
theorem lU:FnScope nH ["worths"] (aO sg):=by trivial
noncomputable abbrev oo:Stmt:=top 47
abbrev kb:Ac:=["shop","one","thing","mean","worths","levels","ahead","scale","costs"]
theorem jB:FnScope kb ["shop","one","thing"] (aO oo):=by trivial
noncomputable abbrev ZbQ:Stmt:=top 49
abbrev Zrg:Ac:=["_law_script"]
theorem Zks:FnScope Zrg ["_law_script"] (aO ZbQ):=by trivial
noncomputable abbrev ZbV:Stmt:=top 50
abbrev Zrl:Ac:=["_law_cell","_law_k","_law_prime","_law_one","_law_two"]
theorem oj:FnScope Zrl ["_law_cell","_law_k"] (aO ZbV):=by trivial
noncomputable abbrev ZbM:Stmt:=top 51
abbrev Zrc:Ac:=["_law_pen_here","_law_most","_law_found","_law_k","_law_cell"]
theorem lY:FnScope Zrc ["_law_pen_here","_law_most"] (aO ZbM):=by trivial
noncomputable abbrev ZbP:Stmt:=top 52
abbrev Zrf:Ac:=["_law_pen_here","_law_way"]
theorem Zbp:FnScope Zrf ["_law_pen_here"] (aO ZbP):=by trivial
noncomputable abbrev ZbK:Stmt:=top 53
abbrev Zra:Ac:=["_law_pen_here","_law_many","_law_at","_law_found","_law_k"]
theorem rZ:FnScope Zra ["_law_pen_here","_law_many","_law_at"] (aO ZbK):=by trivial
noncomputable abbrev sF:Stmt:=top 54
abbrev qZ:Ac:=["_law_pen_here","_law_few","_law_pieces","_law_depth","_law_shop","_law_many"]
theorem l3:FnScope qZ ["_law_pen_here","_law_few"] (aO sF):=by trivial
noncomputable abbrev ZbR:Stmt:=top 55
abbrev Zrh:Ac:=["_law_shop","_law_stock","_law_level"]
theorem Zkt:FnScope Zrh ["_law_shop","_law_stock","_law_level"] (aO ZbR):=by trivial
noncomputable abbrev ZbT:Stmt:=top 56
abbrev Zrj:Ac:=["_law_shop","_law_level","_law_fall"]
theorem Zku:FnScope Zrj ["_law_shop","_law_level","_law_fall"] (aO ZbT):=by trivial
noncomputable abbrev ZbY:Stmt:=top 57
abbrev Zro:Ac:=["_law_shop","_law_level","_law_fall","_law_rest","_law_lost"]
theorem sf:FnScope Zro ["_law_shop","_law_level","_law_fall"] (aO ZbY):=by trivial
noncomputable abbrev ZbJ:Stmt:=top 58
abbrev Zq9:Ac:=["_law_thing"]
theorem Zkq:FnScope Zq9 ["_law_thing"] (aO ZbJ):=by trivial
noncomputable abbrev ZbW:Stmt:=top 59
abbrev Zrm:Ac:=["_law_thing","_law_one","_law_other_here"]
theorem r8:FnScope Zrm ["_law_thing"] (aO ZbW):=by trivial
noncomputable abbrev ZbX:Stmt:=top 60
abbrev Zrn:Ac:=["_law_shop","_law_thing","_law_many","_law_some","_law_k","_law_level"]
theorem l0:FnScope Zrn ["_law_shop","_law_thing"] (aO ZbX):=by trivial
noncomputable abbrev sE:Stmt:=top 61
abbrev qY:Ac:=["_law_shop","_law_one","_law_thing","_law_bottom","_law_worth","_law_worths","_law_mean","_law_whole_here","_law_k","_law_costs","_law_level","_law_cost","_law_fall","_law_weight","_law_there","_law_due_here"]
theorem dX:FnScope qY ["_law_shop","_law_one","_law_thing"] (aO sE):=by trivial
noncomputable abbrev ZbN:Stmt:=top 62
abbrev Zrd:Ac:=["_law_top","_law_bottom","_law_one","_law_other_here"]
theorem r6:FnScope Zrd ["_law_top","_law_bottom"] (aO ZbN):=by trivial
noncomputable abbrev ZbO:Stmt:=top 63
abbrev Zre:Ac:=["_law_some","_law_at","_law_one"]
theorem Zkr:FnScope Zre ["_law_some","_law_at","_law_one"] (aO ZbO):=by trivial
noncomputable abbrev ZbU:Stmt:=top 64
abbrev Zrk:Ac:=["_law_one","_law_by"]
theorem Zkv:FnScope Zrk ["_law_one","_law_by"] (aO ZbU):=by trivial
noncomputable abbrev sD:Stmt:=top 65
abbrev qX:Ac:=["_law_pen_here","_law_shop","_law_paper","_law_mean","_law_worths","_law_levels","_law_way","_law_by","_law_at"]
theorem fF:FnScope qX ["_law_pen_here","_law_shop","_law_paper"] (aO sD):=by trivial
noncomputable abbrev ZbS:Stmt:=top 66
abbrev Zri:Ac:=["_law_pen_here","_law_one","_law_top","_law_bottom","_law_odd_here"]
theorem lZ:FnScope Zri ["_law_pen_here","_law_one"] (aO ZbS):=by trivial
noncomputable abbrev ZbL:Stmt:=top 67
abbrev Zrb:Ac:=["_law_pen_here","_law_paper","_law_mean","_law_worths","_law_levels","_law_way","_law_at","_law_other_here","_law_which","_law_some","_law_odd_here"]
theorem eD:FnScope Zrb ["_law_pen_here","_law_paper"] (aO ZbL):=by trivial
noncomputable abbrev sv:Stmt:=top 68
abbrev ZqW:Ac:=["_law_script","_law_pen_here","_law_turn","_law_shop","_law_one","_law_paper","_law_things","_law_k","_law_thing","_law_kept","_law_found"]
theorem fk:FnScope ZqW ["_law_script"] (aO sv):=by trivial
structure Txt (K:zR) (mg:Ae):Prop where
 cY:mg "len"=none
 oV:mg "abs"=none
 mz:mg "max"=none
 tM:mg "min"=none
 Zc6:mg "repr"=none
 mB:mg "int"=none
 oT:mg "list"=none
 ft:mg "tuple"=none
 Zc5:mg "str"=none
 tN:mg "bool"=none
 fL:mg "range"=none
 fM:mg "isinstance"=none
 my:mg "zip"=none
 ii:mg "sum"=none
 Zc8:mg "all"=none
 oU:mg "enumerate"=none
 Zrz:mg "ValueError"=none
 Zmt:mg "reversed"=none
 j5:∃ t,mg "TOP"=some (.int 0 t)
 iA:∃ t,mg "DEPTH"=some (.int 1 t)
 Zeh:∃ t,mg "START"=some (.int 2 t)
 ur:∃ t,mg "PIECE"=some (.int 3 t)
 ZnO:∃ t,mg "KEEP"=some (.int 4 t)
 ZnN:∃ t,mg "LACK"=some (.int 5 t)
 ZnM:∃ t,mg "LOST"=some (.int 6 t)
 ZoR:Def K mg "is_whole" Zby ["thing"]
 ZoQ:Def K mg "is_whole_within" Zbx ["thing","lowest","highest"]
 Zo1:Def K mg "common_divisor" ZbF ["one","other"]
 ZoS:Def K mg "is_share" Zbz ["thing"]
 ZoD:Def K mg "share" Zbs ["top","bottom"]
 ZoF:Def K mg "plus" Zbt ["one","other"]
 ZoB:Def K mg "stocks" Zbr ["shop"]
 ZoU:Def K mg "is_level" ZbA ["shop","stock","thing"]
 ZoW:Def K mg "greatest_seen" sB ["day"]
 ZoG:Def K mg "order_cost" Zbu ["shop","stock","level"]
 ZoJ:Def K mg "next_stock" Zbw ["shop","level","fall"]
 ZoZ:Def K mg "day_cost" ZbD ["shop","level","fall"]
 ZoT:Def K mg "is_levels" sA ["shop","thing"]
 ZoA:Def K mg "weighed" Zbq ["shop","day","level","ahead","scale"]
 Zo0:Def K mg "costs_by" ZbE ["shop","day","levels","ahead","scale"]
 ZoI:Def K mg "none_less" sj ["shop","day","costs","ahead","scale"]
 ZoL:Def K mg "level_sums" su ["shop","day","ahead","scale"]
 Zo2:Def K mg "cheapest_from" ZbG ["shop","low","by_level","scale"]
 Zo3:Def K mg "cheapest" ZbH ["shop","by_level","scale"]
 Zo5:Def K mg "ask_lasting" ZbI ["shop","one"]
 ZoY:Def K mg "equation" ZbC ["shop","one","stock","level"]
 ZoC:Def K mg "solved" om ["rows"]
 ZoK:Def K mg "mean_and_worths" sk ["shop","one","levels"]
 Zo4:Def K mg "best_of_all" sC ["shop","one"]
 ZoO:Def K mg "lasting" sx ["shop","one"]
 ZoP:Def K mg "is_worths" sy ["shop","thing"]
 ZoV:Def K mg "is_lasting_paper" ZbB ["shop","thing"]
 ZoH:Def K mg "on_one_scale" sg ["worths"]
 ZoM:Def K mg "lets_lasting" oo ["shop","one","thing"]
 Zpd:Def K mg "_law_pen" ZbQ ["_law_script"]
 Zpj:Def K mg "_law_mixed" ZbV ["_law_cell","_law_k"]
 Zo9:Def K mg "_law_take" ZbM ["_law_pen_here","_law_most"]
 Zpc:Def K mg "_law_price" ZbP ["_law_pen_here"]
 Zo7:Def K mg "_law_weights" ZbK ["_law_pen_here","_law_many","_law_at"]
 Zpo:Def K mg "_law_case" sF ["_law_pen_here","_law_few"]
 Zpf:Def K mg "_law_order" ZbR ["_law_shop","_law_stock","_law_level"]
 Zph:Def K mg "_law_next" ZbT ["_law_shop","_law_level","_law_fall"]
 Zpn:Def K mg "_law_day" ZbY ["_law_shop","_law_level","_law_fall"]
 Zo6:Def K mg "_law_whole" ZbJ ["_law_thing"]
 Zpl:Def K mg "_law_is_share" ZbW ["_law_thing"]
 Zpm:Def K mg "_law_has_form" ZbX ["_law_shop","_law_thing"]
 Zpk:Def K mg "_law_look" sE ["_law_shop","_law_one","_law_thing"]
 Zpa:Def K mg "_law_share" ZbN ["_law_top","_law_bottom"]
 Zpb:Def K mg "_law_put" ZbO ["_law_some","_law_at","_law_one"]
 Zpi:Def K mg "_law_moved" ZbU ["_law_one","_law_by"]
 Zpe:Def K mg "_law_other" sD ["_law_pen_here","_law_shop","_law_paper"]
 Zpg:Def K mg "_law_odd" ZbS ["_law_pen_here","_law_one"]
 Zo8:Def K mg "_law_unlike" ZbL ["_law_pen_here","_law_paper"]
 ZoN:Def K mg "law" sv ["_law_script"]
theorem Zpv (ns:Aa) (a:Nat) (h:ns≠[]):∃ z:Int,bf (ns.map V.int) ((a:Int) % ((ns.map V.int).length:Nat))=some (.int z):=by
 have hl:0 < ns.length:=yt.mpr h
 have hl':(ns.map V.int).length=ns.length:=vZ ..
 have e:(a:Int) % ((ns.map V.int).length:Nat)=((a % ns.length:Nat):Int):=by rw [hl']; omega
 have hlt:a % ns.length < ns.length:=Nat.mod_lt _ hl
 rw [e]
 exact ⟨ns[a % ns.length],gu (by rw [v5,v6 hlt]; rfl)⟩
theorem rM {K:zR} {H:Hp} {p c:Addr} {xs:Ad} {d:List (aM×V)} {o:HO} (hd:H p=some (.dK d)) (hc:SqL K H c xs):SqL K (upd H p o) c xs:=by
 rcases hc with (hc | ⟨u,hc⟩) | hc
 ·exact .inl (.inl (by rw [a9 (mw hc hd (by intro z; cases z))]; exact hc))
 ·exact .inl (.inr ⟨u,by rw [a9 (mw hc hd (by intro z; cases z))]; exact hc⟩)
 ·exact .inr hc
def Zj2:Sp:=λvs H Q _=>∃ z a:Int,vs=[.int z,.int a]/\0<=a/\a<=500000/\∀ (r:Int) (H':Hp),Same H H'->Q (.int r) H'
theorem Zlm (a:Int):∃ q:Int,bf [V.int 2147483629,.int 2147483587,.int 2147483579,.int 2147483563,.int 2147483549] (a % 5)=some (.int q)/\0 < q/\q < 2147483648:=by
 have h0:=xS a (show (5:Int)≠0 by decide)
 have h1:=xD a (show (0:Int) < 5 by decide)
 have:a % 5=0\/a % 5=1\/a % 5=2\/a % 5=3\/a % 5=4:=by omega
 rcases this with e | e | e | e | e <;> rw [e]
 ·exact ⟨_,qq,by decide,by decide⟩
 ·exact ⟨_,qp,by decide,by decide⟩
 ·exact ⟨_,qo,by decide,by decide⟩
 ·exact ⟨_,qm,by decide,by decide⟩
 ·exact ⟨_,ql,by decide,by decide⟩
theorem Zjn {z:Int} (h:z ≥ (10:Int) ^ (18:Int).toNat):0<=z:=by
 have e:(10:Int) ^ (18:Int).toNat=1000000000000000000:=by decide
 omega
section
variable {P:Program} {w:World} {K:zR} {mg:Ae} {base:Heap}
theorem Zl7 (T:Txt K mg):Callee P w K mg base "_law_pen" 1 ["_law_script"] (Zj1 K):=by
 refine T.Zpd.ok Zks (λvs H Q E h=>?_) (λf cdv A outer s H vs Q E hr h=>?_)
 ·obtain ⟨a,ns,rfl,_⟩:=h
  rfl
 ·obtain ⟨a,ns,rfl,hS,hlen,k⟩:=h
  have hu:=pP hr
  refine ⟨_,(jG (hW (ZlM (tt eI (dP (qd) rfl T.oT boot_list (bp (ZcM ZaZ (pv 0) ZcE (ZcD cJ)) cm)) (tt eI cJ (tt eI cJ Zlo))) rfl rfl (by simp) (by decide)))),?_⟩
  intro p hp
  have s0:Same H (upd H p (.dK [])):=(Same.refl _).new hp
  refine ⟨_,rfl,63,rfl,a,_,rfl,s0.seq hS,λq hq=>⟨q,_,rfl,Or.inl (SqL.of cA),λc hc=>?_⟩⟩
  have hcut:fP (ns.map V.int) none (some 63)=ns.map V.int:=by
   unfold fP
   have e:HT.aU (ns.map V.int).length (ns.map V.int).length (some 63)=(ns.map V.int).length:=by
    have q:=HT.ky (ns.map V.int).length (ns.map V.int).length 63
    rw [vZ] at q ⊢
    exact q.trans (Nat.min_eq_right hlen)
   rw [e]
   show ((ns.map V.int).drop 0).take ((ns.map V.int).length - 0)=_
   rw [zK,Nat.sub_zero,zm]
  have nqp:q≠p:=λz=>by
   rw [z,cA] at hq
   cases hq
  have ncp:c≠p:=λz=>by
   rw [z,a9 (Ne.symm nqp),cA] at hc
   cases hc
  have s1:=s0.new (o:=.lst (fP (ns.map V.int) none (some 63))) hq
  have s2:=s1.new (o:=.lst (fP (ns.map V.int) none (some 63))) hc
  refine ⟨by rw [a9 (Ne.symm ncp),a9 (Ne.symm nqp),cA],cD c 0 0,rfl,(by show 3<=15; decide),k p _ hp ⟨c,⟨0,0,by rw [cA]; rfl,v4 _,wK _⟩,SqL.of ?_,hlen⟩ λb o e=>?_⟩
  ·rw [a9 ncp,cA,hcut]
  ·rw [a9 (dh e hp)]
   exact s2 b o e
theorem Zl8 (T:Txt K mg):Callee P w K mg base "_law_mixed" 1 ["_law_cell","_law_k"] Zj2:=by
 refine T.Zpj.ok oj (λvs H Q E h=>?_) (λf cdv A outer s H vs Q E hr h=>?_)
 ·obtain ⟨z,a,rfl,_⟩:=h
  rfl
 ·obtain ⟨z,a,rfl,a0,a1,k⟩:=h
  have hu:=pP hr
  refine ⟨_,(eU (aN (i:=2) oj.nd (oF ZdP (ZcL (bp cJ (bp cJ (bp cJ (bp cJ (bp cJ cm)))))) (cE gD (pv 1) cJ) (λ_ _=>rfl)))
 (eU (aN (i:=3) oj.nd (cE gD (cE oK (cE iX (cE iX (cE oM (cE gD (pv 0) (pv 2)) (cE iX (cE oM cJ (pv 1)) cJ)) (cE oM cJ (pv 1))) cJ) cJ) (pv 2)))
 (eU (aN (i:=4) oj.nd (cE gD (cE iX (cE oM (pv 3) (cE iX (cE iX (cE gD (pv 3) cJ) (pv 1)) cJ)) (cE gD (pv 0) cJ)) cJ))
 (jG (hW (cE tF (pv 4) cJ)))))),?_⟩
  obtain ⟨q,hq,q0,q1⟩:=Zlm a
  refine ⟨by show 5<=sizeLine; decide,λt ht=>?_⟩
  have s1:Same H (upd H t (.tup [.int 2147483629,.int 2147483587,.int 2147483579,.int 2147483563,.int 2147483549])):=(Same.refl _).new ht
  refine ⟨_,rfl,_,_,rfl,rfl,(by show (0:Int) < 5; decide),t,_,_,_,rfl,rfl,SqT.of cA,hq,?_⟩
  generalize upd H t (.tup [.int 2147483629,.int 2147483587,.int 2147483579,.int 2147483563,.int 2147483549])=H1 at s1
  have b0:=xS z (show q≠0 by omega)
  have b1:=xD z q0
  have c0:0<=z % q * (2 * a+3):=xm b0 (by omega)
  have c1:z % q * (2 * a+3)<=2147483648 * 1000003:=Int.mul_le_mul (by omega) (by omega) (by omega) (by omega)
  refine ⟨_,rfl,_,rfl,_,_,rfl,rfl,q0,_,rfl,_,_,rfl,rfl,.inl ⟨by decide,by decide⟩,_,_,rfl,rfl,_,_,rfl,rfl,.inl ⟨by omega,by omega⟩,_,rfl,_,_,rfl,rfl,.inl ⟨by decide,by decide⟩,_,_,rfl,rfl,_,_,rfl,rfl,_,_,rfl,rfl,⟨by decide,by decide,by omega⟩,_,rfl,_,_,rfl,rfl,q0,?_⟩
  have m0:0<=((z % q * (2 * a+3)+31607 * a+5) ^ (3:Int).toNat) % q:=xS _ (by omega)
  have m1:((z % q * (2 * a+3)+31607 * a+5) ^ (3:Int).toNat) % q < q:=xD _ q0
  generalize hN:((z % q * (2 * a+3)+31607 * a+5) ^ (3:Int).toNat) % q=N at m0 m1
  have d0:=xS N (show (40487:Int)≠0 by decide)
  have d1:=xD N (show (0:Int) < 40487 by decide)
  refine ⟨_,rfl,_,rfl,_,_,rfl,rfl,(by show (0:Int) < 40487; decide),_,rfl,_,_,rfl,rfl,_,_,rfl,rfl,_,_,rfl,rfl,.inl ⟨by omega,by omega⟩,_,rfl,_,_,rfl,rfl,(by show (0:Int) < 65537; decide),_,_,rfl,rfl,_,_,rfl,rfl,(by show (0:Int) < 1073741789; decide),?_⟩
  exact ⟨_,rfl,_,_,rfl,rfl,⟨by decide,by decide⟩,k _ _ s1⟩
theorem Zma (T:Txt K mg):Callee P w K mg base "_law_take" 2 ["_law_pen_here","_law_most"] (ZaT K):=by
 refine T.Zo9.ok lY (λvs H Q E h=>?_) (λf cdv A outer s H vs Q E hr h=>?_)
 ·obtain ⟨p,c,ns,m,most,rfl,_⟩:=h
  rfl
 ·obtain ⟨p,c,ns,m,most,rfl,hP,hm,h0,h1,k⟩:=h
  have hu:=pP hr
  have f_law_mixed:=Zl8 (P:=P) (w:=w) (K:=K) (mg:=mg) (base:=base) T
  refine ⟨_,(eU (oz (mi ge (iW hu (pv 0) eI (λ_ _=>rfl)) cJ (nomark _)) (eU (aN (i:=2) lY.nd (cE gD (iW hu (pv 0) eI (λ_ _=>rfl)) (pv 1)))
 (eU (tq hu (pv 0) eI (cE tF (iW hu (pv 0) eI (λ_ _=>rfl)) (pv 1)) rfl)
 (jG (hW (pv 2))))) oy)
 (eU (aN (i:=3) lY.nd (iW hu (pv 0) eI (λ_ _=>rfl)))
 (eU (tq hu (pv 0) eI (cE iX (pv 3) cJ) rfl)
 (eU (aN (i:=4) lY.nd cJ)
 (eU (PS.join (oz (mi ge (bc (c6) rfl T.cY boot_len (bp (iW hu (pv 0) eI (λ_ _=>rfl)) cm)) cJ (nomark _)) (jG (aN (i:=4) lY.nd (oF ue (iW hu (pv 0) eI (λ_ _=>rfl)) (cE gD (pv 3) (bc (c6) rfl T.cY boot_len (bp (iW hu (pv 0) eI (λ_ _=>rfl)) cm))) (λ_ _=>rfl)))) oy))
 (eU (oz (PT.join (PW.pt (Zlc (mi kJ (pv 3) (bc (c6) rfl T.cY boot_len (bp (iW hu (pv 0) eI (λ_ _=>rfl)) cm)) (nomark _)) (Zlb (mi Zl1 (pv 4) (cE oK cJ cJ) (nomark _)))))) (eU (tq hu (pv 0) eI (cE tF (pv 4) (pv 1)) rfl)
 (jG (hW (cE gD (pv 4) (pv 1))))) oy)
 (jG (hW (cE gD (oG f_law_mixed (hr.mono (by decide)) rfl (bp (pv 4) (bp (pv 3) cm))) (pv 1)))))))))),?_⟩
  obtain ⟨⟨a,l,hd,ha,hl⟩,hc,hn⟩:=hP
  refine ⟨_,rfl,p,_,rfl,uL hd,_,_,rfl,rfl,_,rfl,?_⟩
  refine pN (λhz=>?_) (λhz=>?_)
  ·refine ⟨_,rfl,p,_,rfl,uL hd,_,rfl,_,_,rfl,rfl,h0,?_⟩
   refine ⟨_,rfl,p,_,rfl,uL hd,_,rfl,_,_,rfl,rfl,⟨h0,h1⟩,_,rfl,p,_,rfl,ZhI hd,?_⟩
   exact ⟨_,rfl,k _ _ (xS _ (by omega)) (xD _ h0) ⟨⟨a,_,cA,by omega,zw hl (by omega)⟩,rM hd hc,hn⟩ Kept.refl.pen⟩
  ·refine ⟨_,rfl,p,_,rfl,Zox hd,?_⟩
   refine ⟨_,rfl,_,_,rfl,rfl,_,rfl,p,_,rfl,Zov hd,?_⟩
   have hd1:(upd H p (.dK (cD c ((a:Int)+1) l))) p=some (.dK (cD c ((a+1:Nat):Int) l)):=by
    rw [cA]
    rfl
   have hc1:SqL K (upd H p (.dK (cD c ((a:Int)+1) l))) c (ns.map V.int):=rM hd hc
   have k1:Kept p H (upd H p (.dK (cD c ((a:Int)+1) l))):=Kept.refl.pen
   generalize upd H p (.dK (cD c ((a:Int)+1) l))=H1 at hd1 hc1 k1
   refine ⟨λσ' H'=>∃ (z:Int),σ'=[some (.ref p),some (.int most),none,some (.int a),some (.int z)]/\H'=H1,?_,?_⟩
   ·refine ⟨_,rfl,p,_,rfl,p6 hd1,c,_,rfl,.inl hc1,_,_,rfl,rfl,_,rfl,?_⟩
    refine pN (λhlen=>?_) (λ_=>⟨_,rfl,rfl⟩)
    have hlen':(0:Int) < ((ns.map V.int).length:Nat):=of_decide_eq_true hlen
    have hne':ns≠[]:=by
     rintro rfl
     simp at hlen'
    obtain ⟨z,hz2⟩:=Zpv ns a hne'
    refine ⟨_,rfl,p,_,rfl,p6 hd1,_,rfl,_,rfl,p,_,rfl,p6 hd1,c,_,rfl,.inl hc1,_,_,rfl,rfl,hlen',c,_,_,_,rfl,rfl,hc1,hz2,?_⟩
    exact ⟨z,rfl,rfl⟩
   ·rintro σ2 H2 ⟨z,rfl,rfl⟩
    refine ⟨λb H'=>(b=true->0<=z)/\H'=H2,?_,?_⟩
    ·refine ⟨_,rfl,_,rfl,p,_,rfl,p6 hd1,c,_,rfl,.inl hc1,_,_,rfl,rfl,_,rfl,?_⟩
     refine pN (λ_=>?_) (λ_=>⟨λh=>(by cases h),rfl⟩)
     exact ⟨_,rfl,_,_,rfl,rfl,⟨by decide,by decide,by decide⟩,_,_,rfl,rfl,_,rfl,λh=>Zjn (of_decide_eq_true h),rfl⟩
    ·rintro b H3 ⟨hb0,rfl⟩
     refine pN (λhb=>?_) (λ_=>?_)
     ·refine ⟨_,rfl,_,rfl,_,_,rfl,rfl,⟨h0,h1⟩,_,rfl,p,_,rfl,ZhI hd1,?_⟩
      refine ⟨_,rfl,_,rfl,_,_,rfl,rfl,h0,?_⟩
      exact k _ _ (xS _ (by omega)) (xD _ h0) ⟨⟨a+1,_,cA,by omega,zw (hb0 hb) (by omega)⟩,rM hd1 hc1,hn⟩ k1.pen
     ·refine ⟨_,rfl,_,rfl,z,a,rfl,by omega,by omega,λr H' s'=>?_⟩
      refine ⟨_,rfl,_,_,rfl,rfl,h0,?_⟩
      exact k _ _ (xS _ (by omega)) (xD _ h0) ⟨⟨a+1,l,s' _ _ hd1,by omega,hl⟩,s'.seq hc1,hn⟩ λb o e n=>s' b o (k1 b o e n)
end
end My
set_option Elab.async false
set_option linter.all false
set_option maxRecDepth 100000
namespace My
open L2
noncomputable section
variable {cn:Addr×Aa} {P:Program} {w:World} {K:zR} {mg:Ae} {base:Heap}
def kR:zW:=bm 1 0
 (bb (jr (fc "int" (aa 0)) (qG (fc "bool" (aa 0)))))
theorem uZ (T:Txt K mg):ACal (bu (K,cn)) P w K mg base "is_whole" 1 ["thing"] kR:=bD T.ZoR Zkl rfl λf cdv A outer sh H E hr=>by
 exact (az (bd (lq (fV (T:="int") (.inl rfl) rfl (bc fQ rfl T.fM boot_isinstance (bp (ab (pv 0)) (bp (fJ (v:=.ty "int") rfl T.mB boot_int rfl) cm)))) (nr (ZiG (fV (T:="bool") (Or.inr (.inl rfl)) rfl (bc fQ rfl T.fM boot_isinstance (bp (ab (pv 0)) (bp (fJ (v:=.ty "bool") rfl T.tN boot_bool rfl) cm)))))))))
noncomputable def rg:zU :=
 (dm (aa 1))
noncomputable def uc:zV :=
 (iH 0 1 (ae (aa 1) (ae (ac ij (aa 0) (aa 1)) ap)))
def kT:zW:=bm 2 0
 (am (iH 0 1 (ae (bi j7 (ae (aa 0) ap)) (ae (bi j7 (ae (aa 1) ap)) ap)))
 (am (c7 rg uc 100000)
 (gR 0)))
theorem u3 (T:Txt K mg):ACal (bu (K,cn)) P w K mg base "common_divisor" 1 ["one","other"] kT:=bD T.Zo1 rY rfl λf cdv A outer sh H E hr=>by
 exact (ao (lp (kE (i:=0) (j:=1) rfl rY.nd rfl rfl (by decide) rfl rfl (ah (br (t:=aY) (bc qe rfl T.oV boot_abs (ah (ab (pv 0)) aq)) nW) (ah (br (t:=aY) (bc qe rfl T.oV boot_abs (ah (ab (pv 1)) aq)) nW) aq)) rfl))
 (ao (qt 100000 wz (dI (ab (pv 1)))
  (az (lp (kE (i:=0) (j:=1) rfl rY.nd rfl rfl (by decide) rfl rfl (ah (ab (pv 1)) (ah (ak oN nU (ab (pv 0)) (ab (pv 1))) aq)) rfl))))
 (az (qu (pv 0)))))
def gh:zW:=bm 1 0
 (bb (vF (ae (gS (ac au (aa 0) (aC (.int 1)))) (ae (ac aX (ac au (aa 0) (aC (.int 0))) (aC (.int 1))) ap))))
theorem jj (T:Txt K mg):ACal (bu (K,cn)) P w K mg base "stocks" 1 ["shop"] gh:=bD T.ZoB Zke rfl λf cdv A outer sh H E hr=>by
 exact (az (bd (ZqB (dP (ZpB hr.hd) rfl T.ft boot_tuple (bp (dP Zh9 rfl T.fL boot_range (ah (j6 (aG aF aE (ab (pv 0)) (cU rfl T.iA))) (ah (ak bw bv (aG aF aE (ab (pv 0)) (cU rfl T.j5)) ai) aq))) cm)))))
noncomputable def mh:zS :=
 (aa 0)
noncomputable def mq:zU :=
 (bj (ac (c5 λi j=>decide (i > j)) (aa 1) (aC (.int 0))))
def pq:zW:=bm 1 0
 (bb (bi jN (ae (b6 (qH (lw (aa 0)) 2 [] (bA (aJ (aj 0) (aJ (aj 1) bx))) mq mh)) ap)))
theorem Zp4 (T:Txt K mg):ACal (bu (K,cn)) P w K mg base "greatest_seen" 1 ["day"] pq:=bD T.ZoW Zkn rfl λf cdv A outer sh H E hr=>by
 exact (az (bd (br (t:=aY) (bc (ZpF rfl) rfl T.mz boot_max (ah (cH (Zqt (ZlH nK ["fall","weight"] [] rfl (qx (oE rfl rfl T.oU (ab (pv 0)))) (λb=>(cT rfl (bh (aR (aQ (i:=0) (show ((bN nK ["fall","weight"] [])).Nodup by trivial))) (bh (aR (aQ (i:=1) (show ((bN nK ["fall","weight"] [])).Nodup by trivial))) cS)) (bg (bg cR)))) (λb=>(bH ge dw (ab (pv 1)) ai (nomark _))) (λb=>(ab (pv 0))) rfl (show BlkOk nK (aO sB) _ [] by trivial)) (kF (fH (cW (by decide)) (fH (cW (by decide)) kG))))) aq)) Zi5)))
def jP:zW:=bm 3 0
 (am (bJ (bj (ac (c5 λi j=>decide (i<=j)) (aa 2) (aa 1)))
  (bb (aC (.int 0)))
  bI)
 (bb (ac aX (ac au (aa 0) (aC (.int 2))) (ac bo (ac au (aa 0) (aC (.int 3))) (ac b8 (aa 2) (aa 1))))))
theorem uV (T:Txt K mg):ACal (bu (K,cn)) P w K mg base "order_cost" 1 ["shop","stock","level"] jP:=bD T.ZoG Zkg rfl λf cdv A outer sh H E hr=>by
 exact (ao (bP (bH mt dw (ab (pv 2)) (ab (pv 1)) (nomark _))
 (az (bd ai))
 bO)
 (az (bd (ak bw bv (aG aF aE (ab (pv 0)) (cU rfl T.Zeh)) (ak bC bB (aG aF aE (ab (pv 0)) (cU rfl T.ur)) (ak cu cr (ab (pv 2)) (ab (pv 1))))))))
def jQ:zW:=bm 3 0
 (bb (bi jM (ae (ac b8 (aa 1) (aa 2)) (ae (gS (ac au (aa 0) (aC (.int 1)))) ap))))
theorem uW (T:Txt K mg):ACal (bu (K,cn)) P w K mg base "next_stock" 1 ["shop","level","fall"] jQ:=bD T.ZoJ Zkh rfl λf cdv A outer sh H E hr=>by
 exact (az (bd (br (t:=aY) (bc (qc rfl) rfl T.mz boot_max (ah (ak cu cr (ab (pv 1)) (ab (pv 2))) (ah (j6 (aG aF aE (ab (pv 0)) (cU rfl T.iA))) aq))) nV)))
noncomputable def ZdN:zV :=
 (am (aS 7 (bS (ae (ac au (aa 2) (ac b8 (aa 6) (aa 1))) (ae (aa 6) ap))))
 (am (fe (bA (aJ (aj 8) (aJ (aj 9) bx))) (bi i5 (ae (aa 7) (ae (bS (ae (ac aX (ac bo (aa 3) (ac au (aa 0) (aC (.int 2)))) (ac au (aa 5) (aC (.int 0)))) (ae (ac au (aa 5) (aC (.int 1))) ap))) ap))))
 (am (jq 4 (bS (ae (ac b8 (aa 8) (ac bo (ac bo (aa 3) (ac au (aa 0) (aC (.int 3)))) (aa 6))) (ae (aa 9) ap))))
 (aS 5 (bi i5 (ae (aa 7) (ae (aa 5) ap)))))))
def pC:zW:=bm 4 6
 (am (jn 4 (df ap))
 (am (aS 5 (bS (ae (ac au (aa 2) (gS (aC (.int 1)))) (ae (ac au (aa 0) (aC (.int 0))) ap))))
 (am (dg (vH (ae (aa 1) (ae (ac aX (ac au (aa 0) (aC (.int 0))) (aC (.int 1))) ap))) (aj 6) ZdN)
 (am (qF 4)
 (gR 4)))))
theorem Zp8 (T:Txt K mg):ACal (bu (K,cn)) P w K mg base "cheapest_from" 1 ["shop","low","by_level","scale"] pC:=bD T.Zo2 iQ rfl λf cdv A outer sh H E hr=>by
 exact (ao (li (aN (i:=4) iQ.nd (dE aq)))
 (ao (aT (aN (i:=5) iQ.nd (bX (ah (aG aF aE (ab (pv 2)) (j6 ai)) (ah (aG aF aE (ab (pv 0)) (cU rfl T.j5)) aq)))))
 (ao (dD wz rfl (Zqz (Zlt rfl T.Zmt (dP Zh9 rfl T.fL boot_range (ah (ab (pv 1)) (ah (ak bw bv (aG aF aE (ab (pv 0)) (cU rfl T.j5)) ai) aq))))) (aR (aQ (i:=6) iQ.nd))
  (ao (aT (aN (i:=7) iQ.nd (bX (ah (aG aF aE (ab (pv 2)) (ak cu cr (ab (pv 6)) (ab (pv 1)))) (ah (ab (pv 6)) aq)))))
 (ao (fR (eE (br (t:=aY) (bc (Zia hr rfl) rfl T.tM boot_min (ah (ab (pv 7)) (ah (bX (ah (ak bw bv (ak bC bB (ab (pv 3)) (aG aF aE (ab (pv 0)) (cU rfl T.Zeh))) (aG aF aE (ab (pv 5)) ai)) (ah (aG aF aE (ab (pv 5)) ai) aq))) aq))) Zam) (cT rfl (bh (aR (aQ (i:=8) iQ.nd)) (bh (aR (aQ (i:=9) iQ.nd)) cS)) (bg (bg cR)))))
 (ao (nn (jH (mo xp xH xG mC (pv 4) (bp (bX (ah (ak cu cr (ab (pv 8)) (ak bC bB (ak bC bB (ab (pv 3)) (aG aF aE (ab (pv 0)) (cU rfl T.ur))) (ab (pv 6)))) (ah (ab (pv 9)) aq))) cm))))
 (az (aT (aN (i:=5) iQ.nd (br (t:=aY) (bc (Zia hr rfl) rfl T.tM boot_min (ah (ab (pv 7)) (ah (ab (pv 5)) aq))) Zam))))))))
 (ao (Zqn (jH (ZlQ xp PySem.F.slot_list_reverse PySem.F.type_list_reverse Zmx (pv 4))))
 (az (qu (pv 4)))))))
noncomputable def me:zS :=
 (ac e9 (ac b8 (ac bo (aa 3) (aa 0)) (ac bo (aa 4) (aa 1))) (aa 2))
noncomputable def mQ:zV :=
 (bJ (bj (ac cX (aa 5) (aa 2)))
  (am (aS 6 (ac au (iI 0 (aa 5)) (aa 2)))
 (lr 0 (aa 5) (b6 (dF (j9 (iI 0 (aa 5)) (aa 3)) 2 [1,4,6] (bA (aJ (aj 0) (aJ (aj 1) bx))) me))))
  bI)
noncomputable def pE:zV :=
 (am (aS 3 (iI 0 (aa 2)))
 (am (aS 4 (ac au (aa 3) (aa 2)))
 (am (dg (gQ (ae (lz cN (j8 0 av)) ap)) (aj 5) mQ)
 (aS 1 (aa 4)))))
noncomputable def md:zS :=
 (ac au (aa 0) (gS (aC (.int 1))))
def o4:zW:=bm 1 6
 (am (aS 1 (aC (.int 1)))
 (am (dg (gQ (ae (lz cN (j8 0 av)) ap)) (aj 2) pE)
 (lu 0 (bb (bS (ae (b6 (dF (dU (aa 0)) 1 [] (aj 0) md)) (ae (aa 1) ap)))))))
theorem ZpH (T:Txt K mg):vX (bu (K,cn)) P w K mg base "solved" 1 "rows" o4:=ZqG T.ZoC iP rfl (by decide) λf cdv A outer sh H E hr=>by
 exact (ao (aT (aN (i:=1) iP.nd ai))
 (ao (dD wz rfl (jm (iV rfl T.fL (ah (qz oC (bc c6 rfl T.cY boot_len (qC (pv 0) qB)) dA) aq))) (aR (aQ (i:=2) iP.nd))
  (ao (aT (aN (i:=3) iP.nd (nu (ab (pv 2)) (pv 0) (λ_ _=>rfl))))
 (ao (aT (aN (i:=4) iP.nd (aG aF aE (ab (pv 3)) (ab (pv 2)))))
 (ao (dD wz rfl (jm (iV rfl T.fL (ah (qz oC (bc c6 rfl T.cY boot_len (qC (pv 0) qB)) dA) aq))) (aR (aQ (i:=5) iP.nd))
  (az (bP (bH (fr hr) fg (ab (pv 5)) (ab (pv 2)) (nomark _))
  (ao (aT (aN (i:=6) iP.nd (aG aF aE (nu (ab (pv 5)) (pv 0) (λ_ _=>rfl)) (ab (pv 2)))))
 (az (vh (eE (cH (fU (fI jt ["x","y"] [1,4,6] rfl (nq (mn rfl rfl T.my (nu (ab (pv 5)) (pv 0) (λ_ _=>rfl)) (ab (pv 3)))) (λb=>(cT rfl (bh (aR (aQ (i:=0) (show ((bN jt ["x","y"] [1,4,6])).Nodup by trivial))) (bh (aR (aQ (i:=1) (show ((bN jt ["x","y"] [1,4,6])).Nodup by trivial))) cS)) (bg (bg cR)))) (λb=>(ak h8 gU (ak cu cr (ak bC bB (ab (pv 3)) (ab (pv 0))) (ak bC bB (ab (pv 4)) (ab (pv 1)))) (ab (pv 2)))) rfl (show BlkOk jt (aO om) _ [1,4,6] by trivial)) (kF (fH (cW (by decide)) (fH (cW (by decide)) kG))))) (tz (pv 0) (ab (pv 5)) lS)))))
  bO)))
 (az (aT (aN (i:=1) iP.nd (ab (pv 4)))))))))
 (az (qv (k:=0) (bd (bX (ah (cH (fU (fI jt ["row"] [] rfl (eP (ab (pv 0))) (λb=>(aR (aQ (i:=0) (show ((bN jt ["row"] [])).Nodup by trivial)))) (λb=>(aG aF aE (ab (pv 0)) (j6 ai))) rfl (show BlkOk jt (aO om) _ [] by trivial)) (cW (by decide)))) (ah (ab (pv 1)) aq))))))))
def mG:zW:=bm 3 0
 (bb (ac bo (ac aX (ac au (aa 0) (aC (.int 2))) (ac bo (ac au (aa 0) (aC (.int 3))) (ac b8 (aa 2) (aa 1)))) (bi j4 (ae (ac (c5 λi j=>decide (i > j)) (aa 2) (aa 1)) ap))))
theorem ZpS (T:Txt K mg):ACal (bu (K,cn)) P w K mg base "_law_order" 1 ["_law_shop","_law_stock","_law_level"] mG:=bD T.Zpf Zkt rfl λf cdv A outer sh H E hr=>by
 exact (az (bd (ak bC bB (ak bw bv (aG aF aE (ab (pv 0)) ai) (ak bC bB (aG aF aE (ab (pv 0)) ai) (ak cu cr (ab (pv 2)) (ab (pv 1))))) (br (t:=aY) (dP uU rfl T.mB boot_int (ah (iG ge dw (ab (pv 2)) (ab (pv 1)) (nomark _)) aq)) rm))))
def pf:zW:=bm 3 0
 (bb (bi jM (ae (ac b8 (aa 1) (aa 2)) (ae (ac b8 (aC (.int 0)) (ac au (aa 0) (aC (.int 1)))) ap))))
theorem ZpT (T:Txt K mg):ACal (bu (K,cn)) P w K mg base "_law_next" 1 ["_law_shop","_law_level","_law_fall"] pf:=bD T.Zph Zku rfl λf cdv A outer sh H E hr=>by
 exact (az (bd (br (t:=aY) (bc (qc rfl) rfl T.mz boot_max (ah (ak cu cr (ab (pv 1)) (ab (pv 2))) (ah (ak cu cr ai (aG aF aE (ab (pv 0)) ai)) aq))) nV)))
def mI:zW:=bm 3 2
 (am (aS 3 (ac b8 (aa 1) (aa 2)))
 (am (aS 4 (bi jM (ae (aC (.int 0)) (ae (ac b8 (ac b8 (aC (.int 0)) (ac au (aa 0) (aC (.int 1)))) (aa 3)) ap))))
 (am (bJ (bj (ac (c5 λi j=>decide (i > j)) (aa 3) (aC (.int 0))))
  (bb (ac bo (ac au (aa 0) (aC (.int 4))) (aa 3)))
  bI)
 (bb (ac aX (ac bo (ac au (aa 0) (aC (.int 5))) (ac b8 (ac b8 (aC (.int 0)) (aa 3)) (aa 4))) (ac bo (ac au (aa 0) (aC (.int 6))) (aa 4)))))))
theorem ZpW (T:Txt K mg):ACal (bu (K,cn)) P w K mg base "_law_day" 1 ["_law_shop","_law_level","_law_fall"] mI:=bD T.Zpn sf rfl λf cdv A outer sh H E hr=>by
 exact (ao (aT (aN (i:=3) sf.nd (ak cu cr (ab (pv 1)) (ab (pv 2)))))
 (ao (aT (aN (i:=4) sf.nd (br (t:=aY) (bc (qc rfl) rfl T.mz boot_max (ah ai (ah (ak cu cr (ak cu cr ai (aG aF aE (ab (pv 0)) ai)) (ab (pv 3))) aq))) nV)))
 (ao (bP (bH ge dw (ab (pv 3)) ai (nomark _))
  (az (bd (ak bC bB (aG aF aE (ab (pv 0)) ai) (ab (pv 3)))))
  bO)
 (az (bd (ak bw bv (ak bC bB (aG aF aE (ab (pv 0)) ai) (ak cu cr (ak cu cr ai (ab (pv 3))) (ab (pv 4)))) (ak bC bB (aG aF aE (ab (pv 0)) ai) (ab (pv 4)))))))))
def ik:zW:=bm 1 0
 (bb (jr (fc "int" (aa 0)) (qG (fc "bool" (aa 0)))))
theorem uX (T:Txt K mg):ACal (bu (K,cn)) P w K mg base "_law_whole" 1 ["_law_thing"] ik:=bD T.Zo6 Zkq rfl λf cdv A outer sh H E hr=>by
 exact (az (bd (lq (fV (T:="int") (.inl rfl) rfl (bc fQ rfl T.fM boot_isinstance (bp (ab (pv 0)) (bp (fJ (v:=.ty "int") rfl T.mB boot_int rfl) cm)))) (nr (ZiG (fV (T:="bool") (Or.inr (.inl rfl)) rfl (bc fQ rfl T.fM boot_isinstance (bp (ab (pv 0)) (bp (fJ (v:=.ty "bool") rfl T.tN boot_bool rfl) cm)))))))))
noncomputable def rf:zU :=
 (bj (ac (c5 λi j=>decide (i > j)) (aa 3) (aC (.int 0))))
noncomputable def t6:zV :=
 (iH 2 3 (ae (aa 3) (ae (ac ij (aa 2) (aa 3)) ap)))
def pb:zW:=bm 2 2
 (am (iH 2 3 (ae (bi j7 (ae (aa 0) ap)) (ae (aa 1) ap)))
 (am (c7 rf t6 100000)
 (bb (bS (ae (ac e9 (aa 0) (aa 2)) (ae (ac e9 (aa 1) (aa 2)) ap))))))
theorem ZpP (T:Txt K mg):ACal (bu (K,cn)) P w K mg base "_law_share" 1 ["_law_top","_law_bottom"] pb:=bD T.Zpa r6 rfl λf cdv A outer sh H E hr=>by
 exact (ao (lp (kE (i:=2) (j:=3) rfl r6.nd rfl rfl (by decide) rfl rfl (ah (br (t:=aY) (bc qe rfl T.oV boot_abs (ah (ab (pv 0)) aq)) nW) (ah (ab (pv 1)) aq)) rfl))
 (ao (qt 100000 wz (bH ge dw (ab (pv 3)) ai (nomark _))
  (az (lp (kE (i:=2) (j:=3) rfl r6.nd rfl rfl (by decide) rfl rfl (ah (ab (pv 3)) (ah (ak oN nU (ab (pv 2)) (ab (pv 3))) aq)) rfl))))
 (az (bd (bX (ah (ak h8 gU (ab (pv 0)) (ab (pv 2))) (ah (ak h8 gU (ab (pv 1)) (ab (pv 2))) aq)))))))
def eV:zW:=bm 3 0
 (bb (ac gP (ac gP (fw (aa 0) fW (eQ (aa 1))) (bS (ae (aa 2) ap))) (fw (aa 0) (eQ (ac aX (aa 1) (aC (.int 1)))) fW)))
theorem jl (T:Txt K mg):ACal (bu (K,cn)) P w K mg base "_law_put" 1 ["_law_some","_law_at","_law_one"] eV:=bD T.Zpb Zkr rfl λf cdv A outer sh H E hr=>by
 exact (az (bd (ak mv lG (ak mv lG (gv (ab (pv 0)) gO (fS (ab (pv 1)))) (bX (ah (ab (pv 2)) aq))) (gv (ab (pv 0)) (fS (ak bw bv (ab (pv 1)) ai)) gO))))
def gE:zW:=bm 3 0
 (bb (jr (aD (ay kR (af (aa 0) av))) (lx (c5 λi j=>decide (i<=j)) (c5 λi j=>decide (i<=j)) (aa 1) (aa 0) (aa 2))))
theorem Zp0 (T:Txt K mg):ACal (bu (K,cn)) P w K mg base "is_whole_within" 2 ["thing","lowest","highest"] gE:=bD T.ZoQ Zkk rfl λf cdv A outer sh H E hr=>by
 exact (az (bd (lq (aH (aA (uZ T) hr (ag (ab (pv 0)) aB))) (nr (ZqE mt dw mt dw (ab (pv 1)) (ab (pv 0)) (ab (pv 2)))))))
def gF:zW:=bm 1 2
 (am (bJ (dL (dq (dm (fc "tuple" (aa 0)))) (bj (ac cX (bi cN (ae (aa 0) ap)) (aC (.int 2)))))
  (bb (aC (.bool false)))
  bI)
 (am (fe (bA (aJ (aj 1) (aJ (aj 2) bx))) (aa 0))
 (am (bJ (dL (dq (dm (aD (ay kR (af (aa 1) av))))) (dL (dq (dm (aD (ay kR (af (aa 2) av))))) (bj (ac (c5 λi j=>decide (i < j)) (aa 2) (aC (.int 1))))))
  (bb (aC (.bool false)))
  bI)
 (bb (ac cv (aD (ay kT (af (aa 1) (af (aa 2) av)))) (aC (.int 1)))))))
theorem Zif (T:Txt K mg):ACal (bu (K,cn)) P w K mg base "is_share" 2 ["thing"] gF:=bD T.ZoS rX rfl λf cdv A outer sh H E hr=>by
 exact (ao (bP (gt (eu (dJ (dI (fV (T:="tuple") (Or.inr (Or.inr (Or.inr (Or.inr (.inl rfl))))) rfl (bc fQ rfl T.fM boot_isinstance (bp (ab (pv 0)) (bp (fJ (v:=.ty "tuple") rfl T.ft boot_tuple rfl) cm)))))) (gq (bH (fr hr) fg (br (t:=aY) (bc c6 rfl T.cY boot_len (ah (ab (pv 0)) aq)) dA) ai (nomark _)))))
 (az (bd cL))
 bO)
 (ao (fR (eE (ab (pv 0)) (cT rfl (bh (aR (aQ (i:=1) rX.nd)) (bh (aR (aQ (i:=2) rX.nd)) cS)) (bg (bg cR)))))
 (ao (bP (gt (eu (dJ (dI (aH (aA (uZ T) hr (ag (ab (pv 1)) aB))))) (eu (dJ (dI (aH (aA (uZ T) hr (ag (ab (pv 2)) aB))))) (gq (bH kJ dw (ab (pv 2)) ai (nomark _))))))
  (az (bd cL))
  bO)
 (az (bd (iG (db hr) c8 (aH (aA (u3 T) hr (ag (ab (pv 1)) (ag (ab (pv 2)) aB)))) ai (nomark _)))))))
def i7:zW:=bm 2 1
 (am (bJ (bj (ac cv (aa 1) (aC (.int 0))))
  vJ
  bI)
 (am (aS 2 (aD (ay kT (af (aa 0) (af (aa 1) av)))))
 (am (bJ (bj (ac (c5 λi j=>decide (i < j)) (aa 1) (aC (.int 0))))
  (aS 2 (gS (aa 2)))
  bI)
 (bb (bS (ae (ac e9 (aa 0) (aa 2)) (ae (ac e9 (aa 1) (aa 2)) ap)))))))
theorem qg (T:Txt K mg):ACal (bu (K,cn)) P w K mg base "share" 2 ["top","bottom"] i7:=bD T.ZoD rV rfl λf cdv A outer sh H E hr=>by
 exact (ao (bP (bH (db hr) c8 (ab (pv 1)) ai (nomark _))
 (az Ziw)
 bO)
 (ao (aT (aN (i:=2) rV.nd (aH (aA (u3 T) hr (ag (ab (pv 0)) (ag (ab (pv 1)) aB))))))
 (ao (bP (bH kJ dw (ab (pv 1)) ai (nomark _))
  (az (aT (aN (i:=2) rV.nd (j6 (ab (pv 2))))))
  bO)
 (az (bd (bX (ah (ak h8 gU (ab (pv 0)) (ab (pv 2))) (ah (ak h8 gU (ab (pv 1)) (ab (pv 2))) aq))))))))
def mK:zW:=bm 3 3
 (am (aS 3 (aD (ay jQ (af (aa 0) (af (aa 1) (af (aa 2) av))))))
 (am (aS 4 (ac b8 (aa 3) (ac b8 (aa 1) (aa 2))))
 (am (aS 5 (vK (bj (ac (c5 λi j=>decide (i > j)) (aa 3) (aC (.int 0)))) (ac bo (ac au (aa 0) (aC (.int 4))) (aa 3)) (ac bo (ac au (aa 0) (aC (.int 5))) (gS (aa 3)))))
 (bb (ac aX (aa 5) (ac bo (ac au (aa 0) (aC (.int 6))) (aa 4)))))))
theorem Zp6 (T:Txt K mg):ACal (bu (K,cn)) P w K mg base "day_cost" 2 ["shop","level","fall"] mK:=bD T.ZoZ oi rfl λf cdv A outer sh H E hr=>by
 exact (ao (aT (aN (i:=3) oi.nd (aH (aA (uW T) hr (ag (ab (pv 0)) (ag (ab (pv 1)) (ag (ab (pv 2)) aB)))))))
 (ao (aT (aN (i:=4) oi.nd (ak cu cr (ab (pv 3)) (ak cu cr (ab (pv 1)) (ab (pv 2))))))
 (ao (aT (aN (i:=5) oi.nd (ZqD (bH ge dw (ab (pv 3)) ai (nomark _)) (ak bC bB (aG aF aE (ab (pv 0)) (cU rfl T.ZnO)) (ab (pv 3))) (ak bC bB (aG aF aE (ab (pv 0)) (cU rfl T.ZnN)) (j6 (ab (pv 3)))))))
 (az (bd (ak bw bv (ab (pv 5)) (ak bC bB (aG aF aE (ab (pv 0)) (cU rfl T.ZnM)) (ab (pv 4)))))))))
def mL:zW:=bm 3 0
 (jp (ay pC (af (aa 0) (af (gS (ac au (aa 0) (aC (.int 1)))) (af (aa 1) (af (aa 2) av))))))
theorem Zp9 (T:Txt K mg):ACal (bu (K,cn)) P w K mg base "cheapest" 2 ["shop","by_level","scale"] mL:=bD T.Zo3 Zko rfl λf cdv A outer sh H E hr=>by
 exact (az (lj (aA (Zp8 T) hr (ag (ab (pv 0)) (ag (j6 (aG aF aE (ab (pv 0)) (cU rfl T.iA))) (ag (ab (pv 1)) (ag (ab (pv 2)) aB)))))))
def jS:zW:=bm 2 0
 (bJ (bj (ac (c5 λi j=>decide (i < j)) (aD (ay pq (af (aa 1) av))) (ac aX (ac au (aa 0) (aC (.int 0))) (ac au (aa 0) (aC (.int 1))))))
  vJ
  bI)
theorem Zig (T:Txt K mg):ACal (bu (K,cn)) P w K mg base "ask_lasting" 2 ["shop","one"] jS:=bD T.Zo5 Zkp rfl λf cdv A outer sh H E hr=>by
 exact (az (bP (bH kJ dw (aH (aA (Zp4 T) hr (ag (ab (pv 1)) aB))) (ak bw bv (aG aF aE (ab (pv 0)) (cU rfl T.j5)) (aG aF aE (ab (pv 0)) (cU rfl T.iA))) (nomark _))
 (az Ziw)
 bO))
noncomputable def pF:zV :=
 (nC mV 1 (ac e9 (aa 3) (aD (ay kT (af (aa 1) (af (aa 3) av))))))
noncomputable def ou:zS :=
 (ac bo (aa 0) (ac e9 (aa 2) (aa 1)))
def o6:zW:=bm 1 3
 (am (aS 1 (aC (.int 1)))
 (am (dg (dU (aa 0)) (bA (aJ (aj 2) (aJ (aj 3) bx))) pF)
 (bb (bS (ae (b6 (dF (dU (aa 0)) 2 [1] (bA (aJ (aj 0) (aJ (aj 1) bx))) ou)) (ae (aa 1) ap))))))
theorem ZpJ (T:Txt K mg):ACal (bu (K,cn)) P w K mg base "on_one_scale" 2 ["worths"] o6:=bD T.ZoH lU rfl λf cdv A outer sh H E hr=>by
 exact (ao (aT (aN (i:=1) lU.nd ai))
 (ao (dD wz rfl (eP (ab (pv 0))) (cT rfl (bh (aR (aQ (i:=2) lU.nd)) (bh (aR (aQ (i:=3) lU.nd)) cS)) (bg (bg cR)))
  (az (Ziz Zi2 (ZcC (i:=1) lU.nd rfl (.inr rfl) (ak h8 gU (ab (pv 3)) (aH (aA (u3 T) hr (ag (ab (pv 1)) (ag (ab (pv 3)) aB))))) (pip Znu)))))
 (az (bd (bX (ah (cH (fU (fI nH ["top","bottom"] [1] rfl (eP (ab (pv 0))) (λb=>(cT rfl (bh (aR (aQ (i:=0) (show ((bN nH ["top","bottom"] [1])).Nodup by trivial))) (bh (aR (aQ (i:=1) (show ((bN nH ["top","bottom"] [1])).Nodup by trivial))) cS)) (bg (bg cR)))) (λb=>(ak bC bB (ab (pv 0)) (ak h8 gU (ab (pv 2)) (ab (pv 1))))) rfl (show BlkOk nH (aO sg) _ [1] by trivial)) (kF (fH (cW (by decide)) (fH (cW (by decide)) kG))))) (ah (ab (pv 1)) aq)))))))
noncomputable abbrev cF:=pA
theorem cK (T:Txt K mg):ACal (bu (K,cn)) P w K mg base "_law_take" 2 ["_law_pen_here","_law_most"] cF:=Zou rfl (Zma T)
noncomputable def kh:zU :=
 (bj (ac (c5 λi j=>decide (i > j)) (aa 2) (aC (.int 0))))
noncomputable def pJ:zV :=
 (iH 1 2 (ae (aa 2) (ae (ac ij (aa 1) (aa 2)) ap)))
def fN:zW:=bm 1 2
 (am (bJ (dL (dq (dm (fc "tuple" (aa 0)))) (dL (bj (ac cX (bi cN (ae (aa 0) ap)) (aC (.int 2)))) (dL (dq (dm (aD (ay ik (af (ac au (aa 0) (aC (.int 0))) av))))) (dq (dm (aD (ay ik (af (ac au (aa 0) (aC (.int 1))) av))))))))
  (bb (aC (.bool false)))
  bI)
 (am (iH 1 2 (ae (bi j7 (ae (ac au (aa 0) (aC (.int 0))) ap)) (ae (ac au (aa 0) (aC (.int 1))) ap)))
 (am (c7 kh pJ 100000)
 (bb (jr (ac (c5 λi j=>decide (i > j)) (ac au (aa 0) (aC (.int 1))) (aC (.int 0))) (ac cv (aa 1) (aC (.int 1))))))))
theorem Zie (T:Txt K mg):ACal (bu (K,cn)) P w K mg base "_law_is_share" 2 ["_law_thing"] fN:=bD T.Zpl r8 rfl λf cdv A outer sh H E hr=>by
 exact (ao (bP (gt (eu (dJ (dI (fV (T:="tuple") (Or.inr (Or.inr (Or.inr (Or.inr (.inl rfl))))) rfl (bc fQ rfl T.fM boot_isinstance (bp (ab (pv 0)) (bp (fJ (v:=.ty "tuple") rfl T.ft boot_tuple rfl) cm)))))) (eu (bH (fr hr) fg (br (t:=aY) (bc c6 rfl T.cY boot_len (ah (ab (pv 0)) aq)) dA) ai (nomark _)) (eu (dJ (dI (aH (aA (uX T) hr (ag (aG aF aE (ab (pv 0)) ai) aB))))) (gq (dJ (dI (aH (aA (uX T) hr (ag (aG aF aE (ab (pv 0)) ai) aB))))))))))
 (az (bd cL))
 bO)
 (ao (lp (kE (i:=1) (j:=2) rfl r8.nd rfl rfl (by decide) rfl rfl (ah (br (t:=aY) (bc qe rfl T.oV boot_abs (ah (aG aF aE (ab (pv 0)) ai) aq)) nW) (ah (aG aF aE (ab (pv 0)) ai) aq)) rfl))
 (ao (qt 100000 wz (bH ge dw (ab (pv 2)) ai (nomark _))
  (az (lp (kE (i:=1) (j:=2) rfl r8.nd rfl rfl (by decide) rfl rfl (ah (ab (pv 2)) (ah (ak oN nU (ab (pv 1)) (ab (pv 2))) aq)) rfl))))
 (az (bd (lq (iG ge dw (aG aF aE (ab (pv 0)) ai) ai (nomark _)) (nr (iG (db hr) c8 (ab (pv 1)) ai (nomark _)))))))))
def jR:zW:=bm 2 0
 (jp (ay pb (af (ac aX (ac bo (ac au (aa 0) (aC (.int 0))) (ac au (aa 1) (aC (.int 1)))) (ac bo (ac au (aa 1) (aC (.int 0))) (ac au (aa 0) (aC (.int 1))))) (af (ac bo (ac au (aa 0) (aC (.int 1))) (ac au (aa 1) (aC (.int 1)))) av))))
theorem uY (T:Txt K mg):ACal (bu (K,cn)) P w K mg base "_law_moved" 2 ["_law_one","_law_by"] jR:=bD T.Zpi Zkv rfl λf cdv A outer sh H E hr=>by
 exact (az (lj (aA (ZpP T) hr (ag (ak bw bv (ak bC bB (aG aF aE (ab (pv 0)) ai) (aG aF aE (ab (pv 1)) ai)) (ak bC bB (aG aF aE (ab (pv 1)) ai) (aG aF aE (ab (pv 0)) ai))) (ag (ak bC bB (aG aF aE (ab (pv 0)) ai) (aG aF aE (ab (pv 1)) ai)) aB)))))
def o5:zW:=bm 2 0
 (jp (ay i7 (af (ac aX (ac bo (ac au (aa 0) (aC (.int 0))) (ac au (aa 1) (aC (.int 1)))) (ac bo (ac au (aa 1) (aC (.int 0))) (ac au (aa 0) (aC (.int 1))))) (af (ac bo (ac au (aa 0) (aC (.int 1))) (ac au (aa 1) (aC (.int 1)))) av))))
theorem ZpI (T:Txt K mg):ACal (bu (K,cn)) P w K mg base "plus" 3 ["one","other"] o5:=bD T.ZoF Zkf rfl λf cdv A outer sh H E hr=>by
 exact (az (lj (aA (qg T) hr (ag (ak bw bv (ak bC bB (aG aF aE (ab (pv 0)) ai) (aG aF aE (ab (pv 1)) ai)) (ak bC bB (aG aF aE (ab (pv 1)) ai) (aG aF aE (ab (pv 0)) ai))) (ag (ak bC bB (aG aF aE (ab (pv 0)) ai) (aG aF aE (ab (pv 1)) ai)) aB)))))
def pj:zW:=bm 3 0
 (jp (ay gE (af (aa 2) (af (aa 1) (af (ac au (aa 0) (aC (.int 0))) av)))))
theorem Zp2 (T:Txt K mg):ACal (bu (K,cn)) P w K mg base "is_level" 3 ["shop","stock","thing"] pj:=bD T.ZoU Zkm rfl λf cdv A outer sh H E hr=>by
 exact (az (lj (aA (Zp0 T) hr (ag (ab (pv 2)) (ag (ab (pv 1)) (ag (aG aF aE (ab (pv 0)) (cU rfl T.j5)) aB))))))
noncomputable def ZdM:zV :=
 (am (aS 8 (ac au (aa 3) (ac aX (aD (ay jQ (af (aa 0) (af (aa 2) (af (aa 6) av))))) (ac au (aa 0) (aC (.int 1))))))
 (nC pO 5 (ac bo (aa 7) (ac aX (ac bo (aa 4) (aD (ay mK (af (aa 0) (af (aa 2) (af (aa 6) av)))))) (aa 8)))))
def jO:zW:=bm 5 4
 (am (aS 5 (aC (.int 0)))
 (am (dg (lw (aa 1)) (bA (aJ (aj 6) (aJ (aj 7) bx))) ZdM)
 (gR 5)))
theorem qf (T:Txt K mg):ACal (bu (K,cn)) P w K mg base "weighed" 3 ["shop","day","level","ahead","scale"] jO:=bD T.ZoA kr rfl λf cdv A outer sh H E hr=>by
 exact (ao (aT (aN (i:=5) kr.nd ai))
 (ao (dD wz rfl (qx (oE rfl rfl T.oU (ab (pv 1)))) (cT rfl (bh (aR (aQ (i:=6) kr.nd)) (bh (aR (aQ (i:=7) kr.nd)) cS)) (bg (bg cR)))
  (ao (aT (aN (i:=8) kr.nd (aG aF aE (ab (pv 3)) (ak bw bv (aH (aA (uW T) hr (ag (ab (pv 0)) (ag (ab (pv 2)) (ag (ab (pv 6)) aB))))) (aG aF aE (ab (pv 0)) (cU rfl T.iA))))))
 (az (Ziz Zi3 (ZcC (i:=5) kr.nd rfl (.inl rfl) (ak bC bB (ab (pv 7)) (ak bw bv (ak bC bB (ab (pv 4)) (aH (aA (Zp6 T) hr (ag (ab (pv 0)) (ag (ab (pv 2)) (ag (ab (pv 6)) aB)))))) (ab (pv 8)))) (pip Znv))))))
 (az (qu (pv 5)))))
noncomputable def sY:zS :=
 (aD (ay gF (af (aa 0) av)))
def kQ:zW:=bm 2 0
 (am (bJ (dL (dq (dm (fc "tuple" (aa 1)))) (bj (ac cX (bi cN (ae (aa 1) ap)) (bi cN (ae (aD (ay gh (af (aa 0) av))) ap)))))
  (bb (aC (.bool false)))
  bI)
 (bb (bi no (ae (b6 (dF (dU (aa 1)) 1 [] (aj 0) sY)) ap))))
theorem ZpZ (T:Txt K mg):ACal (bu (K,cn)) P w K mg base "is_worths" 3 ["shop","thing"] kQ:=bD T.ZoP Zkj rfl λf cdv A outer sh H E hr=>by
 exact (ao (bP (gt (eu (dJ (dI (fV (T:="tuple") (Or.inr (Or.inr (Or.inr (Or.inr (.inl rfl))))) rfl (bc fQ rfl T.fM boot_isinstance (bp (ab (pv 1)) (bp (fJ (v:=.ty "tuple") rfl T.ft boot_tuple rfl) cm)))))) (gq (bH (fr hr) fg (br (t:=aY) (bc c6 rfl T.cY boot_len (ah (ab (pv 1)) aq)) dA) (br (t:=aY) (bc c6 rfl T.cY boot_len (ah (aH (aA (jj T) hr (ag (ab (pv 0)) aB))) aq)) dA) (nomark _)))))
 (az (bd cL))
 bO)
 (az (bd (br (t:=aY) (bc (Zib rfl) rfl T.Zc8 boot_all (ah (cH (fU (fI qW ["worth"] [] rfl (eP (ab (pv 1))) (λb=>(aR (aQ (i:=0) (show ((bN qW ["worth"] [])).Nodup by trivial)))) (λb=>(aH (aA (Zif T) hr (ag (ab (pv 0)) aB)))) rfl (show BlkOk qW (aO sy) _ [] by trivial)) (cW (by decide)))) aq)) Zan))))
def pd:zW:=bm 1 1
 (am (aS 1 (aD (ay cF (bY 0 (af (aC (.int 6)) av)))))
 (am (bJ (bj (ac (c5 λi j=>decide (i < j)) (aa 1) (aC (.int 4))))
  (bb (ac bo (aD (ay cF (bY 0 (af (aC (.int 10)) av)))) (bi j4 (ae (ac (c5 λi j=>decide (i > j)) (aa 1) (aC (.int 0))) ap))))
  bI)
 (bb (ac au (b6 (df (ae (aD (ay cF (bY 0 (af (aC (.int 1000)) av)))) (ae (ac b8 (ac mj (aC (.int 10)) (aC (.int 6))) (aD (ay cF (bY 0 (af (aC (.int 3)) av))))) ap)))) (ac b8 (aa 1) (aC (.int 4)))))))
theorem ZpQ (T:Txt K mg):ACal (bu (K,cn)) P w K mg base "_law_price" 3 ["_law_pen_here"] pd:=bD T.Zpc Zbp rfl λf cdv A outer sh H E hr=>by
 exact (ao (aT (aN (i:=1) Zbp.nd (aH (aA (cK T) hr (ci (pv 0) (ag ai aB))))))
 (ao (bP (bH kJ dw (ab (pv 1)) ai (nomark _))
  (az (bd (ak bC bB (aH (aA (cK T) hr (ci (pv 0) (ag ai aB)))) (br (t:=aY) (dP uU rfl T.mB boot_int (ah (iG ge dw (ab (pv 1)) ai (nomark _)) aq)) rm))))
  bO)
 (az (bd (aG aF aE (cH (dE (ah (aH (aA (cK T) hr (ci (pv 0) (ag ai aB)))) (ah (ak cu cr (ak oK Zaj ai ai) (aH (aA (cK T) hr (ci (pv 0) (ag ai aB))))) aq)))) (ak cu cr (ab (pv 1)) ai))))))
noncomputable def t5:zV :=
 (jq 3 (ac au (b6 (df (ae (aC (.int 0)) (ae (aC (.int 1)) (ae (aD (ay cF (bY 0 (af (aC (.int 10)) av)))) (ae (aD (ay cF (bY 0 (af (aC (.int 1001)) av)))) ap)))))) (aD (ay cF (bY 0 (af (aC (.int 4)) av))))))
def o8:zW:=bm 3 2
 (am (jn 3 (df ap))
 (am (dg (gQ (ae (aa 1) ap)) (aj 4) t5)
 (am (lr 3 (aa 2) (bi jM (ae (aC (.int 1)) (ae (iI 3 (aa 2)) ap))))
 (lu 3 (bb (bi gX (ae (aa 3) ap)))))))
theorem ZpN (T:Txt K mg):ACal (bu (K,cn)) P w K mg base "_law_weights" 3 ["_law_pen_here","_law_many","_law_at"] o8:=bD T.Zo7 rZ rfl λf cdv A outer sh H E hr=>by
 exact (ao (li (aN (i:=3) rZ.nd (dE aq)))
 (ao (dD wz rfl (jm (iV rfl T.fL (ah (ab (pv 1)) aq))) (aR (aQ (i:=4) rZ.nd))
  (az (nn (jH (mo xp xH xG mC (pv 3) (bp (aG aF aE (by refine cH ?_; refine dE ?_; refine bQ ?_ ?_; exact ai; refine bQ ?_ ?_; exact ai; refine bQ ?_ ?_; exact (aH (aA (cK T) hr (ci (pv 0) (ag ai aB)))); refine bQ ?_ ?_; exact (aH (aA (cK T) hr (ci (pv 0) (ag ai aB)))); exact aq) (aH (aA (cK T) hr (ci (pv 0) (ag ai aB))))) cm))))))
 (ao (vh (eE (br (t:=aY) (bc (qc rfl) rfl T.mz boot_max (ah ai (ah (nu (ab (pv 2)) (pv 3) (λ_ _=>rfl)) aq))) nV) (tz (pv 3) (ab (pv 2)) lS)))
 (az (qv (k:=3) (bd (br (t:=aY) (dP nj rfl T.ft boot_tuple (ah (ab (pv 3)) aq)) lH)))))))
noncomputable def gj:zV :=
 (bJ (dL (dq (dm (fc "tuple" (aa 3)))) (bj (ac cX (bi cN (ae (aa 3) ap)) (aa 2))))
  (bb (aC (.bool false)))
  bI)
noncomputable def eh:zV :=
 (am (aS 5 (ac au (ac au (aa 1) (aC (.int 2))) (aa 4)))
 (bJ (dL (dq (dm (aD (ay fN (af (ac au (ac au (aa 1) (aC (.int 1))) (aa 4)) av))))) (dL (dq (dm (aD (ay ik (af (aa 5) av))))) (dq (bj (lx (c5 λi j=>decide (i<=j)) (c5 λi j=>decide (i<=j)) (ac b8 (aa 4) (ac au (aa 0) (aC (.int 1)))) (aa 5) (ac au (aa 0) (aC (.int 0))))))))
  (bb (aC (.bool false)))
  bI))
def eK:zW:=bm 2 4
 (am (bJ (dL (dq (dm (fc "tuple" (aa 1)))) (dL (bj (ac cX (bi cN (ae (aa 1) ap)) (aC (.int 3)))) (dq (dm (aD (ay fN (af (ac au (aa 1) (aC (.int 0))) av)))))))
  (bb (aC (.bool false)))
  bI)
 (am (aS 2 (ac aX (ac aX (ac au (aa 0) (aC (.int 0))) (ac au (aa 0) (aC (.int 1)))) (aC (.int 1))))
 (am (dg (dU (fw (aa 1) (eQ (aC (.int 1))) fW)) (aj 3) gj)
 (am (dg (gQ (ae (aa 2) ap)) (aj 4) eh)
 (bb (aC (.bool true)))))))
theorem ZpV (T:Txt K mg):ACal (bu (K,cn)) P w K mg base "_law_has_form" 3 ["_law_shop","_law_thing"] eK:=bD T.Zpm l0 rfl λf cdv A outer sh H E hr=>by
 exact (ao (bP (gt (eu (dJ (dI (fV (T:="tuple") (Or.inr (Or.inr (Or.inr (Or.inr (.inl rfl))))) rfl (bc fQ rfl T.fM boot_isinstance (bp (ab (pv 1)) (bp (fJ (v:=.ty "tuple") rfl T.ft boot_tuple rfl) cm)))))) (eu (bH (fr hr) fg (br (t:=aY) (bc c6 rfl T.cY boot_len (ah (ab (pv 1)) aq)) dA) ai (nomark _)) (gq (dJ (dI (aH (aA (Zie T) hr (ag (aG aF aE (ab (pv 1)) ai) aB)))))))))
 (az (bd cL))
 bO)
 (ao (aT (aN (i:=2) l0.nd (ak bw bv (ak bw bv (aG aF aE (ab (pv 0)) ai) (aG aF aE (ab (pv 0)) ai)) ai)))
 (ao (dD wz rfl (eP (gv (ab (pv 1)) (fS ai) gO)) (aR (aQ (i:=3) l0.nd))
  (az (bP (gt (eu (dJ (dI (fV (T:="tuple") (Or.inr (Or.inr (Or.inr (Or.inr (.inl rfl))))) rfl (bc fQ rfl T.fM boot_isinstance (bp (ab (pv 3)) (bp (fJ (v:=.ty "tuple") rfl T.ft boot_tuple rfl) cm)))))) (gq (bH (fr hr) fg (br (t:=aY) (bc c6 rfl T.cY boot_len (ah (ab (pv 3)) aq)) dA) (ab (pv 2)) (nomark _)))))
  (az (bd cL))
  bO)))
 (ao (dD wz rfl (jm (iV rfl T.fL (ah (ab (pv 2)) aq))) (aR (aQ (i:=4) l0.nd))
  (ao (aT (aN (i:=5) l0.nd (aG aF aE (aG aF aE (ab (pv 1)) ai) (ab (pv 4)))))
 (az (bP (gt (eu (dJ (dI (aH (aA (Zie T) hr (ag (aG aF aE (aG aF aE (ab (pv 1)) ai) (ab (pv 4))) aB))))) (eu (dJ (dI (aH (aA (uX T) hr (ag (ab (pv 5)) aB))))) (gq (dJ (Zqk mt dw mt dw (ak cu cr (ab (pv 4)) (aG aF aE (ab (pv 0)) ai)) (ab (pv 5)) (aG aF aE (ab (pv 0)) ai)))))))
  (az (bd cL))
  bO))))
 (az (bd cL))))))
noncomputable def sX:zS :=
 (aD (ay jR (af (aa 0) (af (aa 1) av))))
def pe:zW:=bm 3 6
 (am (fe (bA (aJ (aj 3) (aJ (aj 4) (aJ (aj 5) bx)))) (aa 2))
 (am (aS 6 (aD (ay cF (bY 0 (af (aC (.int 6)) av)))))
 (am (aS 7 (bS (ae (ac b8 (aD (ay cF (bY 0 (af (aC (.int 9)) av)))) (aC (.int 4))) (ae (ac aX (aC (.int 1)) (aD (ay cF (bY 0 (af (aC (.int 4)) av))))) ap))))
 (am (aS 8 (aD (ay cF (bY 0 (af (bi cN (ae (aa 4) ap)) av)))))
 (am (bJ (bj (ac cv (aa 6) (aC (.int 0))))
  (aS 3 (aD (ay jR (af (aa 3) (af (aa 7) av)))))
  bI)
 (am (bJ (bj (ac cv (aa 6) (aC (.int 1))))
  (aS 4 (bi gX (ae (b6 (dF (dU (aa 4)) 1 [7] (aj 0) sX)) ap)))
  bI)
 (am (bJ (bj (ac cv (aa 6) (aC (.int 2))))
  (aS 4 (aD (ay eV (af (aa 4) (af (aa 8) (af (aD (ay jR (af (ac au (aa 4) (aa 8)) (af (aa 7) av)))) av))))))
  bI)
 (am (bJ (bj (ac cv (aa 6) (aC (.int 3))))
  (aS 5 (aD (ay eV (af (aa 5) (af (aa 8) (af (ac aX (ac b8 (aa 8) (ac au (aa 1) (aC (.int 1)))) (aD (ay cF (bY 0 (af (ac b8 (bi cN (ae (aa 5) ap)) (aa 8)) av))))) av))))))
  bI)
 (am (bJ (bj (ac cv (aa 6) (aC (.int 4))))
  (aS 5 (aD (ay eV (af (aa 5) (af (aa 8) (af (ac b8 (ac b8 (aD (ay cF (bY 0 (af (ac aX (bi cN (ae (aa 5) ap)) (aC (.int 2))) av)))) (ac au (aa 1) (aC (.int 1)))) (aC (.int 1))) av))))))
  bI)
 (bb (bS (ae (aa 3) (ae (aa 4) (ae (aa 5) ap))))))))))))))
theorem ZpR (T:Txt K mg):ACal (bu (K,cn)) P w K mg base "_law_other" 3 ["_law_pen_here","_law_shop","_law_paper"] pe:=bD T.Zpe fF rfl λf cdv A outer sh H E hr=>by
 exact (ao (fR (eE (ab (pv 2)) (cT rfl (bh (aR (aQ (i:=3) fF.nd)) (bh (aR (aQ (i:=4) fF.nd)) (bh (aR (aQ (i:=5) fF.nd)) cS))) (bg (bg (bg cR))))))
 (ao (aT (aN (i:=6) fF.nd (aH (aA (cK T) hr (ci (pv 0) (ag ai aB))))))
 (ao (aT (aN (i:=7) fF.nd (bX (ah (ak cu cr (aH (aA (cK T) hr (ci (pv 0) (ag ai aB)))) ai) (ah (ak bw bv ai (aH (aA (cK T) hr (ci (pv 0) (ag ai aB))))) aq)))))
 (ao (aT (aN (i:=8) fF.nd (aH (aA (cK T) hr (ci (pv 0) (ag (br (t:=aY) (bc c6 rfl T.cY boot_len (ah (ab (pv 4)) aq)) dA) aB))))))
 (ao (bP (bH (db hr) c8 (ab (pv 6)) ai (nomark _))
  (az (aT (aN (i:=3) fF.nd (aH (aA (uY T) hr (ag (ab (pv 3)) (ag (ab (pv 7)) aB)))))))
  bO)
 (ao (bP (bH (db hr) c8 (ab (pv 6)) ai (nomark _))
  (az (aT (aN (i:=4) fF.nd (br (t:=aY) (dP nj rfl T.ft boot_tuple (ah (cH (fU (fI qX ["_law_worth"] [7] rfl (eP (ab (pv 4))) (λb=>(aR (aQ (i:=0) (show ((bN qX ["_law_worth"] [7])).Nodup by trivial)))) (λb=>(aH (aA (uY T) hr (ag (ab (pv 0)) (ag (ab (pv 1)) aB))))) rfl (show BlkOk qX (aO sD) _ [7] by trivial)) (cW (by decide)))) aq)) lH))))
  bO)
 (ao (bP (bH (db hr) c8 (ab (pv 6)) ai (nomark _))
  (az (aT (aN (i:=4) fF.nd (aH (aA (jl T) hr (ag (ab (pv 4)) (ag (ab (pv 8)) (ag (aH (aA (uY T) hr (ag (aG aF aE (ab (pv 4)) (ab (pv 8))) (ag (ab (pv 7)) aB)))) aB))))))))
  bO)
 (ao (bP (bH (db hr) c8 (ab (pv 6)) ai (nomark _))
  (az (aT (aN (i:=5) fF.nd (aH (aA (jl T) hr (ag (ab (pv 5)) (ag (ab (pv 8)) (ag (ak bw bv (ak cu cr (ab (pv 8)) (aG aF aE (ab (pv 1)) ai)) (aH (aA (cK T) hr (ci (pv 0) (ag (ak cu cr (br (t:=aY) (bc c6 rfl T.cY boot_len (ah (ab (pv 5)) aq)) dA) (ab (pv 8))) aB))))) aB))))))))
  bO)
 (ao (bP (bH (db hr) c8 (ab (pv 6)) ai (nomark _))
  (az (aT (aN (i:=5) fF.nd (aH (aA (jl T) hr (ag (ab (pv 5)) (ag (ab (pv 8)) (ag (ak cu cr (ak cu cr (aH (aA (cK T) hr (ci (pv 0) (ag (ak bw bv (br (t:=aY) (bc c6 rfl T.cY boot_len (ah (ab (pv 5)) aq)) dA) ai) aB)))) (aG aF aE (ab (pv 1)) ai)) ai) aB))))))))
  bO)
 (az (bd (bX (ah (ab (pv 3)) (ah (ab (pv 4)) (ah (ab (pv 5)) aq)))))))))))))))
def mH:zW:=bm 2 3
 (am (fe (bA (aJ (aj 2) (aJ (aj 3) bx))) (aa 1))
 (am (aS 4 (b6 (df (ae (bS (ae (ac bo (aC (.int 2)) (aa 2)) (ae (ac bo (aC (.int 2)) (aa 3)) ap))) (ae (bS (ae (ac b8 (aC (.int 0)) (aa 2)) (ae (ac b8 (aC (.int 0)) (aa 3)) ap))) (ae (b6 (df (ae (aa 2) (ae (aa 3) ap)))) (ae (bS (ae (aa 2) ap)) (ae (bS (ae (aa 2) (ae (aa 3) (ae (aC (.int 1)) ap)))) (ae (bS (ae (bi jA (ae (aa 2) ap)) (ae (aa 3) ap))) ap)))))))))
 (am (aS 4 (ac aX (aa 4) (b6 (df (ae (bS (ae (ac cv (aa 2) (aC (.int 1))) (ae (aa 3) ap))) (ae (bS (ae (aa 2) (ae (ac cv (aa 3) (aC (.int 1))) ap))) (ae (bS (ae (aa 2) (ae (aC (.int 0)) ap))) (ae (aC .none) (ae (aC (.bool true)) (ae (aC (.int 0)) (ae (aC (.str "0/1")) (ae (bS ap) (ae (aC (.dict [])) (ae (bS (ae (aa 1) ap)) (ae (bS (ae (aa 3) (ae (aC .none) ap))) ap)))))))))))))))
 (bb (ac au (aa 4) (aD (ay cF (bY 0 (af (bi cN (ae (aa 4) ap)) av)))))))))
theorem Zid (T:Txt K mg):ACal (bu (K,cn)) P w K mg base "_law_odd" 3 ["_law_pen_here","_law_one"] mH:=bD T.Zpg lZ rfl λf cdv A outer sh H E hr=>by
 exact (ao (fR (eE (ab (pv 1)) (cT rfl (bh (aR (aQ (i:=2) lZ.nd)) (bh (aR (aQ (i:=3) lZ.nd)) cS)) (bg (bg cR)))))
 (ao (aT (aN (i:=4) lZ.nd (by refine cH ?_; refine dE ?_; refine bQ ?_ ?_; exact (bX (ah (ak bC bB ai (ab (pv 2))) (ah (ak bC bB ai (ab (pv 3))) aq))); refine bQ ?_ ?_; exact (bX (ah (ak cu cr ai (ab (pv 2))) (ah (ak cu cr ai (ab (pv 3))) aq))); refine bQ ?_ ?_; exact (cH (dE (ah (ab (pv 2)) (ah (ab (pv 3)) aq)))); refine bQ ?_ ?_; exact (bX (ah (ab (pv 2)) aq)); refine bQ ?_ ?_; exact (bX (ah (ab (pv 2)) (ah (ab (pv 3)) (ah ai aq)))); refine bQ ?_ ?_; exact (bX (ah (br (t:=aY) (dP Zh7 rfl T.Zc5 boot_str (ah (ab (pv 2)) aq)) Zak) (ah (ab (pv 3)) aq))); exact aq)))
 (ao (aT (aN (i:=4) lZ.nd (ak bw bv (ab (pv 4)) (by refine cH ?_; refine dE ?_; refine bQ ?_ ?_; exact (bX (ah (iG (db hr) c8 (ab (pv 2)) ai (nomark _)) (ah (ab (pv 3)) aq))); refine bQ ?_ ?_; exact (bX (ah (ab (pv 2)) (ah (iG (db hr) c8 (ab (pv 3)) ai (nomark _)) aq))); refine bQ ?_ ?_; exact (bX (ah (ab (pv 2)) (ah ai aq))); refine bQ ?_ ?_; exact qy; refine bQ ?_ ?_; exact cL; refine bQ ?_ ?_; exact ai; refine bQ ?_ ?_; exact ZiF; refine bQ ?_ ?_; exact (bX aq); refine bQ ?_ ?_; exact vD; refine bQ ?_ ?_; exact (bX (ah (ab (pv 1)) aq)); refine bQ ?_ ?_; exact (bX (ah (ab (pv 3)) (ah qy aq))); exact aq))))
 (az (bd (aG aF aE (ab (pv 4)) (aH (aA (cK T) hr (ci (pv 0) (ag (br (t:=aY) (bc c6 rfl T.cY boot_len (ah (ab (pv 4)) aq)) dA) aB))))))))))
noncomputable def sZ:zS :=
 (aD (ay pj (af (aa 2) (af (aa 0) (af (aa 1) av)))))
def kS:zW:=bm 2 1
 (am (aS 2 (aD (ay gh (af (aa 0) av))))
 (am (bJ (dL (dq (dm (fc "tuple" (aa 1)))) (bj (ac cX (bi cN (ae (aa 1) ap)) (bi cN (ae (aa 2) ap)))))
  (bb (aC (.bool false)))
  bI)
 (bb (bi no (ae (b6 (dF (j9 (aa 2) (aa 1)) 2 [0] (bA (aJ (aj 0) (aJ (aj 1) bx))) sZ)) ap)))))
theorem Zp1 (T:Txt K mg):ACal (bu (K,cn)) P w K mg base "is_levels" 4 ["shop","thing"] kS:=bD T.ZoT Zbo rfl λf cdv A outer sh H E hr=>by
 exact (ao (aT (aN (i:=2) Zbo.nd (aH (aA (jj T) hr (ag (ab (pv 0)) aB)))))
 (ao (bP (gt (eu (dJ (dI (fV (T:="tuple") (Or.inr (Or.inr (Or.inr (Or.inr (.inl rfl))))) rfl (bc fQ rfl T.fM boot_isinstance (bp (ab (pv 1)) (bp (fJ (v:=.ty "tuple") rfl T.ft boot_tuple rfl) cm)))))) (gq (bH (fr hr) fg (br (t:=aY) (bc c6 rfl T.cY boot_len (ah (ab (pv 1)) aq)) dA) (br (t:=aY) (bc c6 rfl T.cY boot_len (ah (ab (pv 2)) aq)) dA) (nomark _)))))
  (az (bd cL))
  bO)
 (az (bd (br (t:=aY) (bc (Zib rfl) rfl T.Zc8 boot_all (ah (cH (fU (fI nJ ["stock","level"] [0] rfl (nq (mn rfl rfl T.my (ab (pv 2)) (ab (pv 1)))) (λb=>(cT rfl (bh (aR (aQ (i:=0) (show ((bN nJ ["stock","level"] [0])).Nodup by trivial))) (bh (aR (aQ (i:=1) (show ((bN nJ ["stock","level"] [0])).Nodup by trivial))) cS)) (bg (bg cR)))) (λb=>(aH (aA (Zp2 T) hr (ag (ab (pv 2)) (ag (ab (pv 0)) (ag (ab (pv 1)) aB)))))) rfl (show BlkOk nJ (aO sA) _ [0] by trivial)) (kF (fH (cW (by decide)) (fH (cW (by decide)) kG))))) aq)) Zan)))))
noncomputable def ub:zV :=
 (jq 6 (ac aX (ac bo (aa 5) (aD (ay jP (af (aa 0) (af (aa 7) (af (aa 8) av)))))) (aD (ay jO (af (aa 0) (af (aa 1) (af (aa 8) (af (aa 3) (af (aa 4) av)))))))))
def pB:zW:=bm 5 4
 (am (aS 5 (ac bo (aa 4) (bi dG (ae (aa 1) ap))))
 (am (jn 6 (df ap))
 (am (dg (j9 (aD (ay gh (af (aa 0) av))) (aa 2)) (bA (aJ (aj 7) (aJ (aj 8) bx))) ub)
 (gR 6))))
theorem Zp7 (T:Txt K mg):ACal (bu (K,cn)) P w K mg base "costs_by" 4 ["shop","day","levels","ahead","scale"] pB:=bD T.Zo0 lX rfl λf cdv A outer sh H E hr=>by
 exact (ao (aT (aN (i:=5) lX.nd (ak bC bB (ab (pv 4)) (br (t:=aY) (bc (iE rfl) rfl T.ii boot_sum (ah (ab (pv 1)) aq)) gW))))
 (ao (li (aN (i:=6) lX.nd (dE aq)))
 (ao (dD wz rfl (nq (mn rfl rfl T.my (aH (aA (jj T) hr (ag (ab (pv 0)) aB))) (ab (pv 2)))) (cT rfl (bh (aR (aQ (i:=7) lX.nd)) (bh (aR (aQ (i:=8) lX.nd)) cS)) (bg (bg cR)))
  (az (nn (jH (mo xp xH xG mC (pv 6) (bp (ak bw bv (ak bC bB (ab (pv 5)) (aH (aA (uV T) hr (ag (ab (pv 0)) (ag (ab (pv 7)) (ag (ab (pv 8)) aB)))))) (aH (aA (qf T) hr (ag (ab (pv 0)) (ag (ab (pv 1)) (ag (ab (pv 8)) (ag (ab (pv 3)) (ag (ab (pv 4)) aB)))))))) cm))))))
 (az (qu (pv 6))))))
noncomputable def sT:zS :=
 (aD (ay jO (af (aa 1) (af (aa 2) (af (aa 0) (af (aa 3) (af (aa 4) av)))))))
noncomputable def kW:zV :=
 (bJ (bj (ac (c5 λi j=>decide (i < j)) (ac aX (ac bo (aa 5) (aD (ay jP (af (aa 0) (af (aa 7) (af (aa 9) av)))))) (ac au (aa 6) (ac aX (aa 9) (ac au (aa 0) (aC (.int 1)))))) (aa 8)))
  (bb (aC (.bool false)))
  bI)
noncomputable def kU:zV :=
 (dg (qE (ae (aa 7) (ae (ac aX (ac au (aa 0) (aC (.int 0))) (aC (.int 1))) ap))) (aj 9) kW)
def kP:zW:=bm 5 5
 (am (aS 5 (ac bo (aa 4) (bi dG (ae (aa 1) ap))))
 (am (aS 6 (b6 (dF (dU (aD (ay gh (af (aa 0) av)))) 1 [0,1,3,4] (aj 0) sT)))
 (am (dg (j9 (aD (ay gh (af (aa 0) av))) (aa 2)) (bA (aJ (aj 7) (aJ (aj 8) bx))) kU)
 (bb (aC (.bool true))))))
theorem ZpK (T:Txt K mg):ACal (bu (K,cn)) P w K mg base "none_less" 4 ["shop","day","costs","ahead","scale"] kP:=bD T.ZoI ku rfl λf cdv A outer sh H E hr=>by
 exact (ao (aT (aN (i:=5) ku.nd (ak bC bB (ab (pv 4)) (br (t:=aY) (bc (iE rfl) rfl T.ii boot_sum (ah (ab (pv 1)) aq)) gW))))
 (ao (vg (tj (i:=6) qT ["level"] [0,1,3,4] rfl ku.nd rfl rfl (eP (aH (aA (jj T) hr (ag (ab (pv 0)) aB)))) (λb=>(aR (aQ (i:=0) (show ((bN qT ["level"] [0,1,3,4])).Nodup by trivial)))) (λb=>(aH (aA (qf T) hr (ag (ab (pv 1)) (ag (ab (pv 2)) (ag (ab (pv 0)) (ag (ab (pv 3)) (ag (ab (pv 4)) aB)))))))) rfl (show BlkOk qT (aO sj) _ [0,1,3,4] by trivial) rfl) (cW (by decide)))
 (ao (dD wz rfl (nq (mn rfl rfl T.my (aH (aA (jj T) hr (ag (ab (pv 0)) aB))) (ab (pv 2)))) (cT rfl (bh (aR (aQ (i:=7) ku.nd)) (bh (aR (aQ (i:=8) ku.nd)) cS)) (bg (bg cR)))
  (az (dD wz rfl (ZiE (ZcI rfl T.fL (ah (ab (pv 7)) (ah (ak bw bv (aG aF aE (ab (pv 0)) (cU rfl T.j5)) ai) aq)))) (aR (aQ (i:=9) ku.nd))
  (az (bP (bH kJ dw (ak bw bv (ak bC bB (ab (pv 5)) (aH (aA (uV T) hr (ag (ab (pv 0)) (ag (ab (pv 7)) (ag (ab (pv 9)) aB)))))) (aG aF aE (ab (pv 6)) (ak bw bv (ab (pv 9)) (aG aF aE (ab (pv 0)) (cU rfl T.iA))))) (ab (pv 8)) (nomark _))
  (az (bd cL))
  bO)))))
 (az (bd cL)))))
noncomputable def sU:zS :=
 (ac aX (ac bo (ac bo (aa 5) (ac au (aa 1) (aC (.int 3)))) (aa 0)) (aD (ay jO (af (aa 1) (af (aa 2) (af (aa 0) (af (aa 3) (af (aa 4) av))))))))
def o7:zW:=bm 4 1
 (am (aS 4 (ac bo (aa 3) (bi dG (ae (aa 1) ap))))
 (vI (dF (dU (aD (ay gh (af (aa 0) av)))) 1 [0,1,2,3,4] (aj 0) sU)))
theorem ZpM (T:Txt K mg):ACal (bu (K,cn)) P w K mg base "level_sums" 4 ["shop","day","ahead","scale"] o7:=bD T.ZoL Zbn rfl λf cdv A outer sh H E hr=>by
 exact (ao (aT (aN (i:=4) Zbn.nd (ak bC bB (ab (pv 3)) (br (t:=aY) (bc (iE rfl) rfl T.ii boot_sum (ah (ab (pv 1)) aq)) gW))))
 (az (Zqo (fU (fI qU ["level"] [0,1,2,3,4] rfl (eP (aH (aA (jj T) hr (ag (ab (pv 0)) aB)))) (λb=>(aR (aQ (i:=0) (show ((bN qU ["level"] [0,1,2,3,4])).Nodup by trivial)))) (λb=>(ak bw bv (ak bC bB (ak bC bB (ab (pv 5)) (aG aF aE (ab (pv 1)) (cU rfl T.ur))) (ab (pv 0))) (aH (aA (qf T) hr (ag (ab (pv 1)) (ag (ab (pv 2)) (ag (ab (pv 0)) (ag (ab (pv 3)) (ag (ab (pv 4)) aB))))))))) rfl (show BlkOk qU (aO su) _ [0,1,2,3,4] by trivial)) (cW (by decide))))))
noncomputable def pL:zV :=
 (ka (λi j=>i - j) 4 (ac aX (aD (ay jQ (af (aa 0) (af (aa 3) (af (aa 5) av))))) (ac au (aa 0) (aC (.int 1)))) (aa 6))
def pz:zW:=bm 4 5
 (am (jn 4 (qK kC (b6 (df (ae (aC (.int 0)) ap))) (ac aX (ac aX (ac au (aa 0) (aC (.int 0))) (ac au (aa 0) (aC (.int 1)))) (aC (.int 1)))))
 (am (ka (λi j=>i+j) 4 (ac aX (aa 2) (ac au (aa 0) (aC (.int 1)))) (bi dG (ae (aa 1) ap)))
 (am (dg (lw (aa 1)) (bA (aJ (aj 5) (aJ (aj 6) bx))) pL)
 (am (lr 4 (aC (.int 0)) (bi dG (ae (aa 1) ap)))
 (am (aS 7 (ac bo (b6 (df (ae (aC (.int 0)) ap))) (lz cN (j8 4 av))))
 (am (aS 8 (ac aX (ac bo (bi dG (ae (aa 1) ap)) (aD (ay jP (af (aa 0) (af (aa 2) (af (aa 3) av)))))) (aD (ay jO (af (aa 0) (af (aa 1) (af (aa 3) (af (aa 7) (af (aC (.int 1)) av)))))))))
 (lu 4 (bb (ac aX (aa 4) (b6 (df (ae (aa 8) ap))))))))))))
theorem Zp5 (T:Txt K mg):ACal (bu (K,cn)) P w K mg base "equation" 4 ["shop","one","stock","level"] pz:=bD T.ZoY kw rfl λf cdv A outer sh H E hr=>by
 exact (ao (li (aN (i:=4) kw.nd (Zqs ZcV Zi0 (cH (dE (ah ai aq))) (ak bw bv (ak bw bv (aG aF aE (ab (pv 0)) (cU rfl T.j5)) (aG aF aE (ab (pv 0)) (cU rfl T.iA))) ai))))
 (ao (Ziy (ZcB (pv 4) (ak bw bv (ab (pv 2)) (aG aF aE (ab (pv 0)) (cU rfl T.iA))) Zd7 (br (t:=aY) (bc (iE rfl) rfl T.ii boot_sum (ah (ab (pv 1)) aq)) gW) Znt lS))
 (ao (dD wz rfl (qx (oE rfl rfl T.oU (ab (pv 1)))) (cT rfl (bh (aR (aQ (i:=5) kw.nd)) (bh (aR (aQ (i:=6) kw.nd)) cS)) (bg (bg cR)))
  (az (Ziy (ZcB (pv 4) (ak bw bv (aH (aA (uW T) hr (ag (ab (pv 0)) (ag (ab (pv 3)) (ag (ab (pv 5)) aB))))) (aG aF aE (ab (pv 0)) (cU rfl T.iA))) Zd7 (ab (pv 6)) Zns lS))))
 (ao (vh (eE (br (t:=aY) (bc (iE rfl) rfl T.ii boot_sum (ah (ab (pv 1)) aq)) gW) (tz (pv 4) ai lS)))
 (ao (aT (aN (i:=7) kw.nd (ak bC bB (cH (dE (ah ai aq))) (qz oC (bc c6 rfl T.cY boot_len (qC (pv 4) qB)) dA))))
 (ao (aT (aN (i:=8) kw.nd (ak bw bv (ak bC bB (br (t:=aY) (bc (iE rfl) rfl T.ii boot_sum (ah (ab (pv 1)) aq)) gW) (aH (aA (uV T) hr (ag (ab (pv 0)) (ag (ab (pv 2)) (ag (ab (pv 3)) aB)))))) (aH (aA (qf T) hr (ag (ab (pv 0)) (ag (ab (pv 1)) (ag (ab (pv 3)) (ag (ab (pv 7)) (ag ai aB))))))))))
 (az (qv (k:=4) (bd (ak bw bv (ab (pv 4)) (cH (dE (ah (ab (pv 8)) aq)))))))))))))
noncomputable def Zcz:zS :=
 (aD (ay pd (bY 1 av)))
def ph:zW:=bm 2 4
 (am (aS 2 (aD (ay cF (bY 0 (af (ac au (b6 (df (ae (aC (.int 8)) (ae (ac aX (aa 1) (aC (.int 1))) ap)))) (bi j4 (ae (ac (c5 λi j=>decide (i > j)) (aD (ay cF (bY 0 (af (aC (.int 8)) av)))) (aC (.int 0))) ap))) av)))))
 (am (aS 3 (aD (ay cF (bY 0 (af (ac aX (aa 2) (aC (.int 1))) av)))))
 (am (aS 4 (ac aX (bS (ae (ac b8 (aa 2) (aa 3)) (ae (aa 3) ap))) (bi gX (ae (b6 (dF (gQ (ae (aC (.int 7)) ap)) 1 [0] (aj 0) Zcz)) ap))))
 (am (aS 5 (ac aX (ac aX (aa 2) (aC (.int 1))) (aD (ay cF (bY 0 (af (ac b8 (aC (.int 8)) (aa 2)) av))))))
 (bb (bS (ae (aa 4) (ae (aD (ay o8 (bY 0 (af (aa 5) (af (ac aX (aa 2) (aD (ay cF (bY 0 (af (ac b8 (aa 5) (aa 2)) av))))) av))))) ap))))))))
theorem ZpX (T:Txt K mg):ACal (bu (K,cn)) P w K mg base "_law_case" 4 ["_law_pen_here","_law_few"] ph:=bD T.Zpo l3 rfl λf cdv A outer sh H E hr=>by
 exact (ao (aT (aN (i:=2) l3.nd (aH (aA (cK T) hr (ci (pv 0) (ag (aG aF aE (cH (dE (ah ai (ah (ak bw bv (ab (pv 1)) ai) aq)))) (br (t:=aY) (dP uU rfl T.mB boot_int (ah (iG ge dw (aH (aA (cK T) hr (ci (pv 0) (ag ai aB)))) ai (nomark _)) aq)) rm)) aB))))))
 (ao (aT (aN (i:=3) l3.nd (aH (aA (cK T) hr (ci (pv 0) (ag (ak bw bv (ab (pv 2)) ai) aB))))))
 (ao (aT (aN (i:=4) l3.nd (ak bw bv (bX (ah (ak cu cr (ab (pv 2)) (ab (pv 3))) (ah (ab (pv 3)) aq))) (br (t:=aY) (dP nj rfl T.ft boot_tuple (ah (cH (fU (fI qZ ["_law_k"] [0] rfl (jm (iV rfl T.fL (ah ai aq))) (λb=>(aR (aQ (i:=0) (show ((bN qZ ["_law_k"] [0])).Nodup by trivial)))) (λb=>(aH (aA (ZpQ T) hr (ci (pv 1) aB)))) rfl (show BlkOk qZ (aO sF) _ [0] by trivial)) (cW (by decide)))) aq)) lH))))
 (ao (aT (aN (i:=5) l3.nd (ak bw bv (ak bw bv (ab (pv 2)) ai) (aH (aA (cK T) hr (ci (pv 0) (ag (ak cu cr ai (ab (pv 2))) aB)))))))
 (az (bd (bX (ah (ab (pv 4)) (ah (aH (aA (ZpN T) hr (ci (pv 0) (ag (ab (pv 5)) (ag (ak bw bv (ab (pv 2)) (aH (aA (cK T) hr (ci (pv 0) (ag (ak cu cr (ab (pv 5)) (ab (pv 2))) aB))))) aB))))) aq)))))))))
noncomputable def pI:zV :=
 (aS 3 (ac bo (aa 3) (ac au (aa 4) (aC (.int 1)))))
noncomputable def ow:zS :=
 (ac bo (ac au (aa 0) (aC (.int 0))) (ac e9 (aa 1) (ac au (aa 0) (aC (.int 1)))))
noncomputable def pH:zV :=
 (am (aS 14 (ac au (aa 5) (ac aX (aD (ay pf (af (aa 0) (af (aa 10) (af (aa 12) av))))) (ac au (aa 0) (aC (.int 1))))))
 (aS 11 (ac aX (aa 11) (ac bo (aa 13) (ac aX (ac bo (aa 3) (aD (ay mI (af (aa 0) (af (aa 10) (af (aa 12) av)))))) (aa 14))))))
noncomputable def pG:zV :=
 (am (aS 11 (ac bo (ac bo (aa 7) (aa 3)) (aD (ay mG (af (aa 0) (af (ac b8 (aa 8) (ac au (aa 0) (aC (.int 1)))) (af (aa 10) av)))))))
 (am (dg (lw (aa 1)) (bA (aJ (aj 12) (aJ (aj 13) bx))) pH)
 (jq 9 (aa 11))))
noncomputable def jV:zV :=
 (am (jn 9 (df ap))
 (am (dg (qE (ae (ac b8 (aa 8) (ac au (aa 0) (aC (.int 1)))) (ae (ac aX (ac au (aa 0) (aC (.int 0))) (aC (.int 1))) ap))) (aj 10) pG)
 (am (aS 15 (ac bo (aa 7) (ac aX (aa 6) (ac au (aa 5) (aa 8)))))
 (bJ (dL (bj (ac cX (lz oX (j8 9 av)) (aa 15))) (bj (ac cX (iI 9 (ac aX (ac b8 (ac au (ac au (aa 2) (aC (.int 2))) (aa 8)) (aa 8)) (ac au (aa 0) (aC (.int 1))))) (aa 15))))
  (bb (aC (.bool false)))
  bI))))
def ip:zW:=bm 3 13
 (am (bJ (dq (dm (aD (ay eK (af (aa 0) (af (aa 2) av))))))
  (bb (aC (.bool false)))
  bI)
 (am (aS 3 (ac au (ac au (aa 2) (aC (.int 0))) (aC (.int 1))))
 (am (dg (dU (ac au (aa 2) (aC (.int 1)))) (aj 4) pI)
 (am (aS 5 (b6 (dF (dU (ac au (aa 2) (aC (.int 1)))) 1 [3] (aj 0) ow)))
 (am (aS 6 (ac bo (ac au (ac au (aa 2) (aC (.int 0))) (aC (.int 0))) (ac e9 (aa 3) (ac au (ac au (aa 2) (aC (.int 0))) (aC (.int 1))))))
 (am (aS 7 (bi dG (ae (aa 1) ap)))
 (am (dg (gQ (ae (bi cN (ae (aa 5) ap)) ap)) (aj 8) jV)
 (bb (aC (.bool true))))))))))
theorem ZpU (T:Txt K mg):ACal (bu (K,cn)) P w K mg base "_law_look" 4 ["_law_shop","_law_one","_law_thing"] ip:=bD T.Zpk dX rfl λf cdv A outer sh H E hr=>by
 exact (ao (bP (dJ (dI (aH (aA (ZpV T) hr (ag (ab (pv 0)) (ag (ab (pv 2)) aB))))))
 (az (bd cL))
 bO)
 (ao (aT (aN (i:=3) dX.nd (aG aF aE (aG aF aE (ab (pv 2)) ai) ai)))
 (ao (dD wz rfl (eP (aG aF aE (ab (pv 2)) ai)) (aR (aQ (i:=4) dX.nd))
  (az (aT (aN (i:=3) dX.nd (ak bC bB (ab (pv 3)) (aG aF aE (ab (pv 4)) ai))))))
 (ao (vg (tj (i:=5) qY ["_law_worth"] [3] rfl dX.nd rfl rfl (eP (aG aF aE (ab (pv 2)) ai)) (λb=>(aR (aQ (i:=0) (show ((bN qY ["_law_worth"] [3])).Nodup by trivial)))) (λb=>(ak bC bB (aG aF aE (ab (pv 0)) ai) (ak h8 gU (ab (pv 1)) (aG aF aE (ab (pv 0)) ai)))) rfl (show BlkOk qY (aO sE) _ [3] by trivial) rfl) (cW (by decide)))
 (ao (aT (aN (i:=6) dX.nd (ak bC bB (aG aF aE (aG aF aE (ab (pv 2)) ai) ai) (ak h8 gU (ab (pv 3)) (aG aF aE (aG aF aE (ab (pv 2)) ai) ai)))))
 (ao (aT (aN (i:=7) dX.nd (br (t:=aY) (bc (iE rfl) rfl T.ii boot_sum (ah (ab (pv 1)) aq)) gW)))
 (ao (dD wz rfl (jm (iV rfl T.fL (ah (br (t:=aY) (bc c6 rfl T.cY boot_len (ah (ab (pv 5)) aq)) dA) aq))) (aR (aQ (i:=8) dX.nd))
  (ao (li (aN (i:=9) dX.nd (dE aq)))
 (ao (dD wz rfl (ZiE (ZcI rfl T.fL (ah (ak cu cr (ab (pv 8)) (aG aF aE (ab (pv 0)) ai)) (ah (ak bw bv (aG aF aE (ab (pv 0)) ai) ai) aq)))) (aR (aQ (i:=10) dX.nd))
  (ao (aT (aN (i:=11) dX.nd (ak bC bB (ak bC bB (ab (pv 7)) (ab (pv 3))) (aH (aA (ZpS T) hr (ag (ab (pv 0)) (ag (ak cu cr (ab (pv 8)) (aG aF aE (ab (pv 0)) ai)) (ag (ab (pv 10)) aB))))))))
 (ao (dD wz rfl (qx (oE rfl rfl T.oU (ab (pv 1)))) (cT rfl (bh (aR (aQ (i:=12) dX.nd)) (bh (aR (aQ (i:=13) dX.nd)) cS)) (bg (bg cR)))
  (ao (aT (aN (i:=14) dX.nd (aG aF aE (ab (pv 5)) (ak bw bv (aH (aA (ZpT T) hr (ag (ab (pv 0)) (ag (ab (pv 10)) (ag (ab (pv 12)) aB))))) (aG aF aE (ab (pv 0)) ai)))))
 (az (aT (aN (i:=11) dX.nd (ak bw bv (ab (pv 11)) (ak bC bB (ab (pv 13)) (ak bw bv (ak bC bB (ab (pv 3)) (aH (aA (ZpW T) hr (ag (ab (pv 0)) (ag (ab (pv 10)) (ag (ab (pv 12)) aB)))))) (ab (pv 14))))))))))
 (az (nn (jH (mo xp xH xG mC (pv 9) (bp (ab (pv 11)) cm))))))))
 (ao (aT (aN (i:=15) dX.nd (ak bC bB (ab (pv 7)) (ak bw bv (ab (pv 6)) (aG aF aE (ab (pv 5)) (ab (pv 8)))))))
 (az (bP (gt (eu (bH (fr hr) fg (qz oC (bc (ZpE rfl) rfl T.tM boot_min (qC (pv 9) qB)) Zi4) (ab (pv 15)) (nomark _)) (gq (bH (fr hr) fg (nu (ak bw bv (ak cu cr (aG aF aE (aG aF aE (ab (pv 2)) ai) (ab (pv 8))) (ab (pv 8))) (aG aF aE (ab (pv 0)) ai)) (pv 9) (λ_ _=>rfl)) (ab (pv 15)) (nomark _)))))
  (az (bd cL))
  bO))))))
 (az (bd cL)))))))))
def o9:zW:=bm 2 9
 (am (fe (bA (aJ (aj 2) (aJ (aj 3) (aJ (aj 4) bx)))) (aa 1))
 (am (aS 5 (aD (ay cF (bY 0 (af (aC (.int 7)) av)))))
 (am (aS 6 (aD (ay cF (bY 0 (af (bi cN (ae (aa 3) ap)) av)))))
 (am (aS 7 (aD (ay cF (bY 0 (af (bi cN (ae (aa 3) ap)) av)))))
 (am (aS 8 (ac aX (aC (.int 1)) (aD (ay cF (bY 0 (af (aC (.int 2)) av))))))
 (am (aS 9 (ac au (aa 1) (aa 8)))
 (am (bJ (bj (ac cv (aa 5) (aC (.int 0))))
  (bb (bS (ae (aD (ay mH (bY 0 (af (aa 2) av)))) (ae (aa 3) (ae (aa 4) ap)))))
  bI)
 (am (bJ (bj (ac cv (aa 5) (aC (.int 1))))
  (bb (bS (ae (aa 2) (ae (aD (ay eV (af (aa 3) (af (aa 6) (af (aD (ay mH (bY 0 (af (ac au (aa 3) (aa 6)) av)))) av))))) (ae (aa 4) ap)))))
  bI)
 (am (bJ (bj (ac cv (aa 5) (aC (.int 2))))
  (am (aS 10 (b6 (df (ae (ac cv (ac au (aa 4) (aa 6)) (aC (.int 1))) (ae (bi jA (ae (ac au (aa 4) (aa 6)) ap)) (ae (aC .none) (ae (b6 (df (ae (ac au (aa 4) (aa 6)) ap))) (ae (bS (ae (ac au (aa 4) (aa 6)) (ae (aC (.int 1)) ap))) (ae (aC (.bool true)) (ae (ac mj (aC (.int 10)) (aC (.int 29))) (ae (aC (.dict [])) ap)))))))))))
 (bb (bS (ae (aa 2) (ae (aa 3) (ae (aD (ay eV (af (aa 4) (af (aa 6) (af (ac au (aa 10) (aD (ay cF (bY 0 (af (aC (.int 8)) av))))) av))))) ap))))))
  bI)
 (am (bJ (bj (ac cv (aa 5) (aC (.int 6))))
  (am (aS 10 (b6 (df (ae (b6 (ly ir (ae (aa 1) ap))) (ae (fw (aa 1) fW (eQ (aC (.int 2)))) (ae (ac aX (aa 1) (fw (aa 1) (eQ (aC (.int 2))) fW)) (ae (bS (ae (aa 1) ap)) (ae (aC .none) (ae (aC (.dict [])) (ae (aC (.bool true)) (ae (aC (.str "")) (ae (bS ap) (ae (bS (ae (aa 3) (ae (aa 2) (ae (aa 4) ap)))) ap)))))))))))))
 (bb (ac au (aa 10) (aD (ay cF (bY 0 (af (aC (.int 10)) av)))))))
  bI)
 (am (bJ (bj (ac cv (aa 5) (aC (.int 3))))
  (aS 9 (ac gP (fw (aa 9) fW (eQ (aa 6))) (fw (aa 9) (eQ (ac aX (aa 6) (aC (.int 1)))) fW)))
  bI)
 (am (bJ (bj (ac cv (aa 5) (aC (.int 4))))
  (aS 9 (ac gP (ac gP (fw (aa 9) fW (eQ (aa 6))) (fw (aa 9) (eQ (aa 6)) (eQ (ac aX (aa 6) (aC (.int 1)))))) (fw (aa 9) (eQ (aa 6)) fW)))
  bI)
 (am (bJ (bj (ac cv (aa 5) (aC (.int 5))))
  (aS 9 (aD (ay eV (af (aD (ay eV (af (aa 9) (af (aa 6) (af (ac au (aa 9) (aa 7)) av))))) (af (aa 7) (af (ac au (aa 9) (aa 6)) av))))))
  bI)
 (am (bJ (bj (ac cv (aD (ay cF (bY 0 (af (aC (.int 4)) av)))) (aC (.int 0))))
  (aS 9 (b6 (ly ir (ae (aa 9) ap))))
  bI)
 (jp (ay eV (af (aa 1) (af (aa 8) (af (aa 9) av)))))))))))))))))))
theorem ZpO (T:Txt K mg):ACal (bu (K,cn)) P w K mg base "_law_unlike" 4 ["_law_pen_here","_law_paper"] o9:=bD T.Zo8 eD rfl λf cdv A outer sh H E hr=>by
 exact (ao (fR (eE (ab (pv 1)) (cT rfl (bh (aR (aQ (i:=2) eD.nd)) (bh (aR (aQ (i:=3) eD.nd)) (bh (aR (aQ (i:=4) eD.nd)) cS))) (bg (bg (bg cR))))))
 (ao (aT (aN (i:=5) eD.nd (aH (aA (cK T) hr (ci (pv 0) (ag ai aB))))))
 (ao (aT (aN (i:=6) eD.nd (aH (aA (cK T) hr (ci (pv 0) (ag (br (t:=aY) (bc c6 rfl T.cY boot_len (ah (ab (pv 3)) aq)) dA) aB))))))
 (ao (aT (aN (i:=7) eD.nd (aH (aA (cK T) hr (ci (pv 0) (ag (br (t:=aY) (bc c6 rfl T.cY boot_len (ah (ab (pv 3)) aq)) dA) aB))))))
 (ao (aT (aN (i:=8) eD.nd (ak bw bv ai (aH (aA (cK T) hr (ci (pv 0) (ag ai aB)))))))
 (ao (aT (aN (i:=9) eD.nd (aG aF aE (ab (pv 1)) (ab (pv 8)))))
 (ao (bP (bH (db hr) c8 (ab (pv 5)) ai (nomark _))
  (az (bd (bX (ah (aH (aA (Zid T) hr (ci (pv 0) (ag (ab (pv 2)) aB)))) (ah (ab (pv 3)) (ah (ab (pv 4)) aq))))))
  bO)
 (ao (bP (bH (db hr) c8 (ab (pv 5)) ai (nomark _))
  (az (bd (bX (ah (ab (pv 2)) (ah (aH (aA (jl T) hr (ag (ab (pv 3)) (ag (ab (pv 6)) (ag (aH (aA (Zid T) hr (ci (pv 0) (ag (aG aF aE (ab (pv 3)) (ab (pv 6))) aB)))) aB))))) (ah (ab (pv 4)) aq))))))
  bO)
 (ao (bP (bH (db hr) c8 (ab (pv 5)) ai (nomark _))
  (ao (aT (aN (i:=10) eD.nd (by refine cH ?_; refine dE ?_; refine bQ ?_ ?_; exact (iG (db hr) c8 (aG aF aE (ab (pv 4)) (ab (pv 6))) ai (nomark _)); refine bQ ?_ ?_; exact (br (t:=aY) (dP Zh7 rfl T.Zc5 boot_str (ah (aG aF aE (ab (pv 4)) (ab (pv 6))) aq)) Zak); refine bQ ?_ ?_; exact qy; refine bQ ?_ ?_; exact (cH (dE (ah (aG aF aE (ab (pv 4)) (ab (pv 6))) aq))); refine bQ ?_ ?_; exact (bX (ah (aG aF aE (ab (pv 4)) (ab (pv 6))) (ah ai aq))); refine bQ ?_ ?_; exact cL; refine bQ ?_ ?_; exact (ak oK Zaj ai ai); refine bQ ?_ ?_; exact vD; exact aq)))
 (az (bd (bX (ah (ab (pv 2)) (ah (ab (pv 3)) (ah (aH (aA (jl T) hr (ag (ab (pv 4)) (ag (ab (pv 6)) (ag (aG aF aE (ab (pv 10)) (aH (aA (cK T) hr (ci (pv 0) (ag ai aB))))) aB))))) aq)))))))
  bO)
 (ao (bP (bH (db hr) c8 (ab (pv 5)) ai (nomark _))
  (ao (aT (aN (i:=10) eD.nd (by refine cH ?_; refine dE ?_; refine bQ ?_ ?_; exact (cH (vn (t:=aY) (dP qd rfl T.oT boot_list (ah (ab (pv 1)) aq)) rl)); refine bQ ?_ ?_; exact (gv (ab (pv 1)) gO (fS ai)); refine bQ ?_ ?_; exact (ak bw bv (ab (pv 1)) (gv (ab (pv 1)) (fS ai) gO)); refine bQ ?_ ?_; exact (bX (ah (ab (pv 1)) aq)); refine bQ ?_ ?_; exact qy; refine bQ ?_ ?_; exact vD; refine bQ ?_ ?_; exact cL; refine bQ ?_ ?_; exact ZiF; refine bQ ?_ ?_; exact (bX aq); refine bQ ?_ ?_; exact (bX (ah (ab (pv 3)) (ah (ab (pv 2)) (ah (ab (pv 4)) aq)))); exact aq)))
 (az (bd (aG aF aE (ab (pv 10)) (aH (aA (cK T) hr (ci (pv 0) (ag ai aB))))))))
  bO)
 (ao (bP (bH (db hr) c8 (ab (pv 5)) ai (nomark _))
  (az (aT (aN (i:=9) eD.nd (ak mv lG (gv (ab (pv 9)) gO (fS (ab (pv 6)))) (gv (ab (pv 9)) (fS (ak bw bv (ab (pv 6)) ai)) gO)))))
  bO)
 (ao (bP (bH (db hr) c8 (ab (pv 5)) ai (nomark _))
  (az (aT (aN (i:=9) eD.nd (ak mv lG (ak mv lG (gv (ab (pv 9)) gO (fS (ab (pv 6)))) (gv (ab (pv 9)) (fS (ab (pv 6))) (fS (ak bw bv (ab (pv 6)) ai)))) (gv (ab (pv 9)) (fS (ab (pv 6))) gO)))))
  bO)
 (ao (bP (bH (db hr) c8 (ab (pv 5)) ai (nomark _))
  (az (aT (aN (i:=9) eD.nd (aH (aA (jl T) hr (ag (aH (aA (jl T) hr (ag (ab (pv 9)) (ag (ab (pv 6)) (ag (aG aF aE (ab (pv 9)) (ab (pv 7))) aB))))) (ag (ab (pv 7)) (ag (aG aF aE (ab (pv 9)) (ab (pv 6))) aB))))))))
  bO)
 (ao (bP (bH (db hr) c8 (aH (aA (cK T) hr (ci (pv 0) (ag ai aB)))) ai (nomark _))
  (az (aT (aN (i:=9) eD.nd (cH (vn (t:=aY) (dP qd rfl T.oT boot_list (ah (ab (pv 9)) aq)) rl)))))
  bO)
 (az (lj (aA (jl T) hr (ag (ab (pv 1)) (ag (ab (pv 8)) (ag (ab (pv 9)) aB))))))))))))))))))))
noncomputable def mf:zS :=
 (aD (ay pz (af (aa 2) (af (aa 3) (af (aa 0) (af (aa 1) av))))))
def mF:zW:=bm 3 2
 (am (fe (bA (aJ (aj 3) (aJ (aj 4) bx))) (aD (vL o4 (dF (j9 (aD (ay gh (af (aa 0) av))) (aa 2)) 2 [0,1] (bA (aJ (aj 0) (aJ (aj 1) bx))) mf))))
 (bb (bS (ae (ac au (aa 3) (aC (.int 0))) (ae (ac aX (b6 (df (ae (aC (.int 0)) ap))) (fw (aa 3) (eQ (aC (.int 1))) fW)) (ae (aa 4) ap))))))
theorem ZpL (T:Txt K mg):ACal (bu (K,cn)) P w K mg base "mean_and_worths" 5 ["shop","one","levels"] mF:=bD T.ZoK rW rfl λf cdv A outer sh H E hr=>by
 exact (ao (fR (eE (aH (Zqq (ZpH T) (hr.mono (by decide)) rfl (fU (fI nI ["stock","level"] [0,1] rfl (nq (mn rfl rfl T.my (aH (aA (jj T) hr (ag (ab (pv 0)) aB))) (ab (pv 2)))) (λb=>(cT rfl (bh (aR (aQ (i:=0) (show ((bN nI ["stock","level"] [0,1])).Nodup by trivial))) (bh (aR (aQ (i:=1) (show ((bN nI ["stock","level"] [0,1])).Nodup by trivial))) cS)) (bg (bg cR)))) (λb=>(aH (aA (Zp5 T) hr (ag (ab (pv 2)) (ag (ab (pv 3)) (ag (ab (pv 0)) (ag (ab (pv 1)) aB))))))) rfl (show BlkOk nI (aO sk) _ [0,1] by trivial)) (kF (fH (cW (by decide)) (fH (cW (by decide)) kG)))))) (cT rfl (bh (aR (aQ (i:=3) rW.nd)) (bh (aR (aQ (i:=4) rW.nd)) cS)) (bg (bg cR)))))
 (az (bd (bX (ah (aG aF aE (ab (pv 3)) ai) (ah (ak bw bv (cH (dE (ah ai aq))) (gv (ab (pv 3)) (fS ai) gO)) (ah (ab (pv 4)) aq)))))))
def iq:zW:=bm 2 3
 (am (bJ (dL (dq (dm (fc "tuple" (aa 1)))) (bj (ac cX (bi cN (ae (aa 1) ap)) (aC (.int 3)))))
  (bb (aC (.bool false)))
  bI)
 (am (fe (bA (aJ (aj 2) (aJ (aj 3) (aJ (aj 4) bx)))) (aa 1))
 (bb (jr (aD (ay gF (af (aa 2) av))) (jr (aD (ay kQ (af (aa 0) (af (aa 3) av)))) (aD (ay kS (af (aa 0) (af (aa 4) av)))))))))
theorem Zp3 (T:Txt K mg):ACal (bu (K,cn)) P w K mg base "is_lasting_paper" 5 ["shop","thing"] iq:=bD T.ZoV oh rfl λf cdv A outer sh H E hr=>by
 exact (ao (bP (gt (eu (dJ (dI (fV (T:="tuple") (Or.inr (Or.inr (Or.inr (Or.inr (.inl rfl))))) rfl (bc fQ rfl T.fM boot_isinstance (bp (ab (pv 1)) (bp (fJ (v:=.ty "tuple") rfl T.ft boot_tuple rfl) cm)))))) (gq (bH (fr hr) fg (br (t:=aY) (bc c6 rfl T.cY boot_len (ah (ab (pv 1)) aq)) dA) ai (nomark _)))))
 (az (bd cL))
 bO)
 (ao (fR (eE (ab (pv 1)) (cT rfl (bh (aR (aQ (i:=2) oh.nd)) (bh (aR (aQ (i:=3) oh.nd)) (bh (aR (aQ (i:=4) oh.nd)) cS))) (bg (bg (bg cR))))))
 (az (bd (lq (aH (aA (Zif T) hr (ag (ab (pv 2)) aB))) (lq (aH (aA (ZpZ T) hr (ag (ab (pv 0)) (ag (ab (pv 3)) aB)))) (nr (aH (aA (Zp1 T) hr (ag (ab (pv 0)) (ag (ab (pv 4)) aB)))))))))))
noncomputable def tf:zS :=
 (aa 1)
noncomputable def rh:zU :=
 (bj (aC (.bool true)))
noncomputable def mR:zV :=
 (am (fe (bA (aJ (aj 3) (aJ (aj 4) (aJ (aj 5) bx)))) (aD (ay mF (af (aa 0) (af (aa 1) (af (aa 2) av))))))
 (am (aS 6 (aD (ay mL (af (aa 0) (af (aD (ay o7 (af (aa 0) (af (aa 1) (af (aa 4) (af (aa 5) av)))))) (af (ac bo (aa 5) (bi dG (ae (aa 1) ap))) av))))))
 (am (aS 7 (b6 (dF (dU (aa 6)) 2 [] (bA (aJ (aj 0) (aJ (aj 1) bx))) tf)))
 (am (bJ (bj (ac cv (aa 7) (aa 2)))
  (bb (bS (ae (aa 3) (ae (aa 4) (ae (aa 5) (ae (aa 2) ap))))))
  bI)
 (aS 2 (aa 7))))))
def pD:zW:=bm 2 6
 (am (aS 2 (b6 (ly ir (ae (aD (ay gh (af (aa 0) av))) ap))))
 (c7 rh mR 100000))
theorem Zqa (T:Txt K mg):ACal (bu (K,cn)) P w K mg base "best_of_all" 6 ["shop","one"] pD:=bD T.Zo4 iR rfl λf cdv A outer sh H E hr=>by
 exact (ao (aT (aN (i:=2) iR.nd (cH (vn (t:=aY) (dP qd rfl T.oT boot_list (ah (aH (aA (jj T) hr (ag (ab (pv 0)) aB))) aq)) rl))))
 (az (qt 100000 wz (Zqh cL)
  (ao (fR (eE (aH (aA (ZpL T) hr (ag (ab (pv 0)) (ag (ab (pv 1)) (ag (ab (pv 2)) aB))))) (cT rfl (bh (aR (aQ (i:=3) iR.nd)) (bh (aR (aQ (i:=4) iR.nd)) (bh (aR (aQ (i:=5) iR.nd)) cS))) (bg (bg (bg cR))))))
 (ao (aT (aN (i:=6) iR.nd (aH (aA (Zp9 T) hr (ag (ab (pv 0)) (ag (aH (aA (ZpM T) hr (ag (ab (pv 0)) (ag (ab (pv 1)) (ag (ab (pv 4)) (ag (ab (pv 5)) aB)))))) (ag (ak bC bB (ab (pv 5)) (br (t:=aY) (bc (iE rfl) rfl T.ii boot_sum (ah (ab (pv 1)) aq)) gW)) aB)))))))
 (ao (vg (tj (i:=7) nL ["cost","level"] [] rfl iR.nd rfl rfl (eP (ab (pv 6))) (λb=>(cT rfl (bh (aR (aQ (i:=0) (show ((bN nL ["cost","level"] [])).Nodup by trivial))) (bh (aR (aQ (i:=1) (show ((bN nL ["cost","level"] [])).Nodup by trivial))) cS)) (bg (bg cR)))) (λb=>(ab (pv 1))) rfl (show BlkOk nL (aO sC) _ [] by trivial) rfl) (kF (fH (cW (by decide)) (fH (cW (by decide)) kG))))
 (ao (bP (bH (db hr) c8 (ab (pv 7)) (ab (pv 2)) (nomark _))
  (az (bd (bX (ah (ab (pv 3)) (ah (ab (pv 4)) (ah (ab (pv 5)) (ah (ab (pv 2)) aq)))))))
  bO)
 (az (aT (aN (i:=2) iR.nd (ab (pv 7))))))))))))
noncomputable def sW:zS :=
 (aD (ay i7 (af (aa 0) (af (ac bo (aa 1) (bi dG (ae (aa 2) ap))) av))))
noncomputable def sV:zS :=
 (aD (ay o5 (af (aa 1) (af (aa 0) av))))
def gi:zW:=bm 3 6
 (am (qI (aD (ay jS (af (aa 0) (af (aa 1) av)))))
 (am (bJ (dq (dm (aD (ay iq (af (aa 0) (af (aa 2) av))))))
  (bb (aC (.bool false)))
  bI)
 (am (fe (bA (aJ (aj 3) (aJ (aj 4) (aJ (aj 5) bx)))) (aa 2))
 (am (fe (bA (aJ (aj 6) (aJ (aj 7) bx))) (aD (ay o6 (af (aa 4) av))))
 (am (aS 8 (aD (ay pB (af (aa 0) (af (aa 1) (af (aa 5) (af (aa 6) (af (aa 7) av))))))))
 (am (bJ (bj (ac cX (b6 (dF (dU (aa 8)) 1 [7,1] (aj 0) sW)) (b6 (dF (dU (aa 4)) 1 [3] (aj 0) sV))))
  (bb (aC (.bool false)))
  bI)
 (jp (ay kP (af (aa 0) (af (aa 1) (af (aa 8) (af (aa 6) (af (aa 7) av)))))))))))))
theorem Zic (T:Txt K mg):ACal (bu (K,cn)) P w K mg base "lets_lasting" 6 ["shop","one","thing"] gi:=bD T.ZoM jB rfl λf cdv A outer sh H E hr=>by
 exact (ao (Zix (aH (aA (Zig T) hr (ag (ab (pv 0)) (ag (ab (pv 1)) aB)))))
 (ao (bP (dJ (dI (aH (aA (Zp3 T) hr (ag (ab (pv 0)) (ag (ab (pv 2)) aB))))))
  (az (bd cL))
  bO)
 (ao (fR (eE (ab (pv 2)) (cT rfl (bh (aR (aQ (i:=3) jB.nd)) (bh (aR (aQ (i:=4) jB.nd)) (bh (aR (aQ (i:=5) jB.nd)) cS))) (bg (bg (bg cR))))))
 (ao (fR (eE (aH (aA (ZpJ T) hr (ag (ab (pv 4)) aB))) (cT rfl (bh (aR (aQ (i:=6) jB.nd)) (bh (aR (aQ (i:=7) jB.nd)) cS)) (bg (bg cR)))))
 (ao (aT (aN (i:=8) jB.nd (aH (aA (Zp7 T) hr (ag (ab (pv 0)) (ag (ab (pv 1)) (ag (ab (pv 5)) (ag (ab (pv 6)) (ag (ab (pv 7)) aB)))))))))
 (ao (bP (bH (fr hr) fg (cH (fU (fI kb ["cost"] [7,1] rfl (eP (ab (pv 8))) (λb=>(aR (aQ (i:=0) (show ((bN kb ["cost"] [7,1])).Nodup by trivial)))) (λb=>(aH (aA (qg T) hr (ag (ab (pv 0)) (ag (ak bC bB (ab (pv 1)) (br (t:=aY) (bc (iE rfl) rfl T.ii boot_sum (ah (ab (pv 2)) aq)) gW)) aB))))) rfl (show BlkOk kb (aO oo) _ [7,1] by trivial)) (cW (by decide)))) (cH (fU (fI kb ["worth"] [3] rfl (eP (ab (pv 4))) (λb=>(aR (aQ (i:=0) (show ((bN kb ["worth"] [3])).Nodup by trivial)))) (λb=>(aH (aA (ZpI T) hr (ag (ab (pv 1)) (ag (ab (pv 0)) aB))))) rfl (show BlkOk kb (aO oo) _ [3] by trivial)) (cW (by decide)))) (nomark _))
  (az (bd cL))
  bO)
 (az (lj (aA (ZpK T) hr (ag (ab (pv 0)) (ag (ab (pv 1)) (ag (ab (pv 8)) (ag (ab (pv 6)) (ag (ab (pv 7)) aB))))))))))))))
noncomputable def ox:zS :=
 (aD (ay i7 (af (aa 0) (af (aa 1) av))))
def mJ:zW:=bm 2 4
 (am (qI (aD (ay jS (af (aa 0) (af (aa 1) av)))))
 (am (fe (bA (aJ (aj 2) (aJ (aj 3) (aJ (aj 4) (aJ (aj 5) bx))))) (aD (ay pD (af (aa 0) (af (aa 1) av)))))
 (bb (bS (ae (aD (ay i7 (af (aa 2) (af (aa 4) av)))) (ae (bi gX (ae (b6 (dF (dU (aa 3)) 1 [4] (aj 0) ox)) ap)) (ae (bi gX (ae (aa 5) ap)) ap)))))))
theorem ZpY (T:Txt K mg):ACal (bu (K,cn)) P w K mg base "lasting" 7 ["shop","one"] mJ:=bD T.ZoO lW rfl λf cdv A outer sh H E hr=>by
 exact (ao (Zix (aH (aA (Zig T) hr (ag (ab (pv 0)) (ag (ab (pv 1)) aB)))))
 (ao (fR (eE (aH (aA (Zqa T) hr (ag (ab (pv 0)) (ag (ab (pv 1)) aB)))) (cT rfl (bh (aR (aQ (i:=2) lW.nd)) (bh (aR (aQ (i:=3) lW.nd)) (bh (aR (aQ (i:=4) lW.nd)) (bh (aR (aQ (i:=5) lW.nd)) cS)))) (bg (bg (bg (bg cR)))))))
 (az (bd (bX (ah (aH (aA (qg T) hr (ag (ab (pv 2)) (ag (ab (pv 4)) aB)))) (ah (br (t:=aY) (dP nj rfl T.ft boot_tuple (ah (cH (fU (fI qV ["worth"] [4] rfl (eP (ab (pv 3))) (λb=>(aR (aQ (i:=0) (show ((bN qV ["worth"] [4])).Nodup by trivial)))) (λb=>(aH (aA (qg T) hr (ag (ab (pv 0)) (ag (ab (pv 1)) aB))))) rfl (show BlkOk qV (aO sx) _ [4] by trivial)) (cW (by decide)))) aq)) lH) (ah (br (t:=aY) (dP nj rfl T.ft boot_tuple (ah (ab (pv 5)) aq)) lH) aq))))))))
noncomputable def ua:zV :=
 (am (aS 8 (aD (ay pe (bY 1 (af (aa 3) (af (aa 5) av))))))
 (am (bJ (bj (ac cv (ac ij (aa 7) (aC (.int 2))) (aC (.int 1))))
  (aS 8 (aD (ay o9 (bY 1 (af (aa 8) av)))))
  bI)
 (jq 6 (aa 8))))
noncomputable def pK:zV :=
 (am (aS 9 (bi l9 (ae (bS (ae (aa 3) (ae (aa 4) (ae (aa 8) ap)))) ap)))
 (am (aS 10 (aD (ay gi (af (aa 3) (af (aa 4) (af (aa 8) av))))))
 (am (bJ (dL (dq (dm (fc "bool" (aa 10)))) (bj (ac cX (aa 10) (aD (ay ip (af (aa 3) (af (aa 4) (af (aa 8) av))))))))
  (bb (aC (.bool false)))
  bI)
 (bJ (bj (ac cX (bi l9 (ae (bS (ae (aa 3) (ae (aa 4) (ae (aa 8) ap)))) ap)) (aa 9)))
  (bb (aC (.bool false)))
  bI))))
noncomputable def t9:zV :=
 (am (fe (bA (aJ (aj 3) (aJ (aj 4) bx))) (aD (ay ph (bY 1 (af (aC (.int 4)) av)))))
 (am (aS 5 (aD (ay mJ (af (aa 3) (af (aa 4) av)))))
 (am (jn 6 (df (ae (aa 5) ap)))
 (am (dg (gQ (ae (aC (.int 12)) ap)) (aj 7) ua)
 (am (lu 6 (dg (dU (ac aX (aa 6) (b6 (df (ae (aa 5) ap))))) (aj 8) pK))
 (bJ (bj (ac mT (aD (ay gi (af (aa 3) (af (aa 4) (af (aa 5) av))))) (aC (.bool true))))
  (bb (aC (.bool false)))
  bI))))))
noncomputable def pi:zV :=
 (am (dg (gQ (ae (aC (.int 2)) ap)) (aj 2) t9)
 (bb (aC (.bool true))))
noncomputable abbrev tY:Af:=.un::.pen::List.replicate 9 .un
theorem Zl9 (T:Txt K mg) {f:Addr} {fd:FuncData} (F:Fun K "law" "law" sv f fd) (hl:(pi tY).ok 0 λ_ o=>o=.ret (.d (.bool true))):FnOk P w K mg base iL 8 f fd ["_law_script"] (ZaS K):=by
 refine F.ok fk (λvs H Q E h=>?_) (λcdv A outer s H vs Q E hr h=>?_)
 ·obtain ⟨a,ns,rfl,_⟩:=h
  rfl
 ·obtain ⟨a,ns,rfl,hS,hlen,k⟩:=h
  have hu:=pP hr
  refine ⟨_,(eU (aN (i:=1) fk.nd (oG (Zl7 T) (hr.mono (by decide)) rfl (bp (pv 0) cm)))
 (Zli (t:=λcn=>bT (bu (K,cn)) pi) λcn=>(ao (dD wz rfl (jm (iV rfl T.fL (ah ai aq))) (aR (aQ (i:=2) fk.nd))
  (ao (fR (eE (aH (aA (ZpX T) hr (ci (pv 1) (ag ai aB)))) (cT rfl (bh (aR (aQ (i:=3) fk.nd)) (bh (aR (aQ (i:=4) fk.nd)) cS)) (bg (bg cR)))))
 (ao (aT (aN (i:=5) fk.nd (aH (aA (ZpY T) hr (ag (ab (pv 3)) (ag (ab (pv 4)) aB))))))
 (ao (li (aN (i:=6) fk.nd (dE (ah (ab (pv 5)) aq))))
 (ao (dD wz rfl (jm (iV rfl T.fL (ah ai aq))) (aR (aQ (i:=7) fk.nd))
  (ao (aT (aN (i:=8) fk.nd (aH (aA (ZpR T) hr (ci (pv 1) (ag (ab (pv 3)) (ag (ab (pv 5)) aB)))))))
 (ao (bP (bH (db hr) c8 (ak oN nU (ab (pv 7)) ai) ai (nomark _))
  (az (aT (aN (i:=8) fk.nd (aH (aA (ZpO T) hr (ci (pv 1) (ag (ab (pv 8)) aB)))))))
  bO)
 (az (nn (jH (mo xp xH xG mC (pv 6) (bp (ab (pv 8)) cm))))))))
 (ao (qv (k:=6) (dD wz rfl (eP (ak bw bv (ab (pv 6)) (cH (dE (ah (ab (pv 5)) aq))))) (aR (aQ (i:=8) fk.nd))
  (ao (aT (aN (i:=9) fk.nd (br (t:=aY) (bc (Zh8 hr) rfl T.Zc6 boot_repr (ah (bX (ah (ab (pv 3)) (ah (ab (pv 4)) (ah (ab (pv 8)) aq)))) aq)) Zal)))
 (ao (aT (aN (i:=10) fk.nd (aH (aA (Zic T) hr (ag (ab (pv 3)) (ag (ab (pv 4)) (ag (ab (pv 8)) aB)))))))
 (ao (bP (gt (eu (dJ (dI (fV (T:="bool") (Or.inr (.inl rfl)) rfl (bc fQ rfl T.fM boot_isinstance (bp (ab (pv 10)) (bp (fJ (v:=.ty "bool") rfl T.tN boot_bool rfl) cm)))))) (gq (bH (fr hr) fg (ab (pv 10)) (aH (aA (ZpU T) hr (ag (ab (pv 3)) (ag (ab (pv 4)) (ag (ab (pv 8)) aB))))) (nomark _)))))
  (az (bd cL))
  bO)
 (az (bP (bH (fr hr) fg (br (t:=aY) (bc (Zh8 hr) rfl T.Zc6 boot_repr (ah (bX (ah (ab (pv 3)) (ah (ab (pv 4)) (ah (ab (pv 8)) aq)))) aq)) Zal) (ab (pv 9)) (nomark _))
  (az (bd cL))
  bO)))))))
 (az (bP (bH Zl0 Zi1 (aH (aA (Zic T) hr (ag (ab (pv 3)) (ag (ab (pv 4)) (ag (ab (pv 5)) aB))))) cL (nomark _))
  (az (bd cL))
  bO))))))))
 (az (bd cL))))),?_⟩
  refine ⟨_,rfl,a,ns,rfl,hS,hlen,λp H' hp hP hs=>?_⟩
  exact Zm6 (n:=9) hP rfl rfl (λH'=>k H') hl
end
end My
set_option Elab.async false
set_option linter.all false
set_option maxRecDepth 100000
local macro_rules | `(tactic| simp_arith [$ls,*] $[$loc]?) => do let b : Lean.TSyntaxArray ``Lean.Parser.Tactic.simpLemma ← (("L2.Zez L2.Zey L2.Zhs L2.Zg2 L2.Zg1 L2.Zhk L2.uB L2.ld L2.ZeO L2.ZgN L2.ZgE L2.ZfK L2.ZgF L2.ZgD L2.ZfJ L2.Zgd L2.m7 L2.gl L2.qq L2.qp L2.qo L2.qm L2.ql L2.ve L2.vd L2.vc L2.u9 L2.ZfI L2.ZfH L2.ZeM L2.ZeF L2.ZeL L2.ZeK L2.ZeJ L2.ZeI L2.ZeG L2.ZeH L2.ZfA L2.ZfF L2.Zfy L2.Zfz L2.ZfE L2.Zhe L2.ZfD L2.Zhc L2.Zhd L2.ZfC L2.Zgs L2.Zgq L2.Zgr L2.ZgO L2.ZgT L2.ZgS L2.ZgR L2.ZgP L2.ZgQ L2.ZfG L2.ZgM L2.ZgL L2.ZgK L2.ZeE L2.ZeD L2.ZfR L2.ZfQ L2.ZfT L2.ZfS L2.cj L2.ZgX L2.ZgU L2.ZfX L2.ZfV L2.Zhl L2.ZfN L2.Zgg L2.Zgh L2.ZeC L2.ZeA L2.ZfP L2.ZfO L2.ZeN L2.pV L2.ZfM L2.Zhf L2.Zgf L2.Zge L2.ZeT L2.ZeS L2.ZeR L2.uy L2.ZeQ L2.Zfv L2.Zfu L2.Zft L2.ZeB L2.ux L2.Zho L2.Zhp L2.Zhr L2.Zhq L2.Zfq L2.Zfp L2.Zhn L2.Zhm L2.ZgY L2.Zfo L2.Zfn L2.ZgJ L2.ZgC L2.ZgB L2.Ze6 L2.Ze3 L2.Ze2 L2.Ze5 L2.Ze4 L2.ZeU L2.Zgl L2.Zgj L2.Zgk L2.Zfm L2.Zfl L2.Zfk L2.Zfj L2.Zfi L2.Zfh L2.Zfg L2.Zff L2.Zfe L2.Ze1 L2.Ze0 L2.ZeZ L2.ZeY L2.Zdq L2.Zdp L2.Zg6 L2.Zg5 L2.Zg4 L2.Zgt L2.Zfx L2.Zfw L2.Zhb L2.Zha L2.Zg9 L2.Zfd L2.Zfc L2.Zgu L2.Zel L2.Zem L2.Zek L2.Zej L2.Zen L2.Zg8 L2.Zg7 L2.ZfB L2.Zeb L2.Zd8 L2.Zed L2.Zeg L2.Zd9 L2.Zfs L2.Zfr L2.Zgc L2.Zgb L2.Zga L2.Zfa L2.Ze9 L2.Zex L2.Zew L2.Zev L2.Zeu L2.Zet L2.ZgG L2.ZgI L2.ZgH L2.Zgz L2.Zgy L2.pS L2.gM L2.fv L2.Zgw L2.Zgx L2.Zgv L2.Zf5 L2.Zf4 L2.Zf3 L2.Zdb L2.Zdc L2.Zde L2.Zdd L2.ZfY L2.ZfZ L2.ZfW L2.ZfU L2.Zf0 L2.Zf2 L2.Zf1 L2.Zgm L2.Zgo L2.Zgp L2.Zgn L2.ZgW L2.ZgV L2.ZgA L2.ZeX L2.ZeW L2.ZeV L2.Zhj L2.uC L2.Ze8 L2.Zfb L2.Ze7 L2.pX L2.Zf9 L2.Zf8 L2.Zf7 L2.Zf6 Tw.Za9 Tw.Za8 Tw.Za7 Tw.Za6 Tw.Za5 Tw.Za4 Tw.Za3 Tw.Za2 Tw.Za1 L2.Zg0 L2.ZgZ L2.ZfL L2.Zgi L2.rb2 L2.Tr.of_some L2.Tr.bind_assoc L2.Tr.draw_bind List.cons_append List.nil_append List.replicate_succ List.replicate_zero List.length_cons List.length_nil L2.Re.val_d L2.Re.val_own L2.blk L2.qk List.map_cons List.map_nil List.getElem?_cons_zero List.getElem?_cons_succ Option.getD_some Nat.reduceAdd Nat.reduceLeDiff List.isEmpty_cons".splitOn " ").toArray.map fun s => Lean.mkIdent s.toName).mapM fun i => `(Lean.Parser.Tactic.simpLemma| $i:ident); `(tactic| simp only [$b,*, $ls,*] $[$loc]?)
local macro_rules | `(tactic| simp_arith only [$ls,*] $[$loc]?) => do let b : Lean.TSyntaxArray ``Lean.Parser.Tactic.simpLemma ← (("L2.Zez L2.Zey L2.Zhs L2.Zg2 L2.Zg1 L2.Zhk L2.uB L2.ld L2.ZeO L2.ZgN L2.ZgE L2.ZfK L2.ZgF L2.ZgD L2.ZfJ L2.Zgd L2.m7 L2.gl L2.qq L2.qp L2.qo L2.qm L2.ql L2.ve L2.vd L2.vc L2.u9 L2.ZfI L2.ZfH L2.ZeM L2.ZeF L2.ZeL L2.ZeK L2.ZeJ L2.ZeI L2.ZeG L2.ZeH L2.ZfA L2.ZfF L2.Zfy L2.Zfz L2.ZfE L2.Zhe L2.ZfD L2.Zhc L2.Zhd L2.ZfC L2.Zgs L2.Zgq L2.Zgr L2.ZgO L2.ZgT L2.ZgS L2.ZgR L2.ZgP L2.ZgQ L2.ZfG L2.ZgM L2.ZgL L2.ZgK L2.ZeE L2.ZeD L2.ZfR L2.ZfQ L2.ZfT L2.ZfS L2.cj L2.ZgX L2.ZgU L2.ZfX L2.ZfV L2.Zhl L2.ZfN L2.Zgg L2.Zgh L2.ZeC L2.ZeA L2.ZfP L2.ZfO L2.ZeN L2.pV L2.ZfM L2.Zhf L2.Zgf L2.Zge L2.ZeT L2.ZeS L2.ZeR L2.uy L2.ZeQ L2.Zfv L2.Zfu L2.Zft L2.ZeB L2.ux L2.Zho L2.Zhp L2.Zhr L2.Zhq L2.Zfq L2.Zfp L2.Zhn L2.Zhm L2.ZgY L2.Zfo L2.Zfn L2.ZgJ L2.ZgC L2.ZgB L2.Ze6 L2.Ze3 L2.Ze2 L2.Ze5 L2.Ze4 L2.ZeU L2.Zgl L2.Zgj L2.Zgk L2.Zfm L2.Zfl L2.Zfk L2.Zfj L2.Zfi L2.Zfh L2.Zfg L2.Zff L2.Zfe L2.Ze1 L2.Ze0 L2.ZeZ L2.ZeY L2.Zdq L2.Zdp L2.Zg6 L2.Zg5 L2.Zg4 L2.Zgt L2.Zfx L2.Zfw L2.Zhb L2.Zha L2.Zg9 L2.Zfd L2.Zfc L2.Zgu L2.Zel L2.Zem L2.Zek L2.Zej L2.Zen L2.Zg8 L2.Zg7 L2.ZfB L2.Zeb L2.Zd8 L2.Zed L2.Zeg L2.Zd9 L2.Zfs L2.Zfr L2.Zgc L2.Zgb L2.Zga L2.Zfa L2.Ze9 L2.Zex L2.Zew L2.Zev L2.Zeu L2.Zet L2.ZgG L2.ZgI L2.ZgH L2.Zgz L2.Zgy L2.pS L2.gM L2.fv L2.Zgw L2.Zgx L2.Zgv L2.Zf5 L2.Zf4 L2.Zf3 L2.Zdb L2.Zdc L2.Zde L2.Zdd L2.ZfY L2.ZfZ L2.ZfW L2.ZfU L2.Zf0 L2.Zf2 L2.Zf1 L2.Zgm L2.Zgo L2.Zgp L2.Zgn L2.ZgW L2.ZgV L2.ZgA L2.ZeX L2.ZeW L2.ZeV L2.Zhj L2.uC L2.Ze8 L2.Zfb L2.Ze7 L2.pX L2.Zf9 L2.Zf8 L2.Zf7 L2.Zf6 Tw.Za9 Tw.Za8 Tw.Za7 Tw.Za6 Tw.Za5 Tw.Za4 Tw.Za3 Tw.Za2 Tw.Za1 L2.Zg0 L2.ZgZ L2.ZfL L2.Zgi L2.rb2 L2.Tr.of_some L2.Tr.bind_assoc L2.Tr.draw_bind List.cons_append List.nil_append List.replicate_succ List.replicate_zero List.length_cons List.length_nil L2.Re.val_d L2.Re.val_own L2.blk L2.qk List.map_cons List.map_nil List.getElem?_cons_zero List.getElem?_cons_succ Option.getD_some Nat.reduceAdd Nat.reduceLeDiff List.isEmpty_cons".splitOn " ").toArray.map fun s => Lean.mkIdent s.toName).mapM fun i => `(Lean.Parser.Tactic.simpLemma| $i:ident); `(tactic| simp -implicitDefEqProofs only [$b,*, $ls,*] $[$loc]?)
namespace My
open L2 Tw
theorem jh {s:Shp} (h:s.Ok):gh [.d s.d]=.ret (.d (.tuple (aL (-s.depth) (s.top+1)))):=by
 have:=h.t0
 have:=h.d0
 have:=h.td
 have hr:l7 (-s.depth) (s.top+1)=true:=by
  unfold l7
  rw [eZ (by omega) (by omega),eZ (by omega) (by omega)]
  simp
  omega
 simp_arith [gh,ux hr]
theorem uG (s:Shp) (y f:Int):jQ [.d s.d,.d (.int y),.d (.int f)]=.ret (.d (.int (s.nx y f))):=by
 simp_arith [jQ,Shp.nx]
theorem uF {s:Shp} (h:s.Ok) {x y:Int} (hx:nb 20 x) (hy:nb 20 y):jP [.d s.d,.d (.int x),.d (.int y)]=.ret (.d (.int (s.ord x y))):=by
 have f1:=aK h.piece (by decide)
 have f2:=aK (eJ hy hx) (by decide)
 by_cases hp:y<=x
 ·simp_arith [jP,decide_eq_true hp,Shp.ord,if_pos hp]
 ·simp_arith [jP,decide_eq_false hp,f1,f2,Shp.ord,if_neg hp]
theorem Zom {s:Shp} (h:s.Ok) {y f:Int} (hy:nb 20 y) (hf:nb 40 f):mK [.d s.d,.d (.int y),.d (.int f)]=.ret (.d (.int (s.day y f))):=by
 have hd:nb 7 s.depth:=by have:=h.t0; have:=h.d0; have:=h.td; exact bM (by show -128 < _; omega) (by show _ < 128; omega)
 have hn:nb 50 (s.nx y f):=by
  unfold Shp.nx cf
  exact mx (aP (kM hd) (by decide)) (aP (eJ hy hf) (by decide))
 have f1:=aK h.keep (by decide)
 have f2:=aK hn (by decide)
 have f3:=aK (kM hn) (by decide)
 have f4:=aK h.lack (by decide)
 have f5:=aK h.lost (by decide)
 have f6:=aK (eJ hn (eJ hy hf)) (by decide)
 have e:=uG s y f
 by_cases hp:s.nx y f > 0
 ·simp_arith [mK,e,decide_eq_true hp,f1,f2,f5,f6,Shp.day,if_pos hp]
 ·simp_arith [mK,e,decide_eq_false hp,f3,f4,f5,f6,Shp.day,if_neg hp]
end My
set_option Elab.async false
set_option linter.all false
set_option maxRecDepth 100000
namespace My
open L2 Tw
theorem Zm2 (l:Aa):(l.map PyData.int).length=l.length:=vZ ..
theorem pY {s:Shp} (h:s.Ok) {day:Aa} (hd:DayB day) {y:Int} (y1:-s.depth<=y) (y2:y<=s.top) {A:Int->Int} {b:Nat} (hA:Bd s b A) {sc:Int} (hs:nb b sc) (hb:b<=5000) :
  jO [.d s.d,.d (tI day),.d (.int y),.d (lI (s.row A)),.d (.int sc)]=.ret (.d (.int (s.wg day y A sc))):=by
 have:=h.t0
 have:=h.d0
 have:=h.td
 have hy:nb 20 y:=bM (by show -1048576 < _; omega) (by show _ < 1048576; omega)
 apply vq
 simp_arith [jO,tI,lI]
 refine fb (n:=0) (n':=0) (P:=λo=>∃ J1 J2 J3:Sl,o=.next [.d s.d,.d (.tuple (day.map PyData.int)),.d (.int y),.d (.list ((s.row A).map PyData.int)),.d (.int sc),.d (.int (s.wg day y A sc)),J1,J2,J3]) ?_ (by decide) ?_
 ·refine np (n:=0) (λpre ρ=>∃ J1 J2 J3:Sl,ρ=[.d s.d,.d (.tuple (day.map PyData.int)),.d (.int y),.d (.list ((s.row A).map PyData.int)),.d (.int sc),.d (.int (s.wg day y A sc - ws (λf=>sc * s.day y f+A (s.nx y f)) pre.length (day.drop pre.length))),J1,J2,J3]) ⟨.un,.un,.un,?_⟩ (by simp) ?_ ?_
  ·have:s.wg day y A sc - ws (λf=>sc * s.day y f+A (s.nx y f)) 0 day=0:=by unfold Shp.wg; omega
   simp only [xu,zK,this]
  ·rintro pre x post ρ e ⟨J1,J2,J3,rfl⟩
   obtain ⟨w,hw,rfl⟩:=Zn5 e
   rw [v5] at hw
   obtain ⟨v,hv,rfl⟩:=yQ.mp hw
   refine ⟨_,rfl,?_⟩
   have hl:pre.length < day.length:=(v8.mp hv).1
   have hlen:=hd.len
   have hf:nb 40 (pre.length:Int):=bM (by show -1099511627776 < _; omega) (by show _ < 1099511627776; omega)
   have e1:=uG s y pre.length
   have e2:=Zom h hy hf
   have n1:=ig s y pre.length
   have n2:=ie h y2 (show (0:Int)<=pre.length by omega)
   have e3:=ot (f:=A) n1 n2
   have v1:nb 30 v:=hd.nb v (xF hv)
   have b1:=bF hs (lh h hy hf)
   have f1:=aK hs (by omega)
   have f2:=aK (lh h hy hf) (by decide)
   have f3:=aK v1 (by decide)
   have f4:=aK (dQ b1 (hA _ n1 n2)) (by omega)
   simp_arith [ZdM,e1,e2,e3,f1,f2,f3,f4]
   have ed:day.drop pre.length=v::day.drop (pre.length+1):=by
    rw [wR hl]
    congr 1
    exact (v8.mp hv).2
   have el:(pre++[PyData.tuple [PyData.int pre.length,PyData.int v]]).length=pre.length+1:=by simp
   have ee:s.wg day y A sc - ws (λf=>sc * s.day y f+A (s.nx y f)) pre.length (day.drop pre.length)+v * (sc * s.day y pre.length+A (s.nx y pre.length)) =
     s.wg day y A sc - ws (λf=>sc * s.day y f+A (s.nx y f)) (pre++[PyData.tuple [PyData.int pre.length,PyData.int v]]).length (day.drop (pre++[PyData.tuple [PyData.int pre.length,PyData.int v]]).length):=by
    rw [el,ed,ws]
    omega
   rw [ee]
   exact ce ⟨_,rfl,_,_,_,rfl⟩
  ·rintro ρ ⟨J1,J2,J3,rfl⟩
   refine ⟨J1,J2,J3,?_⟩
   rw [Zn6,Zm2,yO,ws,Int.sub_zero]
 ·rintro _ ⟨J1,J2,J3,rfl⟩
  simp_arith [ye]
  exact ce rfl
theorem Zoh {s:Shp} (h:s.Ok) {day:Aa} (hd:DayB day) {A:Int->Int} {b:Nat} (hA:Bd s b A) {sc:Int} (hs:nb b sc) (hb:b<=5000) :
  o7 [.d s.d,.d (tI day),.d (lI (s.row A)),.d (.int sc)]=.ret (.own ((s.row (s.sm day A sc)).map PyData.int)):=by
 have:=h.t0
 have:=h.d0
 have:=h.td
 have f1:=aK hs (by omega)
 have f2:=aK (dN hd) (by decide)
 have f3:=aK (bF hs (dN hd)) (by omega)
 have f4:=aK h.piece (by decide)
 have f5:=aK (bF (bF hs (dN hd)) h.piece) (by omega)
 have es:bZ dG [tI day]=.ret (.int day.sum):=pV day
 have hsm:small (aL (-s.depth) (s.top+1)).length=true:=cj (by rw [cM]; omega)
 have e:bG (cx (aj 0) sU (blk 1 [0,1,2,3,4] [.d s.d,.d (tI day),.d (lI (s.row A)),.d (.int sc),.d (.int (sc * day.sum))])) (aL (-s.depth) (s.top+1))=.ret ((s.row (s.sm day A sc)).map PyData.int):=by
  refine Eq.trans (Zdh (f:=λx=>.int (s.sm day A sc x)) λz h1 h2=>?_) ?_
  ·have e1:=pY h hd (y:=z) (by omega) (by omega) hA hs hb
   have hz:nb 20 z:=bM (by show -1048576 < _; omega) (by show _ < 1048576; omega)
   have f6:=aK hz (by decide)
   simp_arith [sU,e1,f3,f4,f5,f6]
   rfl
  ·unfold Shp.row Shp.n
   rw [ww]
   rfl
 simp_arith [o7,jh h,hsm,es,f1,f2] at e ⊢
 simp_arith [e]
end My
set_option Elab.async false
set_option linter.all false
set_option maxRecDepth 100000
set_option exponentiation.threshold 9000
namespace My
open L2 Tw
theorem Zaa {xs ys pre post:z9} {x:PyData} (h:b7 xs ys=pre++x::post):∃ a b,xs[pre.length]?=some a/\ys[pre.length]?=some b/\x=.tuple [a,b]:=by
 have h1:(b7 xs ys)[pre.length]?=some x:=by rw [h]; simp
 unfold b7 at h1
 rw [v5] at h1
 obtain ⟨⟨a,b⟩,hz,rfl⟩:=yQ.mp h1
 obtain ⟨z1,z2⟩:=zG.mp hz
 exact ⟨a,b,z1,z2,rfl⟩
theorem Zb4 {lo hi:Int} {k:Nat} {y:PyData} (h:(aL lo hi)[k]?=some y):y=.int (lo+k)/\(k:Int) < hi - lo:=by
 have hk:=(v8.mp h).1
 rw [cM] at hk
 unfold aL aI at h
 rw [ww,v5,wm hk] at h
 cases h
 exact ⟨rfl,by omega⟩
noncomputable def cby (s:Shp) (day:Aa) (A:Int->Int) (sc:Int) (g:Int->Int) (x:Int):Int:=sc * day.sum * s.ord x (g x)+s.wg day (g x) A sc
theorem Zpw {s:Shp} (h:s.Ok) {day:Aa} (hd:DayB day) {A:Int->Int} {b:Nat} (hA:Bd s b A) {sc:Int} (hs:nb b sc) (hb:b<=5000) {x y:Int} (x1:-s.depth<=x) (xy:x<=y) (y2:y<=s.top) {L:z9} (hL:L.length<=900) (LV:Sl) :
  ub [.d s.d,.d (tI day),LV,.d (lI (s.row A)),.d (.int sc),.d (.int (sc * day.sum)),.own L,.d (.int x),.d (.int y)]=.ret (.next [.d s.d,.d (tI day),LV,.d (lI (s.row A)),.d (.int sc),.d (.int (sc * day.sum)),.own (L++[.int (sc * day.sum * s.ord x y+s.wg day y A sc)]),.d (.int x),.d (.int y)]):=by
 have hx:=f9 h x1 (show x<=s.top by omega)
 have hy:=f9 h (show -s.depth<=y by omega) y2
 have e1:=uF h hx hy
 have e2:=pY h hd (show -s.depth<=y by omega) y2 hA hs hb
 have hsm:small (L.length+1)=true:=cj (by omega)
 have g1:=aK (bF hs (dN hd)) (by omega)
 have g2:=aK (oJ h hx hy) (by decide)
 simp_arith [ub,e1,e2,hsm,g1,g2]
theorem Zon {s:Shp} (h:s.Ok) {day:Aa} (hd:DayB day) {A:Int->Int} {b:Nat} (hA:Bd s b A) {sc:Int} (hs:nb b sc) (hb:b<=5000) {g:Int->Int} (hg:s.RlOk g) {LV:PyData} (hLV:dC LV=.ret ((s.row g).map PyData.int)) :
  pB [.d s.d,.d (tI day),.d LV,.d (lI (s.row A)),.d (.int sc)]=.ret (.own ((s.row (cby s day A sc g)).map PyData.int)):=by
 have:=h.t0
 have:=h.d0
 have:=h.td
 have hn:=h.n_eq
 have g1:=aK hs (by omega)
 have g2:=aK (dN hd) (by decide)
 apply vq
 simp_arith [pB,gy,g1,g2,jh h,hLV]
 refine fb (n:=0) (n':=0) (P:=λo=>∃ J7 J8:Sl,o=.next [.d s.d,.d (tI day),.d LV,.d (lI (s.row A)),.d (.int sc),.d (.int (sc * day.sum)),.own ((s.row (cby s day A sc g)).map PyData.int),J7,J8]) ?_ (by decide) ?_
 ·refine np (n:=0) (λpre ρ=>∃ J7 J8:Sl,ρ=[.d s.d,.d (tI day),.d LV,.d (lI (s.row A)),.d (.int sc),.d (.int (sc * day.sum)),.own (((s.row (cby s day A sc g)).map PyData.int).take pre.length),J7,J8]) ⟨_,_,rfl⟩ (by simp) ?_ ?_
  ·rintro pre x post ρ e ⟨J7,J8,rfl⟩
   obtain ⟨a,c,ha,hc,rfl⟩:=Zaa e
   obtain ⟨rfl,hpre⟩:=Zb4 ha
   have x1:-s.depth<=-s.depth+(pre.length:Int):=by omega
   have x2:-s.depth+(pre.length:Int)<=s.top:=by omega
   have ek:(-s.depth+(pre.length:Int)+s.depth).toNat=pre.length:=by omega
   have hr:=gz (f:=g) x1 x2
   have hr3:=gz (f:=cby s day A sc g) x1 x2
   rw [ek] at hr hr3
   rw [v5,hr] at hc
   cases hc
   have hr2:((s.row (cby s day A sc g)).map PyData.int)[pre.length]?=some (.int (cby s day A sc g (-s.depth+(pre.length:Int)))):=by rw [v5,hr3]; rfl
   have el:∀ z:PyData,(pre++[z]).length=pre.length+1:=λz=>by simp
   rw [el,List.take_add_one,hr2]
   obtain ⟨q1,q2⟩:=hg _ x1 x2
   exact ⟨_,rfl,Zqv (Zpw h hd hA hs hb x1 q1 q2 (by rw [wE,vZ,iS]; omega) _) ⟨_,rfl,_,_,rfl⟩⟩
  ·rintro ρ ⟨J7,J8,rfl⟩
   refine ⟨J7,J8,?_⟩
   have el:(b7 (aL (-s.depth) (s.top+1)) ((s.row g).map PyData.int)).length=s.n:=by
    unfold b7
    rw [vZ,yr,cM,vZ,iS]
    unfold Shp.n
    omega
   rw [el,yR (by rw [vZ,iS]; exact v4 _)]
 ·rintro _ ⟨J7,J8,rfl⟩
  simp_arith [ye]
  exact ce rfl
end My
set_option Elab.async false
set_option linter.all false
set_option maxRecDepth 100000
set_option exponentiation.threshold 9000
namespace My
open L2 Tw
def qS (s:Shp) (day:Aa) (C A:Int->Int) (sc:Int):Prop:=∀ x y,-s.depth<=x->x<=y->y<=s.top->C x<=sc * day.sum * s.ord x y+s.wg day y A sc
noncomputable abbrev dY (s:Shp) (day:Aa) (C A:Int->Int) (sc:Int) (J7 J8 J9:Sl):Af:=[.d s.d,.d (tI day),.d (lI (s.row C)),.d (lI (s.row A)),.d (.int sc),.d (.int (sc * day.sum)),.d (lI (s.row λy=>s.wg day y A sc)),J7,J8,J9]
theorem nn1 {s:Shp} (h:s.Ok) {day:Aa} (hd:DayB day) {C A:Int->Int} {b:Nat} {sc:Int} (hs:nb b sc) (hb:b<=5000) {x y c:Int} (x1:-s.depth<=x) (xy:x<=y) (y2:y<=s.top) :
  kW (dY s day C A sc (.d (.int x)) (.d (.int c)) (.d (.int y)))=if sc * day.sum * s.ord x y+s.wg day y A sc < c then .ret (.ret (.d (.bool false))) else .ret (.next (dY s day C A sc (.d (.int x)) (.d (.int c)) (.d (.int y)))):=by
 have hx:=f9 h x1 (show x<=s.top by omega)
 have hy:=f9 h (show -s.depth<=y by omega) y2
 have e1:=uF h hx hy
 have e2:=ot (s:=s) (f:=λy=>s.wg day y A sc) (x:=y) (by omega) y2
 have g1:=aK (bF hs (dN hd)) (by omega)
 have g2:=aK (oJ h hx hy) (by decide)
 by_cases q:sc * day.sum * s.ord x y+s.wg day y A sc < c
 ·rw [if_pos q]
  simp_arith [kW,dY,lI,e1,e2,g1,g2,decide_eq_true q]
 ·rw [if_neg q]
  simp_arith [kW,dY,lI,e1,e2,g1,g2,decide_eq_false q]
theorem nn2 {s:Shp} (h:s.Ok) {day:Aa} (hd:DayB day) {C A:Int->Int} {b:Nat} {sc:Int} (hs:nb b sc) (hb:b<=5000) {x c:Int} (x1:-s.depth<=x) (x2:x<=s.top) (J9:Sl) :
  ((∃ y,x<=y/\y<=s.top/\sc * day.sum * s.ord x y+s.wg day y A sc < c)/\kU (dY s day C A sc (.d (.int x)) (.d (.int c)) J9)=.ret (.ret (.d (.bool false))))\/((∀ y,x<=y->y<=s.top->¬ sc * day.sum * s.ord x y+s.wg day y A sc < c)/\∃ K9:Sl,kU (dY s day C A sc (.d (.int x)) (.d (.int c)) J9)=.ret (.next (dY s day C A sc (.d (.int x)) (.d (.int c)) K9))):=by
 have:=h.t0
 have:=h.d0
 have:=h.td
 have r1:jE [.int x,.int (s.top+1)]=.ret (aL x (s.top+1)):=uA (eZ (by omega) (by omega)) (eZ (by omega) (by omega))
 have key:=mX (g:=aj 9) (s:=kW) (r:=.d (.bool false)) (xs:=aL x (s.top+1)) (ρ:=dY s day C A sc (.d (.int x)) (.d (.int c)) J9) (λpre _=>sc * day.sum * s.ord x (x+pre.length)+s.wg day (x+pre.length) A sc < c) (λ_ ρ=>∃ K9:Sl,ρ=dY s day C A sc (.d (.int x)) (.d (.int c)) K9) ⟨_,rfl⟩ (by
  rintro pre z post ρ e ⟨K9,rfl⟩
  obtain ⟨rfl,hpre⟩:=jD e
  refine ⟨_,rfl,?_⟩
  have st:=nn1 h hd (C:=C) (A:=A) hs hb (c:=c) x1 (show x<=x+(pre.length:Int) by omega) (by omega)
  by_cases q:sc * day.sum * s.ord x (x+pre.length)+s.wg day (x+pre.length) A sc < c
  ·rw [if_pos q] at st
   exact .inl ⟨q,st⟩
  ·rw [if_neg q] at st
   exact .inr ⟨q,_,st,_,rfl⟩)
 have eL:kU (dY s day C A sc (.d (.int x)) (.d (.int c)) J9)=bV (aj 9) kW (aL x (s.top+1)) (dY s day C A sc (.d (.int x)) (.d (.int c)) J9):=by
  simp_arith [kU,dY,r1]
 rw [eL]
 rcases key with ⟨⟨p,z,q,e,hb⟩,k⟩ | ⟨hn,ρ2,k,K9,rfl⟩
 ·obtain ⟨rfl,hpre⟩:=jD e
  exact .inl ⟨⟨x+p.length,by omega,by omega,hb⟩,k⟩
 ·refine .inr ⟨λy y1 y2=>?_,K9,k⟩
  have hlen:(y - x).toNat < (aL x (s.top+1)).length:=by rw [cM]; omega
  have hsp:aL x (s.top+1)=(aL x (s.top+1)).take (y - x).toNat++(aL x (s.top+1))[(y - x).toNat]::(aL x (s.top+1)).drop ((y - x).toNat+1):=by
   rw [<- wR hlen,xQ]
  have:=hn _ _ _ hsp
  rw [wE,xt (by omega)] at this
  have e:x+((y - x).toNat:Int)=y:=by omega
  rwa [e] at this
theorem Zob {s:Shp} (h:s.Ok) {day:Aa} (hd:DayB day) {C A:Int->Int} {b:Nat} (hA:Bd s b A) {sc:Int} (hs:nb b sc) (hb:b<=5000) :
  (qS s day C A sc/\kP [.d s.d,.d (tI day),.d (lI (s.row C)),.d (lI (s.row A)),.d (.int sc)]=.ret (.d (.bool true)))\/(¬ qS s day C A sc/\kP [.d s.d,.d (tI day),.d (lI (s.row C)),.d (lI (s.row A)),.d (.int sc)]=.ret (.d (.bool false))):=by
 have:=h.t0
 have:=h.d0
 have:=h.td
 have hn:=h.n_eq
 have g1:=aK hs (by omega)
 have g2:=aK (dN hd) (by decide)
 have hsm:small (aL (-s.depth) (s.top+1)).length=true:=cj (by rw [cM]; omega)
 have hmap:bG (cx (aj 0) sT [.un,.d s.d,.d (tI day),.d (lI (s.row A)),.d (.int sc)]) (aL (-s.depth) (s.top+1))=.ret ((s.row λy=>s.wg day y A sc).map PyData.int):=by
  rw [Zdh (f:=λy=>.int (s.wg day y A sc)) λz z1 z2=>?_]
  ·unfold Shp.row
   rw [ww]
   rfl
  ·have e:=pY h hd (y:=z) z1 (by omega) hA hs hb
   have e3:∀ q:zS,cx (aj 0) q [.un,.d s.d,.d (tI day),.d (lI (s.row A)),.d (.int sc)] (.int z)=q [.d (.int z),.d s.d,.d (tI day),.d (lI (s.row A)),.d (.int sc)]:=λq=>rfl
   rw [e3]
   simp_arith [sT,e]
 have key:=mX (g:=bA (aJ (aj 7) (aJ (aj 8) bx))) (s:=kU) (r:=.d (.bool false)) (xs:=b7 (aL (-s.depth) (s.top+1)) ((s.row C).map PyData.int)) (ρ:=dY s day C A sc .un .un .un) (λpre _=>∃ y,-s.depth+(pre.length:Int)<=y/\y<=s.top/\sc * day.sum * s.ord (-s.depth+pre.length) y+s.wg day y A sc < C (-s.depth+pre.length)) (λ_ ρ=>∃ K7 K8 K9:Sl,ρ=dY s day C A sc K7 K8 K9) ⟨_,_,_,rfl⟩ (by
  rintro pre z post ρ e ⟨K7,K8,K9,rfl⟩
  obtain ⟨a,c,ha,hc,rfl⟩:=Zaa e
  obtain ⟨rfl,hpre⟩:=Zb4 ha
  have x1:-s.depth<=-s.depth+(pre.length:Int):=by omega
  have x2:-s.depth+(pre.length:Int)<=s.top:=by omega
  have ek:(-s.depth+(pre.length:Int)+s.depth).toNat=pre.length:=by omega
  have hr:=gz (f:=C) x1 x2
  rw [ek] at hr
  rw [v5,hr] at hc
  cases hc
  refine ⟨_,rfl,?_⟩
  rcases nn2 h hd (C:=C) (A:=A) hs hb (c:=C (-s.depth+(pre.length:Int))) x1 x2 K9 with ⟨q,st⟩ | ⟨q,K9',st⟩
  ·exact .inl ⟨q,st⟩
  ·exact .inr ⟨λ⟨y,y1,y2,y3⟩=>q y y1 y2 y3,_,st,_,_,_,rfl⟩)
 rcases key with ⟨⟨p,z,q,e,y,y1,y2,y3⟩,k⟩ | ⟨hno,ρ2,k,K7,K8,K9,rfl⟩
 ·refine .inr ⟨λnl=>?_,?_⟩
  ·have:=nl _ y (by omega) y1 y2
   omega
  ·have ei:dC (lI (s.row C))=.ret ((s.row C).map PyData.int):=rfl
   have el:PyData.list ((s.row λy=>s.wg day y A sc).map PyData.int)=lI (s.row λy=>s.wg day y A sc):=rfl
   simp_arith [kP,gy,g1,g2,jh h,hsm,hmap,ei,el]
   simp only [dY] at k
   simp_arith [k]
 ·refine .inl ⟨λx y x1 xy y2=>?_,?_⟩
  ·have hlen:(x+s.depth).toNat < (b7 (aL (-s.depth) (s.top+1)) ((s.row C).map PyData.int)).length:=by
    unfold b7
    rw [vZ,yr,cM,vZ,iS]
    omega
   have hsp:b7 (aL (-s.depth) (s.top+1)) ((s.row C).map PyData.int)=(b7 (aL (-s.depth) (s.top+1)) ((s.row C).map PyData.int)).take (x+s.depth).toNat++(b7 (aL (-s.depth) (s.top+1)) ((s.row C).map PyData.int))[(x+s.depth).toNat]::(b7 (aL (-s.depth) (s.top+1)) ((s.row C).map PyData.int)).drop ((x+s.depth).toNat+1):=by
    rw [<- wR hlen,xQ]
   have:=hno _ _ _ hsp
   rw [wE,xt (by omega)] at this
   have e:-s.depth+((x+s.depth).toNat:Int)=x:=by omega
   rw [e] at this
   by_cases q:C x<=sc * day.sum * s.ord x y+s.wg day y A sc
   ·exact q
   ·exact absurd ⟨y,xy,y2,by omega⟩ this
  ·have ei:dC (lI (s.row C))=.ret ((s.row C).map PyData.int):=rfl
   have el:PyData.list ((s.row λy=>s.wg day y A sc).map PyData.int)=lI (s.row λy=>s.wg day y A sc):=rfl
   simp_arith [kP,gy,g1,g2,jh h,hsm,hmap,ei,el]
   simp only [dY] at k
   simp_arith [k]
end My
set_option Elab.async false
set_option linter.all false
set_option maxRecDepth 100000
namespace My
open L2 Tw
theorem Zqj {xs:z9} {v:PyData} (h:xs[xs.length - 1]?=some v):bf xs (-1)=some v:=by
 have hl:xs≠[]:=λe=>by subst e; cases h
 have hp:0 < xs.length:=yt.mpr hl
 obtain ⟨k,hk⟩:=Nat.exists_eq_succ_of_ne_zero (wZ hp)
 unfold bf de
 have e0:(-1:Int)+(xs.length:Int)=(k:Int):=by rw [hk]; show (-1:Int)+((k:Int)+1)=k; rw [Int.add_comm,Int.add_assoc]; exact yX _
 have e:((-1:Int)+(xs.length:Int)).toNat=xs.length - 1:=by rw [e0,hk]; exact wD k
 rw [if_neg (by decide),if_pos (by omega)]
 show xs[((-1:Int)+(xs.length:Int)).toNat]?=some v
 rw [e]
 exact h
noncomputable def hX (g:Int->Int) (top K P x:Int):PyData:=.tuple [.int (cst g top K P x),.int (lvl g top K x)]
theorem ZkS {lo hi:Int} {F:Int->PyData}:((List.range (hi - lo).toNat).map λ(i:Nat)=>F (hi - 1 - i)).reverse=(aI lo (hi - lo).toNat).map F:=by
 unfold aI
 rw [ww]
 apply xK
 intro i
 by_cases hi':i < (hi - lo).toNat
 ·rw [yU (by simpa using hi'),vZ,wW,v5,v5,wm (by omega),wm hi']
  show some (F (hi - 1 - (((hi - lo).toNat - 1 - i:Nat):Int)))=some (F (lo+(i:Int)))
  congr 2
  omega
 ·rw [wH (by simpa using hi'),wH (by simpa using hi')]
theorem Zoo {s:Shp} (h:s.Ok) {low:Int} (hl:low<=s.top) (hl0:-1000<=low) {g:Int->Int} {b:Nat} (hg:∀ x,low<=x->x<=s.top->nb b (g x)) {sc:Int} (hs:nb b sc) (hK:0<=sc * s.start) (hb:b<=3000) :
  pC [.d s.d,.d (.int low),.d (lI ((aI low (s.top+1 - low).toNat).map g)),.d (.int sc)]=.ret (.own ((aI low (s.top+1 - low).toNat).map (hX g s.top (sc * s.start) (sc * s.piece)))):=by
 have:=h.t0
 have:=h.d0
 have:=h.td
 have hn:0 < (s.top+1 - low).toNat:=by omega
 have hlen:(((aI low (s.top+1 - low).toNat).map g).map PyData.int).length=(s.top+1 - low).toNat:=by rw [vZ,vZ,gA]
 have hat:∀ x,low<=x->x<=s.top->(((aI low (s.top+1 - low).toNat).map g).map PyData.int)[(x - low).toNat]?=some (.int (g x)):=λx h1 h2=>by
  unfold aI
  rw [ww,ww,v5,wm (by omega)]
  show some (PyData.int (g (low+((x - low).toNat:Int))))=_
  congr 3
  omega
 have hlast:bf (((aI low (s.top+1 - low).toNat).map g).map PyData.int) (-1)=some (.int (g s.top)):=Zqj (by
  rw [hlen]
  have:=hat s.top hl (wK _)
  have e:(s.top - low).toNat=(s.top+1 - low).toNat - 1:=by
   obtain ⟨k,hk⟩:=xq (Int.sub_nonneg_of_le hl)
   have hk2:s.top+1 - low=((k+1:Nat):Int):=by omega
   rw [hk,hk2]
   rfl
  rw [e] at this
  exact this)
 have r1:gk low=true:=eZ (by omega) (by omega)
 have r2:gk (s.top+1)=true:=eZ (by omega) (by omega)
 have f1:=aK hs (by omega)
 have f2:=aK h.start (by decide)
 have f3:=aK h.piece (by decide)
 have f4:=aK (bF hs h.piece) (by omega)
 apply vq
 simp_arith [pC,lI,hlast,uA r1 r2]
 refine fb (n:=0) (n':=0) (P:=λo=>∃ J5 J6 J7 J8 J9:Sl,o=.next [.d s.d,.d (.int low),.d (.list (((aI low (s.top+1 - low).toNat).map g).map PyData.int)),.d (.int sc),.own ((List.range (s.top+1 - low).toNat).map λ(i:Nat)=>hX g s.top (sc * s.start) (sc * s.piece) (s.top+1 - 1 - i)),J5,J6,J7,J8,J9]) ?_ (by decide) ?_
 ·refine np (n:=0) (λpre ρ=>∃ J6 J7 J8 J9:Sl,ρ=[.d s.d,.d (.int low),.d (.list (((aI low (s.top+1 - low).toNat).map g).map PyData.int)),.d (.int sc),.own ((List.range pre.length).map λ(i:Nat)=>hX g s.top (sc * s.start) (sc * s.piece) (s.top+1 - 1 - i)),.d (.tuple [.int (bst g s.top (pre.length - 1)).1,.int (bst g s.top (pre.length - 1)).2]),J6,J7,J8,J9]) ⟨.un,.un,.un,.un,rfl⟩ (by simp) ?_ ?_
  ·rintro pre x post ρ e ⟨J6,J7,J8,J9,rfl⟩
   obtain ⟨rfl,hpre⟩:=ZkP e
   refine ⟨_,rfl,?_⟩
   generalize hk:pre.length=k at hpre ⊢
   have hx1:low<=s.top+1 - 1 - (k:Int):=by omega
   have hx2:s.top+1 - 1 - (k:Int)<=s.top:=by omega
   have ha:bf (((aI low (s.top+1 - low).toNat).map g).map PyData.int) (s.top+1 - 1 - (k:Int) - low)=some (.int (g (s.top+1 - 1 - (k:Int)))):=dl (by omega) (hat _ hx1 hx2)
   have hxn:nb 20 (s.top+1 - 1 - (k:Int)):=bM (by show -1048576 < _; omega) (by show _ < 1048576; omega)
   have f5:=aK hxn (by decide)
   have hsm:small (((List.range k).map λ(i:Nat)=>hX g s.top (sc * s.start) (sc * s.piece) (s.top+1 - 1 - i)).length+1)=true:=cj (by rw [vZ,wW]; omega)
   have el:(pre++[PyData.int (s.top+1 - 1 - (k:Int))]).length=k+1:=by rw [wu,hk]; rfl
   have m1:bZ i5 [.tuple [.int (g (s.top+1 - 1 - (k:Int))),.int (s.top+1 - 1 - (k:Int))],.tuple [.int (sc * s.start+(bst g s.top (k - 1)).1),.int (bst g s.top (k - 1)).2]]=.ret (.tuple [.int (pck g s.top (sc * s.start) (s.top+1 - 1 - (k:Int))).1,.int (pck g s.top (sc * s.start) (s.top+1 - 1 - (k:Int))).2]):=by
    rw [pX]
    cases k with
    | zero =>
     have ex:s.top+1 - 1 - ((0:Nat):Int)=s.top:=by simp
     rw [ex,jJ,if_neg]
     show ¬ (sc * s.start+g s.top < g s.top\/sc * s.start+g s.top=g s.top/\s.top < s.top)
     omega
    | succ n =>
     have ex:s.top+1 - 1 - ((n+1:Nat):Int)=s.top - ((n+1:Nat):Int):=by omega
     rw [ex,jK,Nat.add_sub_cancel]
     have hb:=(qh g s.top n).1
     by_cases hc:sc * s.start+(bst g s.top n).1 < g (s.top - ((n+1:Nat):Int))
     ·rw [if_pos (.inl hc),if_pos hc]
     ·rw [if_neg (by omega),if_neg hc]
   have m2:bZ i5 [.tuple [.int (g (s.top+1 - 1 - (k:Int))),.int (s.top+1 - 1 - (k:Int))],.tuple [.int (bst g s.top (k - 1)).1,.int (bst g s.top (k - 1)).2]]=.ret (.tuple [.int (bst g s.top k).1,.int (bst g s.top k).2]):=by
    rw [pX]
    cases k with
    | zero =>
     have ex:s.top+1 - 1 - ((0:Nat):Int)=s.top:=by simp
     rw [ex,if_neg]
     ·rfl
     ·show ¬ (g s.top < g s.top\/g s.top=g s.top/\s.top < s.top)
      omega
    | succ n =>
     have ex:s.top+1 - 1 - ((n+1:Nat):Int)=s.top - ((n+1:Nat):Int):=by omega
     rw [ex,Nat.add_sub_cancel]
     have hb:=(qh g s.top n).1
     rw [bst]
     by_cases hc:(bst g s.top n).1 < g (s.top - ((n+1:Nat):Int))
     ·rw [if_pos (.inl hc),if_pos hc]
     ·rw [if_neg (by omega),if_neg hc]
   simp_arith [ZdN,ha,m1,m2,f1,f2,f3,f4,f5,hsm]
   rw [el,yp,xn]
   exact ce ⟨_,rfl,_,_,_,_,rfl⟩
  ·rintro ρ ⟨J6,J7,J8,J9,rfl⟩
   rw [xY,cM]
   exact ⟨_,J6,J7,J8,J9,rfl⟩
 ·rintro _ ⟨J5,J6,J7,J8,J9,rfl⟩
  simp_arith [ye]
  rw [ZkS]
  exact ce rfl
theorem Zop {s:Shp} (h:s.Ok) {g:Int->Int} {b:Nat} (hg:Bd s b g) {sc:Int} (hs:nb b sc) (h0:0<=sc) (hb:b<=3000) :
  mL [.d s.d,.d (lI (s.row g)),.d (.int sc)]=.ret (.own ((aI (-s.depth) s.n).map (hX g s.top (sc * s.start) (sc * s.piece)))):=by
 have:=h.t0
 have:=h.d0
 have:=h.td
 have e:=Zoo h (low:=-s.depth) (by omega) (by omega) (λx h1 h2=>hg x h1 h2) hs (xm h0 h.start0) hb
 simp_arith [mL]
 unfold Shp.row Shp.n
 rw [e]
 simp_arith [ye]
end My
set_option Elab.async false
set_option linter.all false
set_option maxRecDepth 100000
set_option exponentiation.threshold 9000
namespace My
open L2 Tw Bar
noncomputable def cC (A:Nat->Nat->Int) (n k i:Nat):PyData:=.list (((List.range (n+1)).map λj=>M A k i (col A j)).map PyData.int)
noncomputable def ck (A:Nat->Nat->Int) (n k at':Nat):z9:=(List.range n).map λi=>if i < at' then cC A n (k+1) i else cC A n k i
structure SvOk (A:Nat->Nat->Int) (n:Nat):Prop where
 n9:n<=9
 d0:∀ j,j<=n->0 < d A j
 nb:∀ k i j,k<=n->i < n->j<=n->Tw.nb 3000 (M A k i (col A j))
 nd:∀ j,j<=n->Tw.nb 3000 (d A j)
theorem hI (A:Nat->Nat->Int) (n k at':Nat):(ck A n k at').length=n:=by unfold ck; rw [vZ,wW]
theorem jC (A:Nat->Nat->Int) {n k at' i:Nat} (h:i < n):(ck A n k at')[i]?=some (if i < at' then cC A n (k+1) i else cC A n k i):=by
 unfold ck
 rw [v5,wm h]
 rfl
theorem ZkH {A:Nat->Nat->Int} {n k:Nat} (h:SvOk A n) (hk:k < n):cC A n (k+1) k=cC A n k k:=by
 unfold cC
 congr 2
 refine w6 λj _=>?_
 exact Zrr A (λj hj=>xB (h.d0 j (by omega))) _
theorem ZkF {A:Nat->Nat->Int} {n k i:Nat} (hi:i < n):(ck A n k i).set i (cC A n (k+1) i)=ck A n k (i+1):=by
 refine xK λq=>?_
 rw [List.getElem?_set,hI]
 by_cases e:i=q
 ·subst e
  rw [if_pos rfl,if_pos hi,jC A hi,if_pos (by omega)]
 ·rw [if_neg e]
  by_cases hq:q < n
  ·rw [jC A hq,jC A hq]
   by_cases h2:q < i
   ·rw [if_pos h2,if_pos (by omega)]
   ·rw [if_neg h2,if_neg (by omega)]
  ·rw [wH (by rw [hI]; omega),wH (by rw [hI]; omega)]
theorem ZkE {A:Nat->Nat->Int} {n k:Nat} (h:SvOk A n) (hk:k < n):ck A n k k=ck A n k (k+1):=by
 refine xK λq=>?_
 by_cases hq:q < n
 ·rw [jC A hq,jC A hq]
  by_cases h2:q < k
  ·rw [if_pos h2,if_pos (by omega)]
  ·rw [if_neg h2]
   by_cases h3:q=k
   ·subst h3
    rw [if_pos (by omega),ZkH h hk]
   ·rw [if_neg (by omega)]
 ·rw [wH (by rw [hI]; omega),wH (by rw [hI]; omega)]
theorem ZkG (A:Nat->Nat->Int) (n k:Nat):ck A n k n=ck A n (k+1) 0:=by
 unfold ck
 refine w6 λi hi=>?_
 have:=wV.mp hi
 rw [if_pos this,if_neg (by omega)]
theorem ZnW {a m:Int} (ha:0 < a):(a * m).fdiv a=m:=by
 rw [xw _ (by omega)]
 exact yG m (by omega)
theorem ZbZ {A:Nat->Nat->Int} {n k i j:Nat} (hj:j<=n):aV au (cC A n k i) (.int j)=.ret (.int (M A k i (col A j))):=by
 unfold cC
 rw [m7,dl (v:=.int (M A k i (col A j))) (by omega) (by rw [wD,v5,v5,wm (by omega)]; rfl)]
 rfl
theorem ZjR {A:Nat->Nat->Int} {n k i:Nat} (h:SvOk A n) (hk:k < n) (hi:i < n) (hik:i≠k):bG (cx (bA (aJ (aj 0) (aJ (aj 1) bx))) me [.un,.un,.d (.int (d A k)),.d (.int (d A (k+1))),.d (.int (M A k i (col A k)))]) (b7 (((List.range (n+1)).map λj=>M A k i (col A j)).map PyData.int) (((List.range (n+1)).map λj=>M A k k (col A j)).map PyData.int))=.ret (((List.range (n+1)).map λj=>M A (k+1) i (col A j)).map PyData.int):=by
 have key:∀ l:List Nat,(∀ j∈l,j<=n)->bG (cx (bA (aJ (aj 0) (aJ (aj 1) bx))) me [.un,.un,.d (.int (d A k)),.d (.int (d A (k+1))),.d (.int (M A k i (col A k)))]) (b7 ((l.map λj=>M A k i (col A j)).map PyData.int) ((l.map λj=>M A k k (col A j)).map PyData.int))=.ret ((l.map λj=>M A (k+1) i (col A j)).map PyData.int):=by
  intro l
  induction l with
  | nil=>intro _; rfl
  | cons j l ih =>
   intro hl
   have hj:=hl j (by simp)
   have ih':=ih λq hq=>hl q (v3 _ hq)
   have st:=Zrq A (k:=k) (λq hq=>xB (h.d0 q (by omega))) (col A j) hik
   rw [vT] at st
   have dk:=h.d0 k (by omega)
   have f1:=aK (h.nd k (by omega)) (by decide)
   have f2:=aK (h.nd (k+1) (by omega)) (by decide)
   have f3:=aK (h.nb k i j (by omega) hi hj) (by decide)
   have f4:=aK (h.nb k i k (by omega) hi (by omega)) (by decide)
   have f5:=aK (h.nb k k j (by omega) hk hj) (by decide)
   have ed:aV e9 (.int (d A (k+1) * M A k i (col A j) - M A k i (col A k) * M A k k (col A j))) (.int (d A k))=.ret (.int (M A (k+1) i (col A j))):=by
    rw [jf (by omega) f1,<- st,ZnW dk]
   have e0:cx (bA (aJ (aj 0) (aJ (aj 1) bx))) me [.un,.un,.d (.int (d A k)),.d (.int (d A (k+1))),.d (.int (M A k i (col A k)))] (.tuple [.int (M A k i (col A j)),.int (M A k k (col A j))])=.ret (.int (M A (k+1) i (col A j))):=by
    simp_arith [me,f2,f3,f4,f5,ed]
   have ez:b7 (((j::l).map λj=>M A k i (col A j)).map PyData.int) (((j::l).map λj=>M A k k (col A j)).map PyData.int)=.tuple [.int (M A k i (col A j)),.int (M A k k (col A j))]::b7 ((l.map λj=>M A k i (col A j)).map PyData.int) ((l.map λj=>M A k k (col A j)).map PyData.int):=rfl
   rw [ez,bG,e0,Tr.ret_bind,ih']
   rfl
 exact key _ λj hj=>by have:=wV.mp hj; omega
theorem sv1 {A:Nat->Nat->Int} {n k i:Nat} (h:SvOk A n) (hk:k < n) (hi:i < n) (J6:Sl):∃ K6:Sl,mQ [.own (ck A n k i),.d (.int (d A k)),.d (.int k),.d (cC A n k k),.d (.int (d A (k+1))),.d (.int i),J6]=.ret (.next [.own (ck A n k (i+1)),.d (.int (d A k)),.d (.int k),.d (cC A n k k),.d (.int (d A (k+1))),.d (.int i),K6]):=by
 by_cases e:i=k
 ·subst e
  have c:(!((i:Int) == (i:Int)))=false:=by simp
  refine ⟨J6,?_⟩
  rw [<- ZkE h hk]
  simp_arith [mQ,c]
 ·have c:(!((i:Int) == (k:Int)))=true:=by simp; omega
  have hat:bf (ck A n k i) (i:Int)=some (cC A n k i):=dl (by omega) (by rw [wD,jC A hi,if_neg (by omega)])
  have hix:=ZbZ (A:=A) (n:=n) (k:=k) (i:=i) (j:=k) (by omega)
  have er:=ZjR h hk hi e
  have i1:dC (cC A n k i)=.ret (((List.range (n+1)).map λj=>M A k i (col A j)).map PyData.int):=rfl
  have i2:dC (cC A n k k)=.ret (((List.range (n+1)).map λj=>M A k k (col A j)).map PyData.int):=rfl
  have hs:small (b7 (((List.range (n+1)).map λj=>M A k i (col A j)).map PyData.int) (((List.range (n+1)).map λj=>M A k k (col A j)).map PyData.int)).length=true:=cj (by
   unfold b7
   have:=h.n9
   simp
   omega)
  have hx:de (ck A n k i).length (i:Int)=some i:=by
   unfold de
   rw [hI,if_pos (by omega),if_pos (by omega)]
   simp
  have e2:PyData.list (((List.range (n+1)).map λj=>M A (k+1) i (col A j)).map PyData.int)=cC A n (k+1) i:=rfl
  refine ⟨.d (.int (M A k i (col A k))),?_⟩
  simp_arith [mQ,c,hat,hix,i1,i2,hs,er,uz hx,e2,ZkF hi]
theorem sv2 {A:Nat->Nat->Int} {n k:Nat} (h:SvOk A n) (hk:k < n):∀ (m i:Nat) (J5 J6:Sl),i+m=n->∃ K5 K6:Sl,bV (aj 5) mQ ((aI i m).map PyData.int) [.own (ck A n k i),.d (.int (d A k)),.d (.int k),.d (cC A n k k),.d (.int (d A (k+1))),J5,J6]=.ret (.next [.own (ck A n k n),.d (.int (d A k)),.d (.int k),.d (cC A n k k),.d (.int (d A (k+1))),K5,K6])
 | 0,i,J5,J6,e=>⟨J5,J6,by
  have e0:i=n:=by omega
  rw [e0]; rfl⟩
 | m+1,i,J5,J6,e=>by
  obtain ⟨K6,e1⟩:=sv1 h hk (show i < n by omega) J6
  obtain ⟨L5,L6,e2⟩:=sv2 h hk m (i+1) (.d (.int i)) K6 (by omega)
  refine ⟨L5,L6,?_⟩
  have er:(aI (i:Int) (m+1)).map PyData.int=.int (i:Int)::(aI ((i+1:Nat):Int) m).map PyData.int:=by
   have e1:aI (i:Int) (m+1)=aI (i:Int) 1++aI ((i:Int)+(1:Nat)) m:=by rw [<- sO,yx]
   have e2:aI (i:Int) 1=[(i:Int)]:=by unfold aI; simp
   have e3:((i+1:Nat):Int)=(i:Int)+(1:Nat):=by omega
   rw [e1,e2,e3]
   rfl
  have eg:aj 5 (.int (i:Int)) [.own (ck A n k i),.d (.int (d A k)),.d (.int k),.d (cC A n k k),.d (.int (d A (k+1))),J5,J6]=some [.own (ck A n k i),.d (.int (d A k)),.d (.int k),.d (cC A n k k),.d (.int (d A (k+1))),.d (.int i),J6]:=rfl
  rw [er,eM,eg,Tr.of_some,Tr.ret_bind,gM,e1,Tr.ret_bind,fv,e2]
theorem sv3 {A:Nat->Nat->Int} {n k:Nat} (h:SvOk A n) (hk:k < n) (J3 J4 J5 J6:Sl):∃ K3 K4 K5 K6:Sl,pE [.own (ck A n k 0),.d (.int (d A k)),.d (.int k),J3,J4,J5,J6]=.ret (.next [.own (ck A n (k+1) 0),.d (.int (d A (k+1))),.d (.int k),K3,K4,K5,K6]):=by
 have n9:=h.n9
 obtain ⟨K5,K6,e⟩:=sv2 h hk n 0 J5 J6 (by omega)
 have hat:bf (ck A n k 0) (k:Int)=some (cC A n k k):=dl (by omega) (by rw [wD,jC A hk,if_neg (by omega)])
 have hix:=ZbZ (A:=A) (n:=n) (k:=k) (i:=k) (j:=k) (by omega)
 rw [vT] at hix
 have hl:(ck A n k 0).length=n:=hI A n k 0
 have r1:fG [.int (n:Int)]=.ret ((aI ((0:Nat):Int) n).map PyData.int):=by
  rw [iB (eZ (by omega) (by omega))]
  unfold aL
  have:((n:Int) - 0).toNat=n:=by omega
  rw [this]
  rfl
 refine ⟨.d (cC A n k k),.d (.int (d A (k+1))),K5,K6,?_⟩
 rw [<- ZkG]
 simp_arith only [pE,hat,hix,hl,r1,e]
theorem sv4 {A:Nat->Nat->Int} {n:Nat} (h:SvOk A n):∀ (m k:Nat) (J2 J3 J4 J5 J6:Sl),k+m=n->∃ K2 K3 K4 K5 K6:Sl,bV (aj 2) pE ((aI k m).map PyData.int) [.own (ck A n k 0),.d (.int (d A k)),J2,J3,J4,J5,J6]=.ret (.next [.own (ck A n n 0),.d (.int (d A n)),K2,K3,K4,K5,K6])
 | 0,k,J2,J3,J4,J5,J6,e=>⟨J2,J3,J4,J5,J6,by
  have e0:k=n:=by omega
  rw [e0]; rfl⟩
 | m+1,k,J2,J3,J4,J5,J6,e=>by
  obtain ⟨K3,K4,K5,K6,e1⟩:=sv3 h (show k < n by omega) J3 J4 J5 J6
  obtain ⟨L2,L3,L4,L5,L6,e2⟩:=sv4 h m (k+1) (.d (.int k)) K3 K4 K5 K6 (by omega)
  refine ⟨L2,L3,L4,L5,L6,?_⟩
  have er:(aI (k:Int) (m+1)).map PyData.int=.int (k:Int)::(aI ((k+1:Nat):Int) m).map PyData.int:=by
   have e1:aI (k:Int) (m+1)=aI (k:Int) 1++aI ((k:Int)+(1:Nat)) m:=by rw [<- sO,yx]
   have e2:aI (k:Int) 1=[(k:Int)]:=by unfold aI; simp
   have e3:((k+1:Nat):Int)=(k:Int)+(1:Nat):=by omega
   rw [e1,e2,e3]
   rfl
  have eg:aj 2 (.int (k:Int)) [.own (ck A n k 0),.d (.int (d A k)),J2,J3,J4,J5,J6]=some [.own (ck A n k 0),.d (.int (d A k)),.d (.int k),J3,J4,J5,J6]:=rfl
  rw [er,eM,eg,Tr.of_some,Tr.ret_bind,gM,e1,Tr.ret_bind,fv,e2]
theorem Zn8 {A:Nat->Nat->Int} {n:Nat} (h:SvOk A n):o4 [.own ((List.range n).map λi=>.list (((List.range (n+1)).map λj=>A i j).map PyData.int))]=.ret (.d (.tuple [.list (((List.range n).map λi=>M A n i (col A n)).map PyData.int),.int (d A n)])):=by
 have n9:=h.n9
 have e0:((List.range n).map λi=>PyData.list (((List.range (n+1)).map λj=>A i j).map PyData.int))=ck A n 0 0:=by
  unfold ck
  refine w6 λi _=>?_
  rw [if_neg (by omega)]
  unfold cC
  congr 2
  refine w6 λj _=>?_
  rw [Zrp]
  rfl
 obtain ⟨K2,K3,K4,K5,K6,e⟩:=sv4 h n 0 .un .un .un .un .un (by omega)
 rw [p8] at e
 have hl:(ck A n 0 0).length=n:=hI A n 0 0
 have r1:fG [.int (n:Int)]=.ret ((aI ((0:Nat):Int) n).map PyData.int):=by
  rw [iB (eZ (by omega) (by omega))]
  unfold aL
  have:((n:Int) - 0).toNat=n:=by omega
  rw [this]
  rfl
 have hs:small (ck A n n 0).length=true:=cj (by rw [hI]; omega)
 have em:bG (cx (aj 0) md [.un]) (ck A n n 0)=.ret (((List.range n).map λi=>M A n i (col A n)).map PyData.int):=by
  have key:∀ l:List Nat,(∀ i∈l,i < n)->bG (cx (aj 0) md [.un]) (l.map λi=>if i < 0 then cC A n (n+1) i else cC A n n i)=.ret ((l.map λi=>M A n i (col A n)).map PyData.int):=by
   intro l
   induction l with
   | nil=>intro _; rfl
   | cons i l ih =>
    intro hi
    have ih':=ih λq hq=>hi q (v3 _ hq)
    have hix:aV au (cC A n n i) (.int (-1))=.ret (.int (M A n i (col A n))):=by
     unfold cC
     have hl:(((List.range (n+1)).map λj=>M A n i (col A j)).map PyData.int).length=n+1:=by rw [vZ,vZ,wW]
     have ha:bf (((List.range (n+1)).map λj=>M A n i (col A j)).map PyData.int) (-1)=some (.int (M A n i (col A n))):=by
      unfold bf de
      rw [hl,if_neg (by omega),if_pos (by omega)]
      have:(-1+((n+1:Nat):Int)).toNat=n:=by omega
      simp only [Option.bind_some,this]
      rw [v5,v5,wm (by omega)]
      rfl
     rw [m7,ha]
     rfl
    have e1:cx (aj 0) md [.un] (cC A n n i)=.ret (.int (M A n i (col A n))):=by
     simp_arith only [md,hix]
    rw [v9,if_neg (by omega),bG,e1,Tr.ret_bind,ih']
    rfl
  exact key _ λi hi=>wV.mp hi
 rw [e0]
 simp_arith only [o4,hl,r1,e,hs,em]
end My
set_option Elab.async false
set_option linter.all false
set_option maxRecDepth 100000
set_option exponentiation.threshold 9000
namespace My
open L2 Tw Bar
noncomputable def jI (s:Shp) (one:Aa) (y:Int) (j:Nat):Int:=ws (λf=>if (s.nx y f+s.depth).toNat=j then 1 else 0) 0 one
noncomputable def cB (s:Shp) (one:Aa) (x y:Int):Int:=one.sum * s.ord x y+s.wg one y (λ_=>0) 1
noncomputable def cw (s:Shp) (one:Aa) (lv:Nat->Int) (n i j:Nat):Int:=if j=n then cB s one ((i:Int) - s.depth) (lv i) else if j=0 then one.sum else (if i=j then one.sum else 0) - jI s one (lv i) j
noncomputable def bL (n:Nat) (r:Nat->Int):z9:=((List.range n).map r).map PyData.int
theorem kz (n:Nat) (r:Nat->Int):(bL n r).length=n:=by unfold bL; rw [vZ,vZ,wW]
theorem l5 {n:Nat} {r:Nat->Int} {j:Nat} (h:j < n):(bL n r)[j]?=some (.int (r j)):=by
 unfold bL
 rw [v5,v5,wm h]
 rfl
theorem sL {n:Nat} {r:Nat->Int} {j:Nat} (h:j < n) (v:Int):(bL n r).set j (.int v)=bL n λq=>if q=j then v else r q:=by
 refine xK λq=>?_
 rw [List.getElem?_set,kz]
 by_cases e:j=q
 ·subst e
  rw [if_pos rfl,if_pos h,l5 h,if_pos rfl]
 ·rw [if_neg e]
  by_cases hq:q < n
  ·rw [l5 hq,l5 hq,if_neg (by omega)]
  ·rw [wH (by rw [kz]; omega),wH (by rw [kz]; omega)]
theorem sM {n:Nat} {r r':Nat->Int} (h:∀ j,j < n->r j=r' j):bL n r=bL n r':=by
 unfold bL
 congr 1
 exact w6 λj hj=>h j (wV.mp hj)
theorem Zhv {s:Shp} (h:s.Ok) {y:Int} (y1:-s.depth<=y) (y2:y<=s.top) (O X7 X8:Sl) (x:Sl):∀ (l:Aa) (k:Nat) (r:Nat->Int) (J5 J6:Sl),∃ K5 K6:Sl,bV (bA (aJ (aj 5) (aJ (aj 6) bx))) pL (enu k l) [.d s.d,O,x,.d (.int y),.own (bL s.n r),J5,J6,X7,X8]=.ret (.next [.d s.d,O,x,.d (.int y),.own (bL s.n λj=>r j - ws (λf=>if (s.nx y f+s.depth).toNat=j then 1 else 0) k l),K5,K6,X7,X8])
 | [],k,r,J5,J6=>⟨J5,J6,by
  have e:bL s.n (λj=>r j - ws (λf=>if (s.nx y f+s.depth).toNat=j then 1 else 0) k [])=bL s.n r:=sM λj _=>by rw [ws,Int.sub_zero]
  rw [e]
  rfl⟩
 | w::l,k,r,J5,J6=>by
  have n1:=ig s y k
  have n2:=ie h y2 (show (0:Int)<=k by omega)
  have hn:=h.n_eq
  have hj:(s.nx y k+s.depth).toNat < s.n:=by omega
  obtain ⟨K5,K6,e⟩:=Zhv h y1 y2 O X7 X8 x l (k+1) (λj=>if j=(s.nx y k+s.depth).toNat then r (s.nx y k+s.depth).toNat - w else r j) (.d (.int k)) (.d (.int w))
  refine ⟨K5,K6,?_⟩
  have e1:=uG s y k
  have ha:=Zhi (g:=λi j=>i - j) (k:=4) (i:=aa 6) (ρ:=[.d s.d,O,x,.d (.int y),.own (bL s.n r),.d (.int k),.d (.int w),X7,X8]) (xs:=bL s.n r) (y:=s.nx y k+s.depth) (a:=r (s.nx y k+s.depth).toNat) (by omega) (l5 hj)
  have et:pL [.d s.d,O,x,.d (.int y),.own (bL s.n r),.d (.int k),.d (.int w),X7,X8]=.ret (.next [.d s.d,O,x,.d (.int y),.own (bL s.n λj=>if j=(s.nx y k+s.depth).toNat then r (s.nx y k+s.depth).toNat - w else r j),.d (.int k),.d (.int w),X7,X8]):=by
   unfold pL
   rw [Zg3 (xs:=bL s.n r) rfl]
   have en:(ac aX (aD (ay jQ (af (aa 0) (af (aa 3) (af (aa 5) av))))) (ac au (aa 0) (aC (.int 1)))) [.d s.d,O,x,.d (.int y),.own (bL s.n r),.d (.int k),.d (.int w),X7,X8]=.ret (.int (s.nx y k+s.depth)):=by
    simp_arith [e1]
   rw [en,Tr.ret_bind,ha,Zhh]
   have ew:aa 6 [.d s.d,O,x,.d (.int y),.own (bL s.n r),.d (.int k),.d (.int w),X7,X8]=.ret (.int w):=rfl
   rw [ew,Tr.ret_bind,Zhg,sL hj]
   rfl
  have eg:(bA (aJ (aj 5) (aJ (aj 6) bx))) (.tuple [.int (k:Int),.int w]) [.d s.d,O,x,.d (.int y),.own (bL s.n r),J5,J6,X7,X8]=some [.d s.d,O,x,.d (.int y),.own (bL s.n r),.d (.int k),.d (.int w),X7,X8]:=rfl
  have er:(bL s.n λj=>(if j=(s.nx y k+s.depth).toNat then r (s.nx y k+s.depth).toNat - w else r j) - ws (λf=>if (s.nx y f+s.depth).toNat=j then 1 else 0) (k+1) l)=bL s.n λj=>r j - ws (λf=>if (s.nx y f+s.depth).toNat=j then 1 else 0) k (w::l):=sM λj hj=>by
   rw [ws]
   by_cases q:j=(s.nx y k+s.depth).toNat
   ·subst q
    rw [if_pos rfl,if_pos rfl]
    omega
   ·rw [if_neg q,if_neg (λe=>q e.symm)]
    omega
  rw [enu,eM,eg,Tr.of_some,Tr.ret_bind,gM,et,Tr.ret_bind,fv,e,er]
theorem Zol {s:Shp} (h:s.Ok) {one:Aa} (hd:DayB one) {i:Nat} (hi:i < s.n) {lv:Nat->Int} (y0:(i:Int) - s.depth<=lv i) (y2:lv i<=s.top) :
  pz [.d s.d,.d (tI one),.d (.int ((i:Int) - s.depth)),.d (.int (lv i))]=.ret (.d (.list (((List.range (s.n+1)).map λj=>cw s one lv s.n i j).map PyData.int))):=by
 have hn:=h.n_eq
 have t0:=h.t0
 have d0:=h.d0
 have td:=h.td
 have y1:-s.depth<=lv i:=by omega
 have hrep:nk kC (.list [.int 0]) (.int (s.top+s.depth+1))=.ret (bL s.n λ_=>0):=by
  rw [ZkU (by simp; omega)]
  have e1:(s.top+s.depth+1).toNat=s.n:=by omega
  rw [e1]
  unfold bL
  congr 1
  generalize s.n=m
  induction m with
  | zero=>rfl
  | succ m ih=>rw [List.replicate_succ',List.flatten_append,ih,yp,xn,xn]; rfl
 have ei:(i:Int) - s.depth+s.depth=(i:Int):=by omega
 have ea:ka (λi j=>i+j) 4 (ac aX (aa 2) (ac au (aa 0) (aC (.int 1)))) (bi dG (ae (aa 1) ap)) [.d s.d,.d (tI one),.d (.int ((i:Int) - s.depth)),.d (.int (lv i)),.own (bL s.n λ_=>0),.un,.un,.un,.un]=.ret (.next [.d s.d,.d (tI one),.d (.int ((i:Int) - s.depth)),.d (.int (lv i)),.own (bL s.n λj=>if j=i then one.sum else 0),.un,.un,.un,.un]):=by
  rw [Zg3 (xs:=bL s.n λ_=>0) rfl]
  have en:(ac aX (aa 2) (ac au (aa 0) (aC (.int 1)))) [.d s.d,.d (tI one),.d (.int ((i:Int) - s.depth)),.d (.int (lv i)),.own (bL s.n λ_=>0),.un,.un,.un,.un]=.ret (.int (i:Int)):=by
   simp_arith only [ei]
  rw [en,Tr.ret_bind,Zhi (a:=0) (by omega) (by rw [wD]; exact l5 hi),Zhh]
  have ew:(bi dG (ae (aa 1) ap)) [.d s.d,.d (tI one),.d (.int ((i:Int) - s.depth)),.d (.int (lv i)),.own (bL s.n λ_=>0),.un,.un,.un,.un]=.ret (.int one.sum):=by
   simp_arith only [gy]
  rw [ew,Tr.ret_bind,Zhg,wD,sL hi,Int.zero_add]
  rfl
 obtain ⟨K5,K6,eL⟩:=Zhv h y1 y2 (.d (tI one)) .un .un (.d (.int ((i:Int) - s.depth))) one 0 (λj=>if j=i then one.sum else 0) .un .un
 have ee:eN (one.map PyData.int)=enu 0 one:=uD one
 generalize hr:(λj=>(if j=i then one.sum else 0) - ws (λf=>if (s.nx (lv i) f+s.depth).toNat=j then 1 else 0) 0 one)=r at *
 have hx:de (bL s.n r).length 0=some 0:=by
  unfold de
  rw [kz,if_pos (by omega),if_pos (by omega)]
  rfl
 have hmul:aV bo (.list [.int 0]) (.int (s.n:Int))=.ret (lI (s.row λ_=>0)):=by
  have hsm:small ([PyData.int 0].length * (s.n:Int).toNat)=true:=cj (by rw [wD]; show 1 * _<=_; omega)
  have hc:(decide (-(2 ^ 63)<=(s.n:Int)) && decide ((s.n:Int) < 2 ^ 63) && small ([PyData.int 0].length * (s.n:Int).toNat))=true:=by
   rw [hsm,decide_eq_true (show -(2 ^ 63)<=(s.n:Int) by omega),decide_eq_true (show (s.n:Int) < 2 ^ 63 by omega)]
   rfl
  have ef:(List.replicate s.n [PyData.int 0]).flatten=(s.row λ_=>0).map PyData.int:=by
   unfold Shp.row aI
   rw [ww,ww]
   generalize s.n=m
   induction m with
   | zero=>rfl
   | succ m ih=>rw [List.replicate_succ',List.flatten_append,ih,yp,xn]; rfl
  have em:bo (.list [.int 0]) (.int (s.n:Int))=some (lI (s.row λ_=>0)):=by
   rw [bo,if_pos hc,wD,ef]
   rfl
  unfold aV
  rw [em]
  rfl
 have hz:Bd s 1 λ_=>0:=λx _ _=>by show (0:Int).natAbs < 2 ^ 1; decide
 have ew:=pY h hd y1 y2 (hz) (sc:=1) (b:=1) (by show (1:Int).natAbs < 2 ^ 1; decide) (by decide)
 have eo:=uF h (f9 h (show -s.depth<=(i:Int) - s.depth by omega) (by omega)) (f9 h y1 y2)
 have g1:=aK (dN hd) (by decide)
 have g2:=aK (oJ h (f9 h (show -s.depth<=(i:Int) - s.depth by omega) (by omega)) (f9 h y1 y2)) (by decide)
 have hl4:∀ q:Nat->Int,(bL s.n q).length=s.n:=kz s.n
 have hset:(bL s.n r).set 0 (.int one.sum)=bL s.n λq=>if q=0 then one.sum else r q:=sL (by omega) _
 have hs:small ((bL s.n λq=>if q=0 then one.sum else r q).length+[PyData.int (cB s one ((i:Int) - s.depth) (lv i))].length)=true:=cj (by rw [kz]; show _+1<=_; omega)
 have hfin:(bL s.n λq=>if q=0 then one.sum else r q)++[PyData.int (cB s one ((i:Int) - s.depth) (lv i))]=((List.range (s.n+1)).map λj=>cw s one lv s.n i j).map PyData.int:=by
  rw [yp,xn,xn]
  have e1:(bL s.n λq=>if q=0 then one.sum else r q)=((List.range s.n).map λj=>cw s one lv s.n i j).map PyData.int:=sM λj hj=>by
   unfold cw
   rw [if_neg (show ¬ j=s.n by omega)]
   by_cases e:j=0
   ·rw [if_pos e,if_pos e]
   ·rw [if_neg e,if_neg e,<- hr]
    unfold jI
    dsimp only
    by_cases e2:j=i
    ·rw [if_pos e2,if_pos e2.symm]
    ·rw [if_neg e2,if_neg (λq=>e2 q.symm)]
  have e2:([s.n].map λj=>cw s one lv s.n i j).map PyData.int=[PyData.int (cB s one ((i:Int) - s.depth) (lv i))]:=by
   unfold cw
   simp
  rw [e1,e2]
 have hadd:aV aX (.list (bL s.n λq=>if q=0 then one.sum else r q)) (.list [PyData.int (cB s one ((i:Int) - s.depth) (lv i))])=.ret (.list (((List.range (s.n+1)).map λj=>cw s one lv s.n i j).map PyData.int)):=by rw [ld hs,hfin]
 unfold cB at hadd
 simp_arith only [pz,hrep,ea,uf,ee,eL,gy,uz hx,hset,hl4,hmul,eo,ew,g1,g2,hadd]
end My
set_option Elab.async false
set_option linter.all false
set_option maxRecDepth 100000
set_option exponentiation.threshold 9000
namespace My
open L2 Tw Bar
theorem nR {f:Int->Int}:∀ {l:Aa} {k:Nat},(∀ w∈l,0<=w)->(∀ x:Int,0<=f x)->0<=ws f k l
 | [],k,_,_=>by rw [ws]; exact wK _
 | w::l,k,h0,hf=>by
  have a:=nR (f:=f) (l:=l) (k:=k+1) (λv hv=>h0 v (v3 _ hv)) hf
  have b:=xm (h0 w (by simp)) (hf k)
  rw [ws]
  omega
theorem re {f:Int->Int}:∀ {l:Aa} {k:Nat},(∀ w∈l,0<=w)->(∀ x:Int,0<=f x)->∀ {x:Int},x∈fh k l->0 < f x->0 < ws f k l
 | [],k,_,_,x,hx,_=>by cases hx
 | w::l,k,h0,hf,x,hx,hp=>by
  have h0':∀ v∈l,0<=v:=λv hv=>h0 v (v3 _ hv)
  have a:=nR (f:=f) (l:=l) (k:=k+1) h0' hf
  have b:=xm (h0 w (by simp)) (hf k)
  rw [ws]
  rw [fh] at hx
  by_cases hw:w > 0
  ·rw [if_pos hw] at hx
   rcases wo.mp hx with rfl | hx
   ·have:=xb hw hp
    omega
   ·have:=re h0' hf hx hp
    omega
  ·rw [if_neg hw] at hx
   have:=re h0' hf hx hp
   omega
theorem ZjW {g:Nat} {n:Nat} (h:g < n) (w:Int):Bar.aw (λj=>w * (if g=j then 1 else 0)) n=w:=by
 have key:∀ m:Nat,Bar.aw (λj=>w * (if g=j then 1 else 0)) m=if g < m then w else 0:=by
  intro m
  induction m with
  | zero=>rfl
  | succ m ih =>
   rw [Bar.aw,ih]
   by_cases e:g=m
   ·subst e
    rw [if_neg (by omega),if_pos rfl,if_pos (by omega)]
    omega
   ·rw [if_neg e]
    by_cases e2:g < m
    ·rw [if_pos e2,if_pos (by omega)]
     omega
    ·rw [if_neg e2,if_neg (by omega)]
     omega
 rw [key,if_pos h]
theorem rL (f g:Nat->Int):∀ n:Nat,Bar.aw (λj=>f j+g j) n=Bar.aw f n+Bar.aw g n
 | 0=>rfl
 | n+1=>by rw [Bar.aw,Bar.aw,Bar.aw,rL f g n]; omega
theorem ZaP {n:Nat} {ix:Int->Nat} (h:∀ x:Int,0<=x->ix x < n):∀ (l:Aa) (k:Nat),Bar.aw (λj=>ws (λf=>if ix f=j then 1 else 0) k l) n=l.sum
 | [],k=>by
  rw [lN λj _=>by rw [ws]]
  rfl
 | w::l,k=>by
  have ih:=ZaP h l (k+1)
  have e:(λj=>ws (λf=>if ix f=j then 1 else 0) k (w::l))=λj=>w * (if ix (k:Int)=j then 1 else 0)+ws (λf=>if ix f=j then 1 else 0) (k+1) l:=funext λj=>by rw [ws]
  rw [e,rL,ZjW (h k (by omega)),ih,xA]
structure RuOk (s:Shp) (one:Aa) (lv:Nat->Int):Prop where
 h:s.Ok
 n9:s.n<=9
 hd:DayB one
 gr:s.top+s.depth<=great one
 ps:∃ w∈one,w > 0
 lo:∀ i,i < s.n->(i:Int) - s.depth<=lv i
 hi:∀ i,i < s.n->lv i<=s.top
theorem ml {s:Shp} {one:Aa} {lv:Nat->Int} (r:RuOk s one lv):Pol s.n (cw s one lv s.n) (λi j=>jI s one (lv i) j) one.sum:=by
 have h:=r.h
 have hn:=h.n_eq
 have t0:=h.t0
 have d0:=h.d0
 refine ⟨r.hd.pos,λi hi=>?_,λi j hi j1 j2=>?_,λi j _ _=>?_,λi hi=>?_,λi hi=>?_⟩
 ·unfold cw
  rw [if_neg (by omega),if_pos rfl]
 ·unfold cw
  rw [if_neg (by omega),if_neg (by omega)]
 ·exact nR r.hd.w0 λx=>by split <;> omega
 ·have y2:=r.hi i hi
  have y1:=r.lo i hi
  have hg:=(oY (rP (k:=0) r.ps)).1
  refine re r.hd.w0 (λx=>by split <;> omega) (x:=great one) hg ?_
  have gr:=r.gr
  have en:s.nx (lv i) (great one)=-s.depth:=by unfold Shp.nx cf; split <;> omega
  rw [en,if_pos (by omega)]
  decide
 ·exact ZaP (ix:=λf=>(s.nx (lv i) f+s.depth).toNat) (λx hx=>by
   have n1:=ig s (lv i) x
   have n2:=ie h (r.hi i hi) hx
   omega) one 0
theorem Zqb {s:Shp} {one:Aa} {lv:Nat->Int} (r:RuOk s one lv) {i:Nat} (hi:i < s.n):nb 160 (cB s one ((i:Int) - s.depth) (lv i)):=by
 have h:=r.h
 have hn:=h.n_eq
 have t0:=h.t0
 have d0:=h.d0
 have y2:=r.hi i hi
 have y1:=r.lo i hi
 have a1:=bF (dN r.hd) (oJ h (f9 h (show -s.depth<=(i:Int) - s.depth by omega) (show (i:Int) - s.depth<=s.top by omega)) (f9 h (show -s.depth<=lv i by omega) y2))
 have a2:nb (30+110+one.length) (s.wg one (lv i) (λ_=>0) 1):=by
  unfold Shp.wg
  refine Zaf (a:=30) (b:=110) r.hd.nb λx x1 x2=>?_
  have hl:=r.hd.len
  have:=lh h (f9 h (show -s.depth<=lv i by omega) y2) (show nb 40 x from bM (by show -1099511627776 < _; omega) (by show _ < 1099511627776; omega))
  rw [zt,yX]
  exact aP this (by decide)
 unfold cB
 exact aP (dQ a1 a2) (by have:=r.hd.len; omega)
theorem lf {s:Shp} {one:Aa} {lv:Nat->Int} (r:RuOk s one lv) {i j:Nat} (hi:i < s.n):nb 160 (cw s one lv s.n i j):=by
 unfold cw
 split
 ·exact Zqb r hi
 ·split
  ·exact aP (dN r.hd) (by decide)
  ·have h1:nb 46 (if i=j then one.sum else 0):=by
    split
    ·exact dN r.hd
    ·exact kN _
   have h2:nb (30+1+one.length) (jI s one (lv i) j):=Zag (a:=30) (b:=1) (λx _=>by
    split
    ·show (1:Int).natAbs < 2 ^ 1; decide
    ·exact kN _) r.hd.nb
   exact aP (eJ h1 h2) (by have:=r.hd.len; omega)
theorem ZjS {s:Shp} {one:Aa} {lv:Nat->Int} (r:RuOk s one lv):SvOk (cw s one lv s.n) s.n:=by
 have p:=ml r
 refine ⟨r.n9,λj hj=>leads p j hj,λk i j hk hi hj=>?_,λj hj=>?_⟩
 ·exact aP (ZiN (b:=160) r.n9 (λi j hi _=>lf r hi) hk hi λq hq=>lf r hq) (by decide)
 ·exact aP (qa (b:=160) r.n9 (λi j hi _=>lf r hi) hj) (by decide)
end My
set_option Elab.async false
set_option linter.all false
set_option maxRecDepth 100000
set_option exponentiation.threshold 9000
namespace My
open L2 Tw Bar
noncomputable def zB (s:Shp) (one:Aa) (lv:Nat->Int) (i:Nat):Int:=M (cw s one lv s.n) s.n i (col (cw s one lv s.n) s.n)
noncomputable def aZ (s:Shp) (one:Aa) (lv:Nat->Int):Int:=d (cw s one lv s.n) s.n
noncomputable def wB (s:Shp) (one:Aa) (lv:Nat->Int) (x:Int):Int:=if x=-s.depth then 0 else zB s one lv (x+s.depth).toNat
theorem Zpp (xs:z9):L2.cV xs (some 1) none=xs.drop 1:=by
 unfold L2.cV
 have e1:(1:Int)=((1:Nat):Int):=rfl
 rw [e1,HT.ky,HT.sG]
 cases xs with
 | nil=>rfl
 | cons x xs =>
  rw [xt (by simp),yR (by rw [xf]; exact v4 _)]
theorem ZiZ {s:Shp} (h:s.Ok) (one:Aa) (lv:Nat->Int):PyData.int 0::(((List.range s.n).map (zB s one lv)).map PyData.int).drop 1=(s.row (wB s one lv)).map PyData.int:=by
 have hn:=h.n_eq
 have t0:=h.t0
 have d0:=h.d0
 unfold Shp.row aI
 rw [ww,ww,ww]
 refine xK λq=>?_
 rw [v5]
 cases q with
 | zero =>
  rw [wm (by omega)]
  show some (PyData.int 0)=some (PyData.int (wB s one lv (-s.depth+((0:Nat):Int))))
  unfold wB
  rw [if_pos (by omega)]
 | succ q =>
  rw [yJ,List.getElem?_drop,v5,yx 1 q]
  by_cases hq:q+1 < s.n
  ·rw [wm hq]
   show some (PyData.int (zB s one lv (q+1)))=some (PyData.int (wB s one lv (-s.depth+((q+1:Nat):Int))))
   unfold wB
   have e:(-s.depth+((q+1:Nat):Int)+s.depth).toNat=q+1:=by omega
   rw [if_neg (by omega),e]
  ·rw [wH (by rw [wW]; omega)]
   rfl
theorem Zmu {s:Shp} {one:Aa} {lv:Nat->Int} (r:RuOk s one lv):bG (cx (bA (aJ (aj 0) (aJ (aj 1) bx))) mf [.un,.un,.d s.d,.d (tI one)]) (b7 (aL (-s.depth) (s.top+1)) (((List.range s.n).map lv).map PyData.int))=.ret ((List.range s.n).map λi=>.list (((List.range (s.n+1)).map λj=>cw s one lv s.n i j).map PyData.int)):=by
 have h:=r.h
 have hn:=h.n_eq
 have e1:b7 (aL (-s.depth) (s.top+1)) (((List.range s.n).map lv).map PyData.int)=(List.range s.n).map λi:Nat=>PyData.tuple [.int ((i:Int) - s.depth),.int (lv i)]:=by
  unfold aL aI b7
  have e:(s.top+1 - -s.depth).toNat=s.n:=rfl
  rw [e,ww,ww]
  have key:∀ l:List Nat,((l.map (PyData.int ∘ λk:Nat=>-s.depth+(k:Int))).zip (l.map (PyData.int ∘ lv))).map (λp=>PyData.tuple [p.1,p.2])=l.map λi:Nat=>PyData.tuple [.int ((i:Int) - s.depth),.int (lv i)]:=by
   intro l
   induction l with
   | nil=>rfl
   | cons i l ih =>
    rw [v9,v9,x9,v9,v9,ih]
    have:-s.depth+(i:Int)=(i:Int) - s.depth:=by omega
    simp only [y8,this]
  exact key _
 rw [e1]
 have key:∀ l:List Nat,(∀ i∈l,i < s.n)->bG (cx (bA (aJ (aj 0) (aJ (aj 1) bx))) mf [.un,.un,.d s.d,.d (tI one)]) (l.map λi:Nat=>PyData.tuple [.int ((i:Int) - s.depth),.int (lv i)])=.ret (l.map λi=>.list (((List.range (s.n+1)).map λj=>cw s one lv s.n i j).map PyData.int)):=by
  intro l
  induction l with
  | nil=>intro _; rfl
  | cons i l ih =>
   intro hl
   have hi:=hl i (by simp)
   have e:=Zol h r.hd hi (r.lo i hi) (r.hi i hi)
   have e0:cx (bA (aJ (aj 0) (aJ (aj 1) bx))) mf [.un,.un,.d s.d,.d (tI one)] (.tuple [.int ((i:Int) - s.depth),.int (lv i)])=.ret (.list (((List.range (s.n+1)).map λj=>cw s one lv s.n i j).map PyData.int)):=by
    simp_arith [mf,e]
   rw [v9,bG,e0,Tr.ret_bind,ih λq hq=>hl q (v3 _ hq)]
   rfl
 exact key _ λi hi=>wV.mp hi
theorem Zod {s:Shp} {one:Aa} {lv:Nat->Int} (r:RuOk s one lv):mF [.d s.d,.d (tI one),.d (lI ((List.range s.n).map lv))]=.ret (.d (.tuple [.int (zB s one lv 0),lI (s.row (wB s one lv)),.int (aZ s one lv)])):=by
 have h:=r.h
 have hn:=h.n_eq
 have t0:=h.t0
 have d0:=h.d0
 have n9:=r.n9
 have e1:=jh h
 have em:=Zmu r
 have es:=Zn8 (ZjS r)
 have it:∀ xs,dC (.tuple xs)=.ret xs:=λ_=>rfl
 have hs:small (b7 (aL (-s.depth) (s.top+1)) (((List.range s.n).map lv).map PyData.int)).length=true:=cj (by
  unfold b7
  rw [vZ,yr,cM]
  omega)
 have ew:=ZiZ h one lv
 have ez:((List.range s.n).map λi=>M (cw s one lv s.n) s.n i (col (cw s one lv s.n) s.n)).map PyData.int=((List.range s.n).map (zB s one lv)).map PyData.int:=rfl
 rw [ez] at es
 have a0:aV au (.list (((List.range s.n).map (zB s one lv)).map PyData.int)) (.int 0)=.ret (.int (zB s one lv 0)):=by
  rw [m7,dl (v:=.int (zB s one lv 0)) (by decide) (by rw [v5,v5]; show Option.map _ (Option.map _ ((List.range s.n)[0]?))=_; rw [wm (by omega)]; rfl)]
  rfl
 have a1:lQ (.list (((List.range s.n).map (zB s one lv)).map PyData.int)) (some 1) none=.ret (.list ((((List.range s.n).map (zB s one lv)).map PyData.int).drop 1)):=by
  rw [uy,Zpp]
 have a2:aV aX (.list [.int 0]) (.list ((((List.range s.n).map (zB s one lv)).map PyData.int).drop 1))=.ret (lI (s.row (wB s one lv))):=by
  rw [ld (cj (by rw [xf,vZ,vZ,wW]; show 1+_<=_; omega))]
  show Tr.ret (PyData.list (PyData.int 0::(((List.range s.n).map (zB s one lv)).map PyData.int).drop 1))=_
  rw [ew]
  rfl
 have ed:d (cw s one lv s.n) s.n=aZ s one lv:=rfl
 rw [ed] at es
 generalize ((List.range s.n).map (zB s one lv)).map PyData.int=zs at *
 simp_arith only [mF,Zn0,Zn1,e1,it,ZdS,hs,em,es,a0,a1,a2]
end My
set_option Elab.async false
set_option linter.all false
set_option maxRecDepth 100000
set_option exponentiation.threshold 9000
namespace My
open L2 Tw Bar
theorem ZjV {g n:Nat} (h:g < n) (w:Int) (v:Nat->Int):Bar.aw (λj=>w * (if g=j then 1 else 0) * v j) n=w * v g:=by
 have key:∀ m:Nat,Bar.aw (λj=>w * (if g=j then 1 else 0) * v j) m=if g < m then w * v g else 0:=by
  intro m
  induction m with
  | zero=>rfl
  | succ m ih =>
   rw [Bar.aw,ih]
   by_cases e:g=m
   ·subst e
    rw [if_neg (by omega),if_pos rfl,if_pos (by omega),yL]
    omega
   ·rw [if_neg e]
    by_cases e2:g < m
    ·rw [if_pos e2,if_pos (by omega)]
     simp
    ·rw [if_neg e2,if_neg (by omega)]
     simp
 rw [key,if_pos h]
theorem ZaK {n:Nat} {ix:Int->Nat} (h:∀ x:Int,0<=x->ix x < n) (v:Nat->Int):∀ (l:Aa) (k:Nat),Bar.aw (λj=>ws (λf=>if ix f=j then 1 else 0) k l * v j) n=ws (λf=>v (ix f)) k l
 | [],k=>by
  rw [lN λj _=>by rw [ws,Int.zero_mul]]
  rfl
 | w::l,k=>by
  have ih:=ZaK h v l (k+1)
  have e:(λj=>ws (λf=>if ix f=j then 1 else 0) k (w::l) * v j)=λj=>w * (if ix (k:Int)=j then 1 else 0) * v j+ws (λf=>if ix f=j then 1 else 0) (k+1) l * v j:=funext λj=>by rw [ws,Int.add_mul]
  rw [e,rL,ZjV (h k (by omega)),ih]
  rfl
noncomputable def vB (s:Shp) (one:Aa) (A:Int->Int) (D x y:Int):Int:=D * one.sum * s.ord x y+s.wg one y A D
theorem Zae (f g:Int->Int) (D:Int):∀ (l:Aa) (k:Nat),ws (λx=>D * f x+g x) k l=D * ws (λx=>1 * f x+0) k l+ws g k l
 | [],k=>by simp [ws]
 | w::l,k=>by
  rw [ws,ws,ws,Zae f g D l (k+1)]
  grind
theorem sJ {s:Shp} {one:Aa} {lv:Nat->Int} (r:RuOk s one lv) (z:Nat->Int) (A:Int->Int) (hA:∀ x,-s.depth<=x->x<=s.top->A x=if (x+s.depth).toNat=0 then 0 else z (x+s.depth).toNat) (D:Int) {i:Nat} (hi:i < s.n) :
  Bar.aw (λl=>cw s one lv s.n i l * z l) s.n=one.sum * z 0+one.sum * A ((i:Int) - s.depth) - (vB s one A D ((i:Int) - s.depth) (lv i) - D * cB s one ((i:Int) - s.depth) (lv i)):=by
 have h:=r.h
 have hn:=h.n_eq
 have t0:=h.t0
 have d0:=h.d0
 obtain ⟨m,hm⟩:∃ m,s.n=m+1:=⟨s.n - 1,by omega⟩
 have e1:=gz (ml r) z hi (m:=m) (by omega)
 rw [<- hm] at e1
 rw [e1]
 have e2:(λl=>jI s one (lv i) l * (if l=0 then 0 else z l))=λl=>ws (λf=>if (s.nx (lv i) f+s.depth).toNat=l then 1 else 0) 0 one * (λl=>if l=0 then 0 else z l) l:=rfl
 rw [e2,ZaK (ix:=λf=>(s.nx (lv i) f+s.depth).toNat) (λx hx=>by
   have n1:=ig s (lv i) x
   have n2:=ie h (r.hi i hi) hx
   omega)]
 have e3:ws (λf=>(λl=>if l=0 then 0 else z l) (s.nx (lv i) f+s.depth).toNat) 0 one=ws (λf=>A (s.nx (lv i) f)) 0 one:=nQ λf hf=>by
  have n1:=ig s (lv i) f
  have n2:=ie h (r.hi i hi) hf
  rw [hA _ n1 n2]
 rw [e3]
 have e4:A ((i:Int) - s.depth)=if i=0 then 0 else z i:=by
  rw [hA _ (by omega) (by omega)]
  have:((i:Int) - s.depth+s.depth).toNat=i:=by omega
  rw [this]
 have e5:(if 1<=i/\i<=m then one.sum * z i else 0)=one.sum * A ((i:Int) - s.depth):=by
  rw [e4]
  by_cases e:i=0
  ·rw [if_neg (by omega),if_pos e,x6]
  ·rw [if_pos (by omega),if_neg e]
 rw [e5]
 have e6:s.wg one (lv i) A D=D * s.wg one (lv i) (λ_=>0) 1+ws (λf=>A (s.nx (lv i) f)) 0 one:=Zae (λf=>s.day (lv i) f) (λf=>A (s.nx (lv i) f)) D one 0
 unfold vB cB
 rw [e6]
 grind
theorem nZ {s:Shp} {one:Aa} {A:Int->Int} {D x y:Int} (h:x<=y):vB s one A D x y=ji (s.sm one A D) (D * one.sum * s.start) x y - D * one.sum * s.piece * x:=by
 unfold vB ji Shp.sm Shp.ord
 by_cases e:x < y
 ·rw [if_pos e,if_neg (by omega)]
  grind
 ·have:y=x:=by omega
  subst this
  rw [if_neg e,if_pos (by omega)]
  grind
end My
set_option Elab.async false
set_option linter.all false
set_option maxRecDepth 100000
set_option exponentiation.threshold 9000
namespace My
open L2 Tw Bar
noncomputable def gB (s:Shp) (one:Aa) (lv:Nat->Int):Int->Int:=s.sm one (wB s one lv) (aZ s one lv)
noncomputable def kB (s:Shp) (one:Aa) (lv:Nat->Int):Int:=aZ s one lv * one.sum * s.start
noncomputable def bz (s:Shp) (one:Aa) (lv:Nat->Int) (i:Nat):Int:=if i < s.n then lvl (gB s one lv) s.top (kB s one lv) ((i:Int) - s.depth) else 0
theorem kK {s:Shp} {one:Aa} {lv:Nat->Int} {i:Nat} (hi:i < s.n):bz s one lv i=(pck (gB s one lv) s.top (kB s one lv) ((i:Int) - s.depth)).2:=if_pos hi
theorem ga {s:Shp} {one:Aa} {lv:Nat->Int} (r:RuOk s one lv):0 < aZ s one lv:=leads (ml r) s.n (v4 _)
theorem jL {s:Shp} {one:Aa} {lv:Nat->Int} (r:RuOk s one lv):RuOk s one (bz s one lv):=by
 have hn:=r.h.n_eq
 refine ⟨r.h,r.n9,r.hd,r.gr,r.ps,λi hi=>?_,λi hi=>?_⟩
 ·rw [kK hi]
  exact (tD (g:=gB s one lv) (top:=s.top) (K:=kB s one lv) (x:=(i:Int) - s.depth) (by omega)).1
 ·rw [kK hi]
  exact (tD (g:=gB s one lv) (top:=s.top) (K:=kB s one lv) (x:=(i:Int) - s.depth) (by omega)).2.1
theorem oH {s:Shp} {one:Aa} {lv:Nat->Int} (r:RuOk s one lv) {i:Nat} (hi:i < s.n):Bar.aw (λl=>cw s one lv s.n i l * zB s one lv l) s.n=aZ s one lv * cB s one ((i:Int) - s.depth) (lv i):=by
 have:=Zrs (cw s one lv s.n) hi (col (cw s one lv s.n) s.n)
 have e:col (cw s one lv s.n) s.n i=cB s one ((i:Int) - s.depth) (lv i):=by
  unfold col cw
  rw [if_pos rfl]
 rw [e] at this
 exact this
theorem lF {s:Shp} (one:Aa) (lv:Nat->Int) (x:Int) (x1:-s.depth<=x) (x2:x<=s.top):wB s one lv x=if (x+s.depth).toNat=0 then 0 else zB s one lv (x+s.depth).toNat:=by
 unfold wB
 by_cases e:x=-s.depth
 ·rw [if_pos e,if_pos (by omega)]
 ·rw [if_neg e,if_neg (by omega)]
noncomputable def gZ (s:Shp) (one:Aa) (lv:Nat->Int) (i:Nat):Int:=ji (gB s one lv) (kB s one lv) ((i:Int) - s.depth) (lv i) - (pck (gB s one lv) s.top (kB s one lv) ((i:Int) - s.depth)).1
theorem ZaR {s:Shp} {one:Aa} {lv:Nat->Int} (r:RuOk s one lv) {i:Nat} (hi:i < s.n):0<=gZ s one lv i:=by
 have hn:=r.h.n_eq
 obtain ⟨p1,p2⟩:=ZcO (g:=gB s one lv) (top:=s.top) (K:=kB s one lv) (x:=(i:Int) - s.depth) (by omega)
 have y1:=r.lo i hi
 have y2:=r.hi i hi
 unfold gZ ji
 split
 ·have:=p2 (lv i) (by omega) y2
  omega
 ·have:lv i=(i:Int) - s.depth:=by omega
  rw [this]
  omega
theorem ZhX {s:Shp} {one:Aa} {lv:Nat->Int} (r:RuOk s one lv) {i:Nat} (hi:i < s.n):ji (gB s one lv) (kB s one lv) ((i:Int) - s.depth) (bz s one lv i)=(pck (gB s one lv) s.top (kB s one lv) ((i:Int) - s.depth)).1:=by
 have hn:=r.h.n_eq
 obtain ⟨q1,q2,q3⟩:=tD (g:=gB s one lv) (top:=s.top) (K:=kB s one lv) (x:=(i:Int) - s.depth) (by omega)
 rw [kK hi]
 unfold ji
 rcases q3 with ⟨e1,e2⟩ | ⟨e1,e2,e3⟩
 ·rw [e1,if_neg (by omega),e2]
 ·rw [if_pos e1,e2]
theorem ZcW {s:Shp} {one:Aa} {lv:Nat->Int} (r:RuOk s one lv) {i:Nat} (hi:i < s.n):Bar.aw (λl=>cw s one (bz s one lv) s.n i l * zB s one lv l) s.n=aZ s one lv * cB s one ((i:Int) - s.depth) (bz s one lv i)+gZ s one lv i:=by
 have hn:=r.h.n_eq
 have r':=jL r
 have a1:=sJ r (zB s one lv) (wB s one lv) (lF one lv) (aZ s one lv) hi
 have a2:=sJ r' (zB s one lv) (wB s one lv) (lF one lv) (aZ s one lv) hi
 rw [oH r hi] at a1
 rw [a2]
 have v1:=nZ (s:=s) (one:=one) (A:=wB s one lv) (D:=aZ s one lv) (r.lo i hi)
 have v2:=nZ (s:=s) (one:=one) (A:=wB s one lv) (D:=aZ s one lv) (r'.lo i hi)
 have c2:=ZhX r hi
 unfold gZ
 unfold gB kB at *
 omega
theorem Zqe {s:Shp} {one:Aa} {lv:Nat->Int} (r:RuOk s one lv) (hs:∃ i,i < s.n/\0 < gZ s one lv i):Bet s.n (zB s one lv) (aZ s one lv) (zB s one (bz s one lv)) (aZ s one (bz s one lv)):=by
 have hn:=r.h.n_eq
 have t0:=r.h.t0
 have d0:=r.h.d0
 exact better (ml (jL r)) (by omega) (ga r) (ga (jL r)) (b:=λi=>cB s one ((i:Int) - s.depth) (bz s one lv i)) (λi hi=>oH (jL r) hi) (λi hi=>ZaR r hi) (λi hi=>ZcW r hi) hs
theorem Zjk {s:Shp} {one:Aa} {lv:Nat->Int} (r:RuOk s one lv) (hs:∀ i,i < s.n->gZ s one lv i=0):∀ l,l < s.n->aZ s one lv * zB s one (bz s one lv) l=aZ s one (bz s one lv) * zB s one lv l:=by
 intro l hl
 have r':=jL r
 have:=sole (cw s one (bz s one lv) s.n) (k:=s.n) (λj hj=>xB (leads (ml r') j hj)) (z:=λl=>aZ s one lv * zB s one (bz s one lv) l - aZ s one (bz s one lv) * zB s one lv l) (λi hi=>by
  rw [gY,oH r' hi,ZcW r hi,hs i hi]
  grind) l hl
 have e:aZ s one lv * zB s one (bz s one lv) l - aZ s one (bz s one lv) * zB s one lv l=0:=this
 omega
theorem Zjl {s:Shp} {one:Aa} {lv:Nat->Int} (r:RuOk s one lv) (hs:∀ i,i < s.n->gZ s one lv i=0):∀ i,i < s.n->bz s one (bz s one lv) i=bz s one lv i:=by
 intro i hi
 have h:=r.h
 have hn:=h.n_eq
 have t:=Zjk r hs
 have p1:=ga r
 have p2:=ga (jL r)
 generalize hD:aZ s one lv=D at *
 generalize hD':aZ s one (bz s one lv)=D' at *
 have hw:∀ x,-s.depth<=x->x<=s.top->D * wB s one (bz s one lv) x=D' * wB s one lv x:=λx x1 x2=>by
  rw [lF one _ x x1 x2,lF one _ x x1 x2]
  split
  ·omega
  ·exact t _ (by omega)
 have hg:∀ y,-s.depth<=y->y<=s.top->D * gB s one (bz s one lv) y=D' * gB s one lv y:=λy y1 y2=>by
  unfold gB Shp.sm
  rw [hD,hD']
  have e1:D * s.wg one y (wB s one (bz s one lv)) D'=D' * s.wg one y (wB s one lv) D:=by
   unfold Shp.wg
   rw [<- lD,<- lD]
   refine nQ λf hf=>?_
   have n1:=ig s y f
   have n2:=ie h y2 hf
   have:=hw _ n1 n2
   grind
  have e2:D * (D' * one.sum * s.piece * y+s.wg one y (wB s one (bz s one lv)) D')=D * (D' * one.sum * s.piece * y)+D * s.wg one y (wB s one (bz s one lv)) D':=by rw [xZ]
  have e3:D' * (D * one.sum * s.piece * y+s.wg one y (wB s one lv) D)=D' * (D * one.sum * s.piece * y)+D' * s.wg one y (wB s one lv) D:=by rw [xZ]
  rw [e2,e3,e1]
  grind
 have hk:D * kB s one (bz s one lv)=D' * kB s one lv:=by
  unfold kB
  rw [hD,hD']
  grind
 have m1:=ZcN (g:=gB s one (bz s one lv)) (top:=s.top) (K:=kB s one (bz s one lv)) (m:=D) (x:=(i:Int) - s.depth) p1 (by omega)
 have m2:=ZcN (g:=gB s one lv) (top:=s.top) (K:=kB s one lv) (m:=D') (x:=(i:Int) - s.depth) p2 (by omega)
 have m3:pck (λy=>D * gB s one (bz s one lv) y) s.top (D * kB s one (bz s one lv)) ((i:Int) - s.depth)=pck (λy=>D' * gB s one lv y) s.top (D' * kB s one lv) ((i:Int) - s.depth):=by
  rw [hk]
  exact ZlT (λy y1 y2=>hg y (by omega) y2) (by omega)
 rw [m1,m2] at m3
 have:=congrArg Prod.snd m3
 rw [kK hi,kK hi]
 exact this
end My
set_option Elab.async false
set_option linter.all false
set_option maxRecDepth 100000
set_option exponentiation.threshold 9000
namespace My
open L2 Tw Bar
noncomputable def offs:Nat->List (List Nat)
 | 0=>[[]]
 | m+1=>(List.range (m+1)).flatMap λc=>(offs m).map (c::·)
theorem Zmb {m:Nat} {f:Nat->Nat}:∀ {k:Nat},(∀ j,j < m->f (k+j) < m - j)->(List.range m).map (λj=>f (k+j))∈offs m:=by
 induction m with
 | zero=>intro k _; simp [offs]
 | succ m ih =>
  intro k h
  have h1:=ih (k:=k+1) λj hj=>by
   have:=h (j+1) (by omega)
   have e:k+(j+1)=k+1+j:=by omega
   rw [e] at this
   omega
  have e:(List.range (m+1)).map (λj=>f (k+j))=f k::(List.range m).map λj=>f (k+1+j):=by
   rw [List.range_succ_eq_map,v9,ww]
   refine congrArg _ (w6 λj _=>?_)
   show f (k+(j+1))=f (k+1+j)
   congr 1
   omega
  rw [e,offs]
  exact List.mem_flatMap.mpr ⟨f k,wV.mpr (by have:=h 0 (by omega); simpa using this),wP.mpr ⟨_,h1,rfl⟩⟩
theorem iZ:∀ m:Nat,(offs (m+1)).length=(m+1) * (offs m).length:=λm=>by
 rw [offs,List.length_flatMap]
 have e:(List.range (m+1)).map (λa=>((offs m).map (a::·)).length)=List.replicate (m+1) (offs m).length:=by
  rw [List.eq_replicate_iff]
  refine ⟨by rw [vZ,wW],λb hb=>?_⟩
  obtain ⟨c,_,rfl⟩:=wP.mp hb
  exact vZ ..
 rw [e]
 simp
theorem Zmc {m:Nat} (h:m<=8):(offs m).length<=40320:=by
 have e0:(offs 0).length=1:=rfl
 have e1:(offs 1).length=1 * (offs 0).length:=iZ 0
 have e2:(offs 2).length=2 * (offs 1).length:=iZ 1
 have e3:(offs 3).length=3 * (offs 2).length:=iZ 2
 have e4:(offs 4).length=4 * (offs 3).length:=iZ 3
 have e5:(offs 5).length=5 * (offs 4).length:=iZ 4
 have e6:(offs 6).length=6 * (offs 5).length:=iZ 5
 have e7:(offs 7).length=7 * (offs 6).length:=iZ 6
 have e8:(offs 8).length=8 * (offs 7).length:=iZ 7
 have:m=0\/m=1\/m=2\/m=3\/m=4\/m=5\/m=6\/m=7\/m=8:=by omega
 rcases this with rfl | rfl | rfl | rfl | rfl | rfl | rfl | rfl | rfl <;> omega
noncomputable def bU (s:Shp) (one:Aa) (lv:Nat->Int):Nat->Nat->Int
 | 0=>lv
 | t+1=>bz s one (bU s one lv t)
theorem fO {s:Shp} {one:Aa} {lv:Nat->Int} (r:RuOk s one lv):∀ t,RuOk s one (bU s one lv t)
 | 0=>r
 | t+1=>jL (fO r t)
def iK (n:Nat) (lv:Nat->Int):Prop:=∀ i,n<=i->lv i=0
theorem kX {s:Shp} {one:Aa} {lv:Nat->Int} (h:iK s.n lv):∀ t,iK s.n (bU s one lv t)
 | 0=>h
 | t+1=>λi hi=>by
  show bz s one (bU s one lv t) i=0
  unfold bz
  rw [if_neg (by omega)]
noncomputable def i0 (s:Shp) (lv:Nat->Int):List Nat:=(List.range s.n).map λj=>(lv (0+j) - (((0+j:Nat):Int) - s.depth)).toNat
theorem Zme {s:Shp} {one:Aa} {lv:Nat->Int} (r:RuOk s one lv):i0 s lv∈offs s.n:=by
 have hn:=r.h.n_eq
 have t0:=r.h.t0
 have d0:=r.h.d0
 refine Zmb (f:=λq=>(lv q - ((q:Int) - s.depth)).toNat) (k:=0) λj hj=>?_
 have a:=r.hi (0+j) (by omega)
 have b:=r.lo (0+j) (by omega)
 show (lv (0+j) - (((0+j:Nat):Int) - s.depth)).toNat < s.n - j
 omega
theorem Zmf {s:Shp} {one:Aa} {lv lv':Nat->Int} (r:RuOk s one lv) (r':RuOk s one lv') (n1:iK s.n lv) (n2:iK s.n lv') (h:i0 s lv=i0 s lv'):lv=lv':=by
 funext i
 by_cases hi:i < s.n
 ·have e:=congrArg (λl=>l[i]?) h
  unfold i0 at e
  simp only [v5,wm hi,Option.map_some,Option.some.injEq,Nat.zero_add] at e
  have a:=r.lo i hi
  have b:=r'.lo i hi
  omega
 ·rw [n1 i (by omega),n2 i (by omega)]
theorem ends {s:Shp} {one:Aa} {lv:Nat->Int} (r:RuOk s one lv) (n0:iK s.n lv) (n8:s.n<=8):∃ t,t<=40321/\bU s one lv (t+1)=bU s one lv t:=by
 apply xE
 intro hno
 have hne:∀ t,t<=40321->bU s one lv (t+1)≠bU s one lv t:=λt ht e=>hno ⟨t,ht,e⟩
 have strict:∀ t,t < 40321->Bet s.n (zB s one (bU s one lv t)) (aZ s one (bU s one lv t)) (zB s one (bU s one lv (t+1))) (aZ s one (bU s one lv (t+1))):=λt ht=>by
  apply Zqe (fO r t)
  apply xE
  intro hn
  have all0:∀ i,i < s.n->gZ s one (bU s one lv t) i=0:=λi hi=>by
   have a:=ZaR (fO r t) hi
   have:¬ 0 < gZ s one (bU s one lv t) i:=λq=>hn ⟨i,hi,q⟩
   omega
  have tn:=Zjl (fO r t) all0
  apply hne (t+1) (by omega)
  funext i
  by_cases hi:i < s.n
  ·exact tn i hi
  ·rw [kX n0 (t+1+1) i (by omega),kX n0 (t+1) i (by omega)]
 have far:∀ (k t:Nat),t+k+1<=40321->Bet s.n (zB s one (bU s one lv t)) (aZ s one (bU s one lv t)) (zB s one (bU s one lv (t+k+1))) (aZ s one (bU s one lv (t+k+1))):=by
  intro k
  induction k with
  | zero=>intro t ht; exact strict t (by omega)
  | succ k ih =>
   intro t ht
   have a:=ih t (by omega)
   have b:=strict (t+k+1) (by omega)
   exact Bet.trans (ga (fO r _)) (ga (fO r _)) (ga (fO r _)) a b
 have inj:∀ i j,i < j->j<=40321->i0 s (bU s one lv i)≠i0 s (bU s one lv j):=λi j hij hj e=>by
  have e2:=Zmf (fO r i) (fO r j) (kX n0 i) (kX n0 j) e
  have b:=far (j - i - 1) i (by omega)
  have ej:i+(j - i - 1)+1=j:=by omega
  rw [ej,<- e2] at b
  exact Bet.irrefl b
 have hnd:((List.range 40322).map λt=>i0 s (bU s one lv t)).Nodup:=by
  rw [List.nodup_iff_pairwise_ne,List.pairwise_map]
  refine List.Pairwise.imp_of_mem (R:=λa b=>a < b) ?_ List.pairwise_lt_range
  intro a b ha hb hab
  have:=wV.mp hb
  exact inj a b hab (by omega)
 have hsub:∀ x∈(List.range 40322).map λt=>i0 s (bU s one lv t),x∈offs s.n:=λx hx=>by
  obtain ⟨t,_,rfl⟩:=wP.mp hx
  exact Zme (fO r t)
 have h1:=List.Nodup.length_le_of_subset hnd hsub
 rw [vZ,wW] at h1
 have h2:=Zmc n8
 omega
end My
set_option Elab.async false
set_option linter.all false
set_option maxRecDepth 100000
set_option exponentiation.threshold 9000
namespace My
open L2 Tw Bar
theorem Zhu:∀ a b:Aa,PyData.eqvAll (a.map PyData.int) (b.map PyData.int)=decide (a=b)
 | [],[]=>rfl
 | [],_::_=>rfl
 | _::_,[]=>rfl
 | x::a,y::b=>by
  have ih:=Zhu a b
  rw [v9,v9,PyData.eqvAll,ih]
  by_cases e:x=y
  ·subst e
   by_cases e2:a=b
   ·subst e2; simp [PyData.eqv]
   ·simp [PyData.eqv,e2]
  ·simp [PyData.eqv,e]
theorem Zn2 (a b:Aa):aV cv (lI a) (lI b)=.ret (.bool (decide (a=b))):=by
 unfold lI
 rw [ZnZ (Zbc a) (Zbc b),Zhu]
noncomputable def bR (s:Shp) (lv:Nat->Int):Aa:=(List.range s.n).map lv
theorem Zad {s:Shp} {one:Aa} {lv:Nat->Int} (r:RuOk s one lv) {i:Nat} (hi:i < s.n):nb 1702 (zB s one lv i):=by
 refine aP (ZiN (b:=160) r.n9 (λi j hi _=>lf r hi) (v4 _) hi λq hq=>lf r hq) (by decide)
theorem rj {s:Shp} {one:Aa} {lv:Nat->Int} (r:RuOk s one lv):Bd s 1702 (wB s one lv):=λx x1 x2=>by
 have hn:=r.h.n_eq
 unfold wB
 split
 ·exact kN _
 ·exact Zad r (by omega)
theorem lV {s:Shp} {one:Aa} {lv:Nat->Int} (r:RuOk s one lv):nb 1531 (aZ s one lv):=aP (qa (b:=160) r.n9 (λi j hi _=>lf r hi) (v4 _)) (by decide)
noncomputable def n5 (s:Shp) (one:Aa) (lv:Nat->Int):PyData:=.tuple [.int (zB s one lv 0),lI (s.row (wB s one lv)),.int (aZ s one lv),lI (bR s lv)]
theorem ZdA {g:Int->Int} {top K P:Int}:∀ l:Aa,bG (cx (bA (aJ (aj 0) (aJ (aj 1) bx))) tf [.un,.un]) (l.map (hX g top K P))=.ret ((l.map (lvl g top K)).map PyData.int)
 | []=>rfl
 | x::l=>by
  have e0:cx (bA (aJ (aj 0) (aJ (aj 1) bx))) tf [.un,.un] (hX g top K P x)=.ret (.int (lvl g top K x)):=rfl
  rw [v9,bG,e0,Tr.ret_bind,ZdA l]
  rfl
theorem Zqd {s:Shp} {one:Aa} {lv:Nat->Int} (r:RuOk s one lv) (J3 J4 J5 J6 J7:Sl):∃ K3 K4 K5 K6 K7:Sl,mR [.d s.d,.d (tI one),.d (lI (bR s lv)),J3,J4,J5,J6,J7]=if bR s (bz s one lv)=bR s lv then .ret (.ret (.d (n5 s one lv))) else .ret (.next [.d s.d,.d (tI one),.d (lI (bR s (bz s one lv))),K3,K4,K5,K6,K7]):=by
 have h:=r.h
 have hn:=h.n_eq
 have td:=h.td
 have em:mF [.d s.d,.d (tI one),.d (lI (bR s lv))]=_:=Zod r
 have el:=Zoh h r.hd (rj r) (sc:=aZ s one lv) (aP (lV r) (by decide)) (by decide)
 have g1:=aK (lV r) (by decide)
 have g2:=aK (dN r.hd) (by decide)
 have hsc:nb 1853 (aZ s one lv * one.sum):=aP (bF (lV r) (dN r.hd)) (by decide)
 have hg:Bd s 1853 (gB s one lv):=λx x1 x2=>aP (Zj4 h r.hd (rj r) (aP (lV r) (by decide)) x x1 x2) (by decide)
 have ec:mL [.d s.d,.d (.list ((s.row (s.sm one (wB s one lv) (aZ s one lv))).map PyData.int)),.d (.int (aZ s one lv * one.sum))]=_:=Zop h hg hsc (wC (xb (ga r) r.hd.pos)) (by decide)
 have hs:small ((aI (-s.depth) s.n).map (hX (gB s one lv) s.top (aZ s one lv * one.sum * s.start) (aZ s one lv * one.sum * s.piece))).length=true:=cj (by rw [vZ,gA]; omega)
 have lm:=ZdA (g:=gB s one lv) (top:=s.top) (K:=aZ s one lv * one.sum * s.start) (P:=aZ s one lv * one.sum * s.piece) (aI (-s.depth) s.n)
 have e7:((aI (-s.depth) s.n).map (lvl (gB s one lv) s.top (aZ s one lv * one.sum * s.start)))=bR s (bz s one lv):=by
  unfold bR aI
  rw [ww]
  refine w6 λi hi=>?_
  have hi':=wV.mp hi
  rw [kK hi']
  have:-s.depth+(i:Int)=(i:Int) - s.depth:=by omega
  simp only [y8,this]
  rfl
 rw [e7] at lm
 have eq:aV cv (.list ((bR s (bz s one lv)).map PyData.int)) (lI (bR s lv))=.ret (.bool (decide (bR s (bz s one lv)=bR s lv))):=Zn2 _ _
 by_cases e:bR s (bz s one lv)=bR s lv
 ·rw [decide_eq_true e] at eq
  refine ⟨.un,.un,.un,.un,.un,?_⟩
  rw [if_pos e]
  simp_arith [mR,em,el,gy,g1,g2,ec,hs,lm,eq]
  rfl
 ·rw [decide_eq_false e] at eq
  refine ⟨.d (.int (zB s one lv 0)),.d (lI (s.row (wB s one lv))),.d (.int (aZ s one lv)),.d (.list ((aI (-s.depth) s.n).map (hX (gB s one lv) s.top (aZ s one lv * one.sum * s.start) (aZ s one lv * one.sum * s.piece)))),.d (.list ((bR s (bz s one lv)).map PyData.int)),?_⟩
  rw [if_neg e]
  simp_arith [mR,em,el,gy,g1,g2,ec,hs,lm,eq]
  rfl
end My
set_option Elab.async false
set_option linter.all false
set_option maxRecDepth 100000
set_option exponentiation.threshold 9000
namespace My
open L2 Tw Bar
theorem ZmM {s:Shp} {lv lv':Nat->Int} (n1:iK s.n lv) (n2:iK s.n lv'):bR s lv=bR s lv' ↔ lv=lv':=by
 constructor
 ·intro h
  funext i
  by_cases hi:i < s.n
  ·have e:=congrArg (λl=>l[i]?) h
   unfold bR at e
   simpa only [v5,wm hi,Option.map_some,Option.some.injEq] using e
  ·rw [n1 i (by omega),n2 i (by omega)]
 ·intro h
  rw [h]
theorem Zij {s:Shp} {one:Aa} {lv:Nat->Int} (r:RuOk s one lv) (n0:iK s.n lv):∀ (m t fuel:Nat),bU s one lv (t+m+1)=bU s one lv (t+m)->m < fuel->∀ J3 J4 J5 J6 J7:Sl,∃ T,bU s one lv (T+1)=bU s one lv T/\c7 rh mR fuel [.d s.d,.d (tI one),.d (lI (bR s (bU s one lv t))),J3,J4,J5,J6,J7]=.ret (.ret (.d (n5 s one (bU s one lv T))))
 | m,t,0,_,hf,_,_,_,_,_=>by omega
 | m,t,fuel+1,he,hf,J3,J4,J5,J6,J7=>by
  obtain ⟨K3,K4,K5,K6,K7,e⟩:=Zqd (fO r t) J3 J4 J5 J6 J7
  have hp:rh [.d s.d,.d (tI one),.d (lI (bR s (bU s one lv t))),J3,J4,J5,J6,J7]=.ret true:=rfl
  by_cases hc:bR s (bz s one (bU s one lv t))=bR s (bU s one lv t)
  ·rw [if_pos hc] at e
   refine ⟨t,(ZmM (kX n0 (t+1)) (kX n0 t)).mp hc,?_⟩
   rw [c7,hp,Tr.ret_bind,if_pos rfl,e,Tr.ret_bind]
  ·rw [if_neg hc] at e
   cases m with
   | zero =>
    exfalso
    apply hc
    have:bz s one (bU s one lv t)=bU s one lv t:=he
    rw [this]
   | succ m =>
    have he':bU s one lv (t+1+m+1)=bU s one lv (t+1+m):=by
     have e1:t+(m+1)=t+1+m:=by omega
     rw [e1] at he
     exact he
    obtain ⟨T,h1,h2⟩:=Zij r n0 m (t+1) fuel he' (by omega) K3 K4 K5 K6 K7
    refine ⟨T,h1,?_⟩
    rw [c7,hp,Tr.ret_bind,if_pos rfl,e,Tr.ret_bind]
    exact h2
noncomputable def gG (s:Shp) (i:Nat):Int:=if i < s.n then (i:Int) - s.depth else 0
theorem Zoq {s:Shp} {one:Aa} (h:s.Ok) (n8:s.n<=8) (hd:DayB one) (gr:s.top+s.depth<=great one) (ps:∃ w∈one,w > 0) :
  ∃ lv:Nat->Int,RuOk s one lv/\bz s one lv=lv/\pD [.d s.d,.d (tI one)]=.ret (.d (n5 s one lv)):=by
 have hn:=h.n_eq
 have t0:=h.t0
 have d0:=h.d0
 have r:RuOk s one (gG s):=⟨h,by omega,hd,gr,ps,λi hi=>by unfold gG; rw [if_pos hi]; exact wK _,λi hi=>by unfold gG; rw [if_pos hi]; omega⟩
 have n0:iK s.n (gG s):=λi hi=>by unfold gG; rw [if_neg (by omega)]
 obtain ⟨t,ht,he⟩:=ends r n0 n8
 obtain ⟨T,h1,h2⟩:=Zij r n0 t 0 100000 (by rw [Nat.zero_add]; exact he) (by omega) .un .un .un .un .un
 refine ⟨bU s one (gG s) T,fO r T,h1,?_⟩
 have e1:=jh h
 have el:aL (-s.depth) (s.top+1)=(bR s (gG s)).map PyData.int:=by
  unfold aL bR aI
  have e:(s.top+1 - -s.depth).toNat=s.n:=rfl
  rw [e,ww,ww]
  refine w6 λi hi=>?_
  have hi':=wV.mp hi
  simp only [y8]
  unfold gG
  rw [if_pos hi']
  have:-s.depth+(i:Int)=(i:Int) - s.depth:=by omega
  rw [this]
 have elst:ni ir [.tuple (aL (-s.depth) (s.top+1))]=.ret (aL (-s.depth) (s.top+1)):=rfl
 have e2:bU s one (gG s) 0=gG s:=rfl
 rw [e2] at h2
 unfold lI at h2
 simp_arith [pD,e1,elst,el,h2]
end My
set_option Elab.async false
set_option linter.all false
set_option maxRecDepth 100000
set_option exponentiation.threshold 9000
namespace My
open L2 Tw
theorem uI {a b:Int} (hb:nb 8000 b):kT [.d (.int a),.d (.int b)]=.ret (.d (.int (Nat.gcd a.natAbs b.natAbs:Nat))):=by
 have key:=euclid (p:=rg) (s:=uc) (E:=λa b=>[.d (.int a),.d (.int b)]) (λa b=>by
  simp_arith [rg]
  by_cases h:b=0
  ·subst h; rfl
  ·rw [decide_eq_true h]
   congr 1
   simp [h]) (λa b h=>by
  have h':(b:Int)≠0:=by omega
  simp_arith [uc,pW h',uu]) 8000 83999 a.natAbs b.natAbs hb
 have e:2 * 8000+1+83999=100000:=rfl
 rw [e] at key
 simp_arith [kT,vE,key]
theorem pZ {t b:Int} (h0:b≠0) (hb:nb 7000 b):i7 [.d (.int t),.d (.int b)]=.ret (.d (fj t b)):=by
 have e:=uI (a:=t) (b:=b) (aP hb (by decide))
 have e0:(b == 0)=false:=beq_eq_false_iff_ne.mpr h0
 have hd:=Gc.nh (t:=t) h0
 have hf:=aK (ZhQ (t:=t) hb h0) (by decide)
 unfold fj Gc.cp Gc.b9
 by_cases hn:b < 0
 ·have ed:Gc.den t b=-((Nat.gcd t.natAbs b.natAbs:Nat):Int):=by unfold Gc.den Gc.jc; rw [if_pos hn]
  rw [ed] at hd hf ⊢
  simp_arith [i7,e0,e,decide_eq_true hn,jf hd hf]
 ·have ed:Gc.den t b=((Nat.gcd t.natAbs b.natAbs:Nat):Int):=by unfold Gc.den Gc.jc; rw [if_neg hn]
  rw [ed] at hd hf ⊢
  simp_arith [i7,e0,e,decide_eq_false hn,jf hd hf]
end My
set_option Elab.async false
set_option linter.all false
set_option maxRecDepth 100000
set_option exponentiation.threshold 9000
namespace My
open L2 Tw Bar
theorem ZmI {ls:Aa} (h:∃ n∈ls,n > 0):bZ jN [.list ((fh 0 ls).map PyData.int)]=.ret (.int (great ls)):=ZmJ _ (rP (k:=0) h)
theorem Zbl:∀ (ns:Aa) (k:Nat),gg (mP (bA (aJ (aj 0) (aJ (aj 1) bx))) mq mh [.un,.un]) (enu k ns)=.ret ((fh k ns).map PyData.int)
 | [],k=>rfl
 | n::ns,k=>by
  have ih:=Zbl ns (k+1)
  have e0:mP (bA (aJ (aj 0) (aJ (aj 1) bx))) mq mh [.un,.un] (.tuple [.int k,.int n])=.ret (if n > 0 then some (.int k) else none):=by
   by_cases h:n > 0
   ·simp_arith [mq,mh,decide_eq_true h,if_pos h]
   ·simp_arith [mq,mh,decide_eq_false h,if_neg h]
  rw [enu,gg,e0,Tr.ret_bind,ih,Tr.ret_bind,fh]
  unfold mE
  by_cases h:n > 0
  ·rw [if_pos h,if_pos h]; rfl
  ·rw [if_neg h,if_neg h]
theorem ZhC {ls:Aa} (h:∃ n∈ls,n > 0) (hl:ls.length<=100):pq [.d (tI ls)]=.ret (.d (.int (great ls))):=by
 have hs:small (enu 0 ls).length=true:=cj (by rw [Zhw]; omega)
 simp_arith [pq,uf,uD,hs,Zbl,ZmI h]
noncomputable def drB (ρ:Af) (_:PyData):Tr Ou:=.ret (.next ρ)
theorem m9 {i:zS} {ρ:Af}:qI i ρ=(i ρ).bind (drB ρ):=rfl
theorem nc {ρ:Af} {x:PyData}:drB ρ x=.ret (.next ρ):=rfl
noncomputable def mM (s:Shp) (one:Aa) (lv:Nat->Int):PyData:=.tuple [fj (zB s one lv 0) (aZ s one lv),.tuple ((aI (-s.depth) s.n).map λx=>fj (wB s one lv x) (aZ s one lv)),tI (bR s lv)]
theorem Zoj {s:Shp} {one:Aa} (h:s.Ok) (n8:s.n<=8) (hd:DayB one) (gr:s.top+s.depth<=great one) (ps:∃ w∈one,w > 0) :
  ∃ lv:Nat->Int,RuOk s one lv/\bz s one lv=lv/\mJ [.d s.d,.d (tI one)]=.ret (.d (mM s one lv)):=by
 obtain ⟨lv,r,hf,e⟩:=Zoq h n8 hd gr ps
 refine ⟨lv,r,hf,?_⟩
 have eg:=ZhC ps (by have:=hd.len; omega)
 have ca:decide (great one < s.top+s.depth)=false:=decide_eq_false (by omega)
 have ea:jS [.d s.d,.d (tI one)]=.ret (.d .none):=by
  simp_arith [jS,eg,ca]
 have sp:=ga r
 have sn:nb 7000 (aZ s one lv):=aP (lV r) (by decide)
 have e1:=pZ (t:=zB s one lv 0) (b:=aZ s one lv) (by omega) sn
 have hs:small ((s.row (wB s one lv)).map PyData.int).length=true:=cj (by rw [vZ,iS]; omega)
 have em:∀ l:Aa,bG (cx (aj 0) ox [.un,.d (.int (aZ s one lv))]) (l.map PyData.int)=.ret (l.map λx=>fj x (aZ s one lv)):=by
  intro l
  induction l with
  | nil=>rfl
  | cons x l ih =>
   have e0:cx (aj 0) ox [.un,.d (.int (aZ s one lv))] (.int x)=.ret (fj x (aZ s one lv)):=by
    have e2:=pZ (t:=x) (b:=aZ s one lv) (by omega) sn
    simp_arith [ox,e2]
   rw [v9,bG,e0,Tr.ret_bind,ih]
   rfl
 unfold n5 at e
 simp_arith [mJ,m9,nc,ea,e,e1,ZdS,hs,em]
 unfold mM Shp.row tI
 rw [ww]
 rfl
end My
set_option Elab.async false
set_option linter.all false
set_option maxRecDepth 100000
set_option exponentiation.threshold 9000
namespace My
open L2 Tw Bar
theorem ZhE {s:Shp} {one:Aa} {lv:Nat->Int} (r:RuOk s one lv) {i:Nat} (hi:i < s.n):one.sum * (zB s one lv 0+wB s one lv ((i:Int) - s.depth))=vB s one (wB s one lv) (aZ s one lv) ((i:Int) - s.depth) (lv i):=by
 have a1:=sJ r (zB s one lv) (wB s one lv) (lF one lv) (aZ s one lv) hi
 rw [oH r hi] at a1
 rw [xZ]
 omega
theorem Zor {s:Shp} {one:Aa} {lv:Nat->Int} (r:RuOk s one lv) (hf:bz s one lv=lv) {i:Nat} (hi:i < s.n) {y:Int} (y1:(i:Int) - s.depth<=y) (y2:y<=s.top):vB s one (wB s one lv) (aZ s one lv) ((i:Int) - s.depth) (lv i)<=vB s one (wB s one lv) (aZ s one lv) ((i:Int) - s.depth) y:=by
 have hn:=r.h.n_eq
 rw [nZ (r.lo i hi),nZ y1]
 have c2:=ZhX r hi
 rw [hf] at c2
 obtain ⟨p1,p2⟩:=ZcO (g:=gB s one lv) (top:=s.top) (K:=kB s one lv) (x:=(i:Int) - s.depth) (by omega)
 have key:(pck (gB s one lv) s.top (kB s one lv) ((i:Int) - s.depth)).1<=ji (gB s one lv) (kB s one lv) ((i:Int) - s.depth) y:=by
  unfold ji
  split
  ·exact p2 y (by omega) y2
  ·have:y=(i:Int) - s.depth:=by omega
   rw [this]
   exact p1
 unfold gB kB at *
 omega
end My
set_option Elab.async false
set_option linter.all false
set_option maxRecDepth 100000
set_option exponentiation.threshold 9000
namespace My
open L2 Tw
theorem Zmi (s:Shp) (y f:Int):cf (y - f) (0 - s.depth)=s.nx y f:=by
 unfold Shp.nx
 have e:0 - s.depth=-s.depth:=by omega
 rw [e]
theorem Zof {s:Shp} (h:s.Ok) {x y:Int} (x1:-s.depth<=x) (xy:x<=y) (y2:y<=s.top):mG [.d s.d,.d (.int x),.d (.int y)]=.ret (.d (.int (s.ord x y))):=by
 have:=h.t0
 have:=h.d0
 have:=h.td
 have g1:=aK h.start (by decide)
 have g2:=aK (show nb 20 (1:Int) from bM (by decide) (by decide)) (by decide)
 have g3:=aK (show nb 20 (0:Int) from bM (by decide) (by decide)) (by decide)
 have g4:=aK h.piece (by decide)
 have g5:=aK (show nb 20 (y - x) from bM (by show -1048576 < _; omega) (by show _ < 1048576; omega)) (by decide)
 have g6:=aK (dQ h.start (bF h.piece (show nb 20 (y - x) from bM (by show -1048576 < _; omega) (by show _ < 1048576; omega)))) (by decide)
 unfold Shp.ord
 by_cases hp:y > x
 ·rw [if_neg (by omega)]
  simp_arith [mG,decide_eq_true hp,if_true,g1,g2,g4,g5,g6,yL]
 ·rw [if_pos (by omega)]
  have e:y - x=0:=by omega
  simp_arith [mG,decide_eq_false hp,g1,g3,g4,e,x6,xO,if_false,yX]
theorem Zoe {t b:Int} (hb:0 < b) (nB:nb 7000 b):pb [.d (.int t),.d (.int b)]=.ret (.d (fj t b)):=by
 obtain ⟨z,rfl⟩:∃ z:Nat,b=(z:Int):=⟨b.toNat,by omega⟩
 have key:=euclid (p:=rf) (s:=t6) (E:=λa b'=>[.d (.int t),.d (.int z),.d (.int a),.d (.int b')]) (λa b=>by
  simp_arith [rf]
  by_cases h:b=0
  ·subst h; rfl
  ·rw [decide_eq_true h]
   congr 1
   simp
   omega) (λa b h=>by
  have h':(b:Int)≠0:=by omega
  simp_arith [t6,pW h',uu]) 8000 83999 t.natAbs z (wb (show z < 2 ^ 7000 from by unfold nb at nB; rwa [yy] at nB) (yl (by decide) (by decide)))
 have e:2 * 8000+1+83999=100000:=rfl
 rw [e] at key
 have hd:=Gc.nh (t:=t) (b:=(z:Int)) (by omega)
 have hf:=aK (ZhQ (t:=t) nB (by omega)) (by decide)
 have ed:Gc.den t (z:Int)=((Nat.gcd t.natAbs z:Nat):Int):=by unfold Gc.den Gc.jc; rw [if_neg (by omega),yy]
 unfold fj Gc.cp Gc.b9
 rw [ed] at hd hf ⊢
 simp_arith [pb,vE,key,jf hd hf]
end My
set_option Elab.async false
set_option linter.all false
set_option maxRecDepth 100000
set_option exponentiation.threshold 9000
namespace My
open L2 Tw
theorem Zoz {s:Shp} (d0:0<=s.depth) (y f:Int):(if y - f > 0 then s.keep * (y - f) else s.lack * (0 - (y - f) - cf 0 (0 - s.depth - (y - f)))+s.lost * cf 0 (0 - s.depth - (y - f)))=s.day y f:=by
 unfold Shp.day Shp.nx
 generalize y - f=r
 by_cases h:r > 0
 ·have e:cf r (-s.depth)=r:=by unfold cf; split <;> omega
  rw [e,if_pos h,if_pos h,Int.sub_self,x6,yX]
 ·have e:cf r (-s.depth)=r+cf 0 (0 - s.depth - r):=by unfold cf; split <;> split <;> omega
  have h2:¬ cf r (-s.depth) > 0:=by unfold cf; split <;> omega
  rw [if_neg h,if_neg h2,e]
  generalize cf 0 (0 - s.depth - r)=z
  have e1:0 - r - z=-(r+z):=by omega
  have e2:r+z - r=z:=by omega
  rw [e1,e2]
theorem Zog (s:Shp) (y f:Int):pf [.d s.d,.d (.int y),.d (.int f)]=.ret (.d (.int (s.nx y f))):=by
 simp_arith [pf,Zmi]
theorem Zoi {s:Shp} (h:s.Ok) {y f:Int} (y1:-s.depth<=y) (y2:y<=s.top) (f0:0<=f) (f1:f<=16):mI [.d s.d,.d (.int y),.d (.int f)]=.ret (.d (.int (s.day y f))):=by
 have:=h.t0
 have d0:=h.d0
 have:=h.td
 have z1:0<=cf 0 (0 - s.depth - (y - f))/\cf 0 (0 - s.depth - (y - f))<=1000:=by unfold cf; split <;> omega
 have n1:nb 20 (y - f):=bM (by show -1048576 < _; omega) (by show _ < 1048576; omega)
 have n2:nb 20 (cf 0 (0 - s.depth - (y - f))):=bM (by show -1048576 < _; omega) (by show _ < 1048576; omega)
 have n3:nb 20 (0 - (y - f) - cf 0 (0 - s.depth - (y - f))):=bM (by show -1048576 < _; omega) (by show _ < 1048576; omega)
 have g1:=aK h.keep (by decide)
 have g2:=aK h.lack (by decide)
 have g3:=aK h.lost (by decide)
 have g4:=aK n1 (by decide)
 have g5:=aK n2 (by decide)
 have g6:=aK n3 (by decide)
 rw [<- Zoz d0]
 by_cases hr:y - f > 0
 ·rw [if_pos hr]
  simp_arith [mI,decide_eq_true hr,g1,g4]
 ·rw [if_neg hr]
  simp_arith [mI,decide_eq_false hr,g2,g3,g5,g6]
noncomputable def shr (p:Int×Int):PyData:=.tuple [.int p.1,.int p.2]
structure IsSh (p:Int×Int):Prop where
 pos:0 < p.2
 one:Nat.gcd p.1.natAbs p.2.natAbs=1
noncomputable def g9 (p:Int×Int):Bool:=decide (0 < p.2) && (Nat.gcd p.1.natAbs p.2.natAbs == 1)
theorem iO (p:Int×Int):g9 p=true ↔ IsSh p:=by
 unfold g9
 rw [wl,decide_eq_true_iff,beq_iff_eq]
 exact ⟨λ⟨a,b⟩=>⟨a,b⟩,λh=>⟨h.pos,h.one⟩⟩
theorem iM:((((2:Nat):Int)) == 2)=true:=rfl
theorem fZ:((((3:Nat):Int)) == 3)=true:=rfl
theorem Znp (n:Int):gJ "int" (fy (.int n))=true:=rfl
theorem Znq (n:Int):gJ "bool" (fy (.int n))=false:=rfl
theorem kY (xs:z9):gJ "tuple" (fy (.tuple xs))=true:=rfl
theorem ng (n:Int):ik [.d (.int n)]=.ret (.d (.bool true)):=by
 simp_arith [ik,Znp,Znq,wt]
theorem uH {p:Int×Int} (hn:nb 7000 p.2):fN [.d (shr p)]=.ret (.d (.bool (g9 p))):=by
 obtain ⟨t,b⟩:=p
 have hn:nb 7000 b:=hn
 unfold g9 shr
 show fN [.d (.tuple [.int t,.int b])]=.ret (.d (.bool (decide (0 < b) && (Nat.gcd t.natAbs b.natAbs == 1))))
 by_cases hb:0 < b
 ·obtain ⟨z,rfl⟩:∃ z:Nat,b=(z:Int):=⟨b.toNat,by omega⟩
  have key:=euclid (p:=kh) (s:=pJ) (E:=λa b'=>[.d (.tuple [.int t,.int z]),.d (.int a),.d (.int b')]) (λa b=>by
   simp_arith [kh]
   by_cases h:b=0
   ·subst h; rfl
   ·rw [decide_eq_true h]
    congr 1
    simp
    omega) (λa b h=>by
   have h':(b:Int)≠0:=by omega
   simp_arith [pJ,pW h',uu]) 8000 83999 t.natAbs z (wb (show z < 2 ^ 7000 from by unfold nb at hn; rwa [yy] at hn) (yl (by decide) (by decide)))
  have e:2 * 8000+1+83999=100000:=rfl
  rw [e] at key
  have eg:(((Nat.gcd t.natAbs z:Nat):Int) == 1)=(Nat.gcd t.natAbs (z:Int).natAbs == 1):=by
   rw [yy]
   by_cases h1:Nat.gcd t.natAbs z=1
   ·rw [h1]; rfl
   ·rw [beq_eq_false_iff_ne.mpr h1]
    exact beq_eq_false_iff_ne.mpr (by omega)
  have hb':(z:Int) > 0:=hb
  simp_arith [fN,kY,iM,we,ng,vE,key,decide_eq_true hb',decide_eq_true hb,eg,xr]
 ·have hw:∀ A B:Sl,c7 kh pJ 100000 [A,B,.d (.int b)]=.ret (.next [A,B,.d (.int b)]):=λA B=>by
   have e:(100000:Nat)=99999+1:=rfl
   have e1:kh [A,B,.d (.int b)]=.ret false:=by
    simp_arith [kh,decide_eq_false (show ¬ b > 0 from hb)]
   rw [e,c7,e1,Tr.ret_bind]
   rfl
  simp_arith [fN,kY,iM,we,ng,hw,decide_eq_false (show ¬ b > 0 from hb),decide_eq_false hb,xg]
noncomputable def ba (m:Int×Int) (ws:List (Int×Int)) (ls:Aa):PyData:=.tuple [shr m,.tuple (ws.map shr),tI ls]
def ju (s:Shp) (ls:Aa):Prop:=∀ i (h:i < ls.length),(i:Int) - s.depth<=ls[i]/\ls[i]<=s.top
def je (s:Shp) (ws:List (Int×Int)) (ls:Aa) (i:Nat):Prop:=(∃ p,ws[i]?=some p/\g9 p=true)/\∃ y,ls[i]?=some y/\(i:Int) - s.depth<=y/\y<=s.top
theorem hf2 {s:Shp} {m:Int×Int} {ws:List (Int×Int)} {ls:Aa} (hw:∀ p∈ws,nb 7000 p.2) {i:Nat} (i1:i < ws.length) (i2:i < ls.length) (A B J:Sl) :
  (je s ws ls i/\∃ J',eh [.d s.d,.d (ba m ws ls),A,B,.d (.int i),J]=.ret (.next [.d s.d,.d (ba m ws ls),A,B,.d (.int i),J'])) \/
  (¬ je s ws ls i/\eh [.d s.d,.d (ba m ws ls),A,B,.d (.int i),J]=.ret (.ret (.d (.bool false)))):=by
 have a1:bf (ws.map shr) (i:Int)=some (shr ws[i]):=dl (by omega) (by rw [v5,show ((i:Int)).toNat=i by omega,v6 i1]; rfl)
 have a2:bf (ls.map PyData.int) (i:Int)=some (.int ls[i]):=dl (by omega) (by rw [v5,show ((i:Int)).toNat=i by omega,v6 i2]; rfl)
 have e1:=uH (hw ws[i] (wN i1))
 have g1:ws[i]?=some ws[i]:=v6 i1
 have g2:ls[i]?=some ls[i]:=v6 i2
 by_cases c1:g9 ws[i]=true
 ·rw [c1] at e1
  by_cases c2:(i:Int) - s.depth<=ls[i]
  ·by_cases c3:ls[i]<=s.top
   ·refine .inl ⟨⟨⟨_,g1,c1⟩,_,g2,c2,c3⟩,.d (.int ls[i]),?_⟩
    simp_arith [eh,ba,tI,a1,a2,e1,ng,we,decide_eq_true c2,decide_eq_true c3]
   ·refine .inr ⟨λ⟨_,y,h1,h2,h3⟩=>c3 (by rw [g2] at h1; cases h1; exact h3),?_⟩
    simp_arith [eh,ba,tI,a1,a2,e1,ng,we,wt,decide_eq_true c2,decide_eq_false c3]
  ·refine .inr ⟨λ⟨_,y,h1,h2,h3⟩=>c2 (by rw [g2] at h1; cases h1; exact h2),?_⟩
   simp_arith [eh,ba,tI,a1,a2,e1,ng,we,wt,decide_eq_false c2]
 ·rw [yj] at c1
  rw [c1] at e1
  refine .inr ⟨λ⟨⟨p,h1,h2⟩,_⟩=>(by rw [g1] at h1; cases h1; rw [c1] at h2; cases h2),?_⟩
  simp_arith [eh,ba,tI,a1,a2,e1,wt]
theorem hf1 {s:Shp} {n:Nat} {xs:z9} (hn:xs.length=n) (T A B:Sl):gj [.d s.d,T,.d (.int n),.d (.tuple xs),A,B]=.ret (.next [.d s.d,T,.d (.int n),.d (.tuple xs),A,B]):=by
 have e:(((xs.length:Nat):Int) == (n:Int))=true:=by rw [hn]; simp
 simp_arith [gj,kY,we,e]
theorem Zok {s:Shp} (h:s.Ok) {m:Int×Int} {ws:List (Int×Int)} {ls:Aa} (hm:nb 7000 m.2) (hw:∀ p∈ws,nb 7000 p.2) (l1:ws.length=s.n) (l2:ls.length=s.n) :
  ((IsSh m/\∀ i,i < s.n->je s ws ls i)/\eK [.d s.d,.d (ba m ws ls)]=.ret (.d (.bool true))) \/
  (¬ (IsSh m/\∀ i,i < s.n->je s ws ls i)/\eK [.d s.d,.d (ba m ws ls)]=.ret (.d (.bool false))):=by
 have t0:=h.t0
 have d0:=h.d0
 have td:=h.td
 have hn:=h.n_eq
 have e1:=uH hm
 by_cases c1:g9 m=true
 ·rw [c1] at e1
  have en:s.top+s.depth+1=(s.n:Int):=by omega
  have r1:fG [.int (s.n:Int)]=.ret (aL 0 s.n):=iB (eZ (by omega) (by omega))
  have ec:L2.cV [shr m,PyData.tuple (ws.map shr),tI ls] (some 1) none=[PyData.tuple (ws.map shr),tI ls]:=rfl
  have ef:bV (aj 3) gj [PyData.tuple (ws.map shr),tI ls] [.d s.d,.d (ba m ws ls),.d (.int (s.n:Int)),.un,.un,.un]=.ret (.next [.d s.d,.d (ba m ws ls),.d (.int (s.n:Int)),.d (tI ls),.un,.un]):=by
   have q1:=hf1 (s:=s) (n:=s.n) (xs:=ws.map shr) (by rw [vZ,l1]) (.d (ba m ws ls)) .un .un
   have q2:=hf1 (s:=s) (n:=s.n) (xs:=ls.map PyData.int) (by rw [vZ,l2]) (.d (ba m ws ls)) .un .un
   simp_arith only [eM,tI,q1,q2]
  have kf:=mX (g:=aj 4) (s:=eh) (r:=Re.d (.bool false)) (xs:=aL 0 s.n) (ρ:=[.d s.d,.d (ba m ws ls),.d (.int (s.n:Int)),.d (tI ls),.un,.un]) (λpre _=>¬ je s ws ls pre.length)
   (λ_ ρ=>∃ J4 J5:Sl,ρ=[.d s.d,.d (ba m ws ls),.d (.int (s.n:Int)),.d (tI ls),J4,J5]) ⟨_,_,rfl⟩ (λpre x post ρ e hρ=>by
    obtain ⟨J4,J5,rfl⟩:=hρ
    obtain ⟨rfl,hpre⟩:=jD e
    refine ⟨_,rfl,?_⟩
    have ex:(0:Int)+(pre.length:Int)=(pre.length:Int):=by omega
    rw [ex]
    rcases hf2 (s:=s) (m:=m) hw (i:=pre.length) (ls:=ls) (by omega) (by omega) (.d (.int (s.n:Int))) (.d (tI ls)) J5 with ⟨q1,J',q2⟩ | ⟨q1,q2⟩
    ·exact .inr ⟨λz=>z q1,_,q2,_,_,rfl⟩
    ·exact .inl ⟨q1,q2⟩)
  have all_of:(∀ p x q,aL 0 (s.n:Int)=p++x::q->¬ ¬ je s ws ls p.length)->∀ i,i < s.n->je s ws ls i:=λz i hi=>by
   have hl:i < (aL 0 (s.n:Int)).length:=by rw [cM]; omega
   have z1:=z ((aL 0 (s.n:Int)).take i) _ ((aL 0 (s.n:Int)).drop (i+1)) (by rw [<- wR hl,xQ])
   rw [wE,xt (by omega)] at z1
   exact Classical.not_not.mp z1
  rcases kf with ⟨⟨p,x,q,q1,q2⟩,q3⟩ | ⟨q1,ρ2,q2,J4,J5,rfl⟩
  ·refine .inr ⟨λz=>q2 (z.2 _ (by have:=congrArg List.length q1; rw [cM,wu,wc] at this; omega)),?_⟩
   rw [ba] at ef q3 ⊢
   simp_arith only [eK,kY,fZ,we,e1,en,ec,ef,r1,q3]
  ·refine .inl ⟨⟨(iO m).mp c1,all_of q1⟩,?_⟩
   rw [ba] at ef q2 ⊢
   simp_arith only [eK,kY,fZ,we,e1,en,ec,ef,r1,q2]
 ·rw [yj] at c1
  rw [c1] at e1
  refine .inr ⟨λz=>(by rw [(iO m).mpr z.1] at c1; cases c1),?_⟩
  rw [ba]
  simp_arith only [eK,kY,fZ,we,e1,wt]
end My
set_option Elab.async false
set_option linter.all false
set_option maxRecDepth 100000
set_option exponentiation.threshold 9000
namespace My
open L2 Tw Bar
noncomputable def bW:Int->List (Int×Int)->Int
 | D,[]=>D
 | D,p::ws=>bW (D * p.2) ws
theorem Zii {c:Nat}:∀ {ws:List (Int×Int)} {b:Nat} {D:Int},nb b D->(∀ p∈ws,nb c p.2)->nb (b+c * ws.length) (bW D ws)
 | [],b,D,h,_=>by rw [bW]; exact aP h (by omega)
 | p::ws,b,D,h,hw=>by
  have ih:=Zii (bF h (hw p (by simp))) λq hq=>hw q (v3 _ hq)
  rw [bW,wc,zh]
  exact aP ih (by omega)
theorem qi:∀ {ws:List (Int×Int)} {D:Int},0 < D->(∀ p∈ws,0 < p.2)->0 < bW D ws
 | [],D,h,_=>h
 | p::ws,D,h,hw=>by rw [bW]; exact qi (xb h (hw p (by simp))) λq hq=>hw q (v3 _ hq)
theorem qj:∀ {ws:List (Int×Int)} {D:Int},D ∣ bW D ws
 | [],D=>Int.dvd_refl _
 | p::ws,D=>by rw [bW]; exact zc (Int.dvd_mul_right D p.2) qj
theorem u6:∀ {ws:List (Int×Int)} {D:Int} {p:Int×Int},p∈ws->p.2 ∣ bW D ws
 | q::ws,D,p,h=>by
  rw [bW]
  rcases wo.mp h with rfl | h
  ·exact zc (Int.dvd_mul_left D p.2) qj
  ·exact u6 h
theorem mZ {k:Nat} {D c:Int} (hD:0 < D) (hc:0 < c) (h:nb k D):nb k (D.fdiv c):=by
 have e:D.fdiv c=D / c:=xw _ (wC hc)
 have e1:D / c<=D:=Int.ediv_le_self _ (wC hD)
 have e2:0<=D / c:=zw (wC hD) (wC hc)
 rw [e]
 unfold nb at *
 omega
noncomputable def ovr (D:Int) (p:Int×Int):Int:=p.1 * D.fdiv p.2
theorem mr {D:Int} {p:Int×Int} (hp:0 < p.2) (hd:p.2 ∣ D):ovr D p * p.2=p.1 * D:=by
 obtain ⟨q,rfl⟩:=hd
 unfold ovr
 rw [xw _ (wC hp),yG _ (xB hp)]
 grind
def dW (s:Shp) (one:Aa) (A:Int->Int) (D M x y:Int):Prop:=one.sum * (M+A x)=vB s one A D x y/\∀ z,x<=z->z<=s.top->one.sum * (M+A x)<=vB s one A D x z
noncomputable abbrev cZ (s:Shp) (one:Aa) (T:PyData) (D:Int) (J4:Sl) (A:Int->Int) (M:Int) (k c9 c10 c11 c12 c13 c14 c15:Sl):Af:=[.d s.d,.d (tI one),.d T,.d (.int D),J4,.d (lI (s.row A)),.d (.int M),.d (.int one.sum),k,c9,c10,c11,c12,c13,c14,c15]
theorem lk2 {s:Shp} (h:s.Ok) {one:Aa} {y:Int} (y1:-s.depth<=y) (y2:y<=s.top) {A:Int->Int} {b:Nat} (hA:Bd s b A) {D:Int} (hD:nb b D) (hb:b<=5000) (T:PyData) (M:Int) (J4 k c9 c15:Sl) :
  ∀ (l:Aa) (q:Nat) (tot:Int) (J12 J13 J14:Sl),q+l.length<=16->(∀ w∈l,nb 30 w)->∃ K12 K13 K14:Sl,bV (bA (aJ (aj 12) (aJ (aj 13) bx))) pH (enu q l) (cZ s one T D J4 A M k c9 (.d (.int y)) (.d (.int tot)) J12 J13 J14 c15)=.ret (.next (cZ s one T D J4 A M k c9 (.d (.int y)) (.d (.int (tot+ws (λf=>D * s.day y f+A (s.nx y f)) q l))) K12 K13 K14 c15))
 | [],q,tot,J12,J13,J14,_,_=>⟨J12,J13,J14,by rw [enu,pS,ws,yX]⟩
 | w::l,q,tot,J12,J13,J14,hq,hw=>by
  have t0:=h.t0
  have d0:=h.d0
  have td:=h.td
  rw [wc] at hq
  have n1:=ig s y q
  have n2:=ie h y2 (show (0:Int)<=q by omega)
  have hy:nb 20 y:=bM (by show -1048576 < _; omega) (by show _ < 1048576; omega)
  have hf:nb 40 (q:Int):=bM (by show -1099511627776 < _; omega) (by show _ < 1099511627776; omega)
  have e1:=Zog s y q
  have e2:=Zoi h y1 y2 (show (0:Int)<=q by omega) (by omega)
  have e3:=ot (f:=A) n1 n2
  have f1:=aK hD (by omega)
  have f2:=aK (lh h hy hf) (by decide)
  have f3:=aK (hw w (by simp)) (by decide)
  have f4:=aK (dQ (bF hD (lh h hy hf)) (hA _ n1 n2)) (by omega)
  obtain ⟨K12,K13,K14,e⟩:=lk2 h y1 y2 hA hD hb T M J4 k c9 c15 l (q+1) (tot+w * (D * s.day y q+A (s.nx y q))) (.d (.int q)) (.d (.int w)) (.d (.int (A (s.nx y q)))) (by omega) λv hv=>hw v (v3 _ hv)
  refine ⟨K12,K13,K14,?_⟩
  have et:pH (cZ s one T D J4 A M k c9 (.d (.int y)) (.d (.int tot)) (.d (.int q)) (.d (.int w)) J14 c15)=.ret (.next (cZ s one T D J4 A M k c9 (.d (.int y)) (.d (.int (tot+w * (D * s.day y q+A (s.nx y q))))) (.d (.int q)) (.d (.int w)) (.d (.int (A (s.nx y q)))) c15)):=by
   simp_arith [pH,cZ,lI,e1,e2,e3,f1,f2,f3,f4]
  have eg:(bA (aJ (aj 12) (aJ (aj 13) bx))) (.tuple [.int (q:Int),.int w]) (cZ s one T D J4 A M k c9 (.d (.int y)) (.d (.int tot)) J12 J13 J14 c15)=some (cZ s one T D J4 A M k c9 (.d (.int y)) (.d (.int tot)) (.d (.int q)) (.d (.int w)) J14 c15):=rfl
  rw [enu,eM,eg,Tr.of_some,Tr.ret_bind,gM,et,Tr.ret_bind,fv,e,ws,Int.add_assoc]
theorem lk3 {s:Shp} (h:s.Ok) {one:Aa} (hd:DayB one) {A:Int->Int} {b:Nat} (hA:Bd s b A) {D:Int} (hD:nb b D) (hb:b<=5000) (T:PyData) (M:Int) (J4 c15:Sl) {i:Nat} (hi:i < s.n) :
  ∀ (m:Nat) (y:Int) (cs:Aa) (J10 J11 J12 J13 J14:Sl),(i:Int) - s.depth<=y->y+m=s.top+1->cs.length+m<=200->∃ K10 K11 K12 K13 K14:Sl,bV (aj 10) pG ((aI y m).map PyData.int) (cZ s one T D J4 A M (.d (.int i)) (.own (cs.map PyData.int)) J10 J11 J12 J13 J14 c15)=.ret (.next (cZ s one T D J4 A M (.d (.int i)) (.own ((cs++(aI y m).map λz=>vB s one A D ((i:Int) - s.depth) z).map PyData.int)) K10 K11 K12 K13 K14 c15))
 | 0,y,cs,J10,J11,J12,J13,J14,_,_,_=>⟨J10,J11,J12,J13,J14,by
  show bV _ _ [] _=_
  rw [pS]
  show _=Tr.ret (Ou.next (cZ s one T D J4 A M (.d (.int i)) (.own ((cs++[]).map PyData.int)) J10 J11 J12 J13 J14 c15))
  rw [w8]⟩
 | m+1,y,cs,J10,J11,J12,J13,J14,y1,ym,hc=>by
  have t0:=h.t0
  have d0:=h.d0
  have td:=h.td
  have hn:=h.n_eq
  have er:aI y (m+1)=y::aI (y+1) m:=by
   have:=sO y 1 m
   rw [yx 1 m] at this
   rw [this]
   show [y+((0:Nat):Int)]++_=_
   have e0:y+((0:Nat):Int)=y:=by omega
   rw [e0]
   rfl
  have hy:nb 20 y:=bM (by show -1048576 < _; omega) (by show _ < 1048576; omega)
  have hx:nb 20 ((i:Int) - s.depth):=bM (by show -1048576 < _; omega) (by show _ < 1048576; omega)
  have eo:=Zof h (x:=(i:Int) - s.depth) (y:=y) (by omega) y1 (by omega)
  have on:nb 70 (s.ord ((i:Int) - s.depth) y):=by
   unfold Shp.ord
   refine mx (show (0:Int).natAbs < 2 ^ 70 by decide) (aP (dQ h.start (bF h.piece (eJ hy hx))) (by decide))
  have sn:=dN hd
  have f1:=aK hD (by omega)
  have f2:=aK sn (by decide)
  have f3:=aK (bF sn hD) (by omega)
  have f4:=aK on (by decide)
  have hlen:=hd.len
  obtain ⟨K12,K13,K14,e2⟩:=lk2 h (one:=one) (y:=y) (by omega) (by omega) hA hD hb T M J4 (.d (.int i)) (.own (cs.map PyData.int)) c15 one 0 (one.sum * D * s.ord ((i:Int) - s.depth) y) J12 J13 J14 (by omega) hd.nb
  have hsm:small ((cs.map PyData.int).length+1)=true:=cj (by rw [vZ]; omega)
  have ev:one.sum * D * s.ord ((i:Int) - s.depth) y+ws (λf=>D * s.day y f+A (s.nx y f)) 0 one=vB s one A D ((i:Int) - s.depth) y:=by
   unfold vB Shp.wg
   rw [yW one.sum D]
  rw [ev] at e2
  have et:pG (cZ s one T D J4 A M (.d (.int i)) (.own (cs.map PyData.int)) (.d (.int y)) J11 J12 J13 J14 c15)=.ret (.next (cZ s one T D J4 A M (.d (.int i)) (.own ((cs++[vB s one A D ((i:Int) - s.depth) y]).map PyData.int)) (.d (.int y)) (.d (.int (vB s one A D ((i:Int) - s.depth) y))) K12 K13 K14 c15)):=by
   simp only [cZ] at e2 ⊢
   simp_arith [pG,eo,f1,f2,f3,f4,uf,uD,e2,hsm]
   rw [xn]
   rfl
  obtain ⟨k10,k11,k12,k13,k14,e⟩:=lk3 h hd hA hD hb T M J4 c15 hi m (y+1) (cs++[vB s one A D ((i:Int) - s.depth) y]) (.d (.int y)) (.d (.int (vB s one A D ((i:Int) - s.depth) y))) K12 K13 K14 (by omega) (by omega) (by
   rw [wu,List.length_singleton]
   omega)
  refine ⟨k10,k11,k12,k13,k14,?_⟩
  have eg:aj 10 (.int y) (cZ s one T D J4 A M (.d (.int i)) (.own (cs.map PyData.int)) J10 J11 J12 J13 J14 c15)=some (cZ s one T D J4 A M (.d (.int i)) (.own (cs.map PyData.int)) (.d (.int y)) J11 J12 J13 J14 c15):=rfl
  rw [er,v9,eM,eg,Tr.of_some,Tr.ret_bind,gM,et,Tr.ret_bind,fv,e,xk]
  rfl
end My
set_option Elab.async false
set_option linter.all false
set_option maxRecDepth 100000
set_option exponentiation.threshold 9000
namespace My
open L2 Tw Bar
noncomputable def cb (s:Shp) (l:Aa) (x:Int):Int:=(l[(x+s.depth).toNat]?).getD 0
theorem sK {s:Shp} (h:s.Ok) {l:Aa} (hl:l.length=s.n):s.row (cb s l)=l:=by
 have hn:=h.n_eq
 apply xK
 intro i
 by_cases hi:i < s.n
 ·have e:=gz (s:=s) (f:=cb s l) (x:=(i:Int) - s.depth) (by omega) (by omega)
  have ei:((i:Int) - s.depth+s.depth).toNat=i:=by omega
  rw [ei] at e
  rw [e]
  unfold cb
  rw [ei,v6 (by omega)]
  rfl
 ·rw [wH (by rw [iS]; omega),wH (by omega)]
theorem Zql {s:Shp} {l:Aa} {i:Nat} (hi:i < l.length):cb s l ((i:Int) - s.depth)=l[i]:=by
 unfold cb
 have ei:((i:Int) - s.depth+s.depth).toNat=i:=by omega
 rw [ei,v6 hi]
 rfl
theorem Ziu {s:Shp} {l:Aa} {b:Nat} (h:∀ v∈l,nb b v):Bd s b (cb s l):=λx _ _=>by
 unfold cb
 cases e:l[(x+s.depth).toNat]? with
 | none=>exact Nat.pow_pos (by decide)
 | some v=>exact h v (xF e)
noncomputable def eX (s:Shp) (m:Int×Int) (ws:List (Int×Int)):Int->Int:=cb s (ws.map (ovr (bW m.2 ws)))
structure LkP (s:Shp) (one:Aa) (m:Int×Int) (ws:List (Int×Int)) (ls:Aa):Prop where
 sm:IsSh m
 fm:∀ i,i < s.n->je s ws ls i
 lk:∀ i (h:i < ls.length),dW s one (eX s m ws) (bW m.2 ws) (ovr (bW m.2 ws) m) ((i:Int) - s.depth) ls[i]
theorem lk1 {c:Nat} (hc:c<=400) (X0 X1 X2:Sl) (R:Af):∀ (ws:List (Int×Int)) (b:Nat) (D:Int) (J4:Sl),nb b D->(∀ p∈ws,nb c p.2)->b+c * ws.length<=8000->∃ K4:Sl,bV (aj 4) pI (ws.map shr) (X0::X1::X2::.d (.int D)::J4::R)=.ret (.next (X0::X1::X2::.d (.int (bW D ws))::K4::R))
 | [],b,D,J4,_,_,_=>⟨J4,rfl⟩
 | p::ws,b,D,J4,h,hw,hl=>by
  rw [wc,zh] at hl
  obtain ⟨K4,e⟩:=lk1 hc X0 X1 X2 R ws (b+c) (D * p.2) (.d (shr p)) (bF h (hw p (by simp))) (λq hq=>hw q (v3 _ hq)) (by omega)
  refine ⟨K4,?_⟩
  have f1:=aK h (by omega)
  have f2:=aK (hw p (by simp)) (by omega)
  have et:pI (X0::X1::X2::.d (.int D)::.d (shr p)::R)=.ret (.next (X0::X1::X2::.d (.int (D * p.2))::.d (shr p)::R)):=by
   simp_arith [pI,shr,f1,f2]
  have eg:aj 4 (shr p) (X0::X1::X2::.d (.int D)::J4::R)=some (X0::X1::X2::.d (.int D)::.d (shr p)::R):=rfl
  rw [v9,eM,eg,Tr.of_some,Tr.ret_bind,gM,et,Tr.ret_bind,fv,e,bW]
theorem lk4 {s:Shp} (h:s.Ok) {one:Aa} (hd:DayB one) {A:Int->Int} {b:Nat} (hA:Bd s b A) {D:Int} (hD:nb b D) (hb:b<=5000) {m:Int×Int} {ws:List (Int×Int)} {ls:Aa} {M:Int} (hM:nb b M) (J4:Sl) {i:Nat} (hi:i < s.n) (hl:ls.length=s.n) (y1:(i:Int) - s.depth<=ls[i]) (y2:ls[i]<=s.top) (J9 J10 J11 J12 J13 J14 J15:Sl) :
  (dW s one A D M ((i:Int) - s.depth) ls[i]/\∃ K9 K10 K11 K12 K13 K14 K15:Sl,jV (cZ s one (ba m ws ls) D J4 A M (.d (.int i)) J9 J10 J11 J12 J13 J14 J15)=.ret (.next (cZ s one (ba m ws ls) D J4 A M (.d (.int i)) K9 K10 K11 K12 K13 K14 K15))) \/
  (¬ dW s one A D M ((i:Int) - s.depth) ls[i]/\jV (cZ s one (ba m ws ls) D J4 A M (.d (.int i)) J9 J10 J11 J12 J13 J14 J15)=.ret (.ret (.d (.bool false)))):=by
 have t0:=h.t0
 have d0:=h.d0
 have td:=h.td
 have hn:=h.n_eq
 obtain ⟨k10,k11,k12,k13,k14,e3⟩:=lk3 h hd hA hD hb (ba m ws ls) M J4 J15 hi (s.top+1 - ((i:Int) - s.depth)).toNat ((i:Int) - s.depth) [] J10 J11 J12 J13 J14 (wK _) (by omega) (by rw [xu]; omega)
 rw [yq] at e3
 have r1:jE [.int ((i:Int) - s.depth),.int (s.top+1)]=.ret ((aI ((i:Int) - s.depth) (s.top+1 - ((i:Int) - s.depth)).toNat).map PyData.int):=uA (eZ (by omega) (by omega)) (eZ (by omega) (by omega))
 have ea:=ot (s:=s) (f:=A) (x:=(i:Int) - s.depth) (by omega) (by omega)
 have ei:(i:Int) - s.depth+s.depth=i:=by omega
 rw [ei] at ea
 have el:bf (ls.map PyData.int) (i:Int)=some (.int ls[i]):=dl (by omega) (by rw [v5,show ((i:Int)).toNat=i by omega,v6 (by omega)]; rfl)
 have hne:((aI ((i:Int) - s.depth) (s.top+1 - ((i:Int) - s.depth)).toNat).map λz=>vB s one A D ((i:Int) - s.depth) z)≠[]:=by
  intro z
  have:=congrArg List.length z
  rw [vZ,gA,xu] at this
  omega
 have em:=ZmD _ hne
 obtain ⟨m1,m2⟩:=tP hne
 have ev:bf (((aI ((i:Int) - s.depth) (s.top+1 - ((i:Int) - s.depth)).toNat).map λz=>vB s one A D ((i:Int) - s.depth) z).map PyData.int) (ls[i] - i+s.depth)=some (.int (vB s one A D ((i:Int) - s.depth) ls[i])):=by
  refine dl (by omega) ?_
  rw [v5,v5]
  unfold aI
  rw [v5,wm (by omega)]
  show some (PyData.int (vB s one A D ((i:Int) - s.depth) ((i:Int) - s.depth+((ls[i] - i+s.depth).toNat:Int))))=_
  have:(i:Int) - s.depth+((ls[i] - i+s.depth).toNat:Int)=ls[i]:=by omega
  rw [this]
 have f1:=aK (dN hd) (by decide)
 have f2:=aK (dQ hM (hA ((i:Int) - s.depth) (by omega) (by omega))) (by omega)
 have inl:∀ z,(i:Int) - s.depth<=z->z<=s.top->vB s one A D ((i:Int) - s.depth) z∈(aI ((i:Int) - s.depth) (s.top+1 - ((i:Int) - s.depth)).toNat).map λz=>vB s one A D ((i:Int) - s.depth) z:=λz z1 z2=>wP.mpr ⟨z,by
  unfold aI
  exact wP.mpr ⟨(z - ((i:Int) - s.depth)).toNat,wV.mpr (by omega),by omega⟩,rfl⟩
 have key:dW s one A D M ((i:Int) - s.depth) ls[i] ↔ (dZ ((aI ((i:Int) - s.depth) (s.top+1 - ((i:Int) - s.depth)).toNat).map λz=>vB s one A D ((i:Int) - s.depth) z)=one.sum * (M+A ((i:Int) - s.depth))/\vB s one A D ((i:Int) - s.depth) ls[i]=one.sum * (M+A ((i:Int) - s.depth))):=by
  constructor
  ·rintro ⟨q1,q2⟩
   refine ⟨Int.le_antisymm ?_ ?_,q1.symm⟩
   ·rw [q1]
    exact m2 _ (inl _ y1 y2)
   ·obtain ⟨z,z1,z2⟩:=wP.mp m1
    have:=ma z1
    rw [<- z2]
    exact q2 z (by omega) (by omega)
  ·rintro ⟨q1,q2⟩
   refine ⟨q2.symm,λz z1 z2=>?_⟩
   rw [<- q1]
   exact m2 _ (inl z z1 z2)
 generalize hcs:(aI ((i:Int) - s.depth) (s.top+1 - ((i:Int) - s.depth)).toNat).map (λz=>vB s one A D ((i:Int) - s.depth) z)=cs at *
 generalize hdue:one.sum * (M+A ((i:Int) - s.depth))=due at *
 generalize hv:vB s one A D ((i:Int) - s.depth) ls[i]=v at *
 simp only [cZ,xR,ba,tI,lI] at e3 ea ⊢
 by_cases c1:dZ cs=due
 ·by_cases c2:v=due
  ·refine .inl ⟨key.mpr ⟨c1,c2⟩,.own (cs.map PyData.int),k10,k11,k12,k13,k14,.d (.int due),?_⟩
   have b1:(!dZ cs == due)=false:=by rw [c1]; simp
   have b2:(!v == due)=false:=by rw [c2]; simp
   simp_arith [jV,r1,e3,ea,el,f1,f2,hdue,em,ev,b1,b2]
  ·refine .inr ⟨λz=>c2 (key.mp z).2,?_⟩
   have b1:(!dZ cs == due)=false:=by rw [c1]; simp
   have b2:(!v == due)=true:=by rw [beq_eq_false_iff_ne.mpr c2]; rfl
   simp_arith [jV,r1,e3,ea,el,f1,f2,hdue,em,ev,b1,b2]
 ·refine .inr ⟨λz=>c1 (key.mp z).1,?_⟩
  have b1:(!dZ cs == due)=true:=by rw [beq_eq_false_iff_ne.mpr c1]; rfl
  simp_arith [jV,r1,e3,ea,el,f1,f2,hdue,em,b1]
theorem lkq {c:Nat} {D:Int} (hD:0 < D) {b:Nat} (nD:nb b D) (hb:b<=4000) (X:Sl):∀ ws:List (Int×Int),(∀ p∈ws,0 < p.2/\nb 400 p.2/\nb 2000 p.1)->bG (cx (aj 0) ow [X,.d (.int D)]) (ws.map shr)=.ret ((ws.map (ovr D)).map PyData.int)
 | [],_=>rfl
 | p::ws,hw=>by
  obtain ⟨p0,p1,p2⟩:=hw p (by simp)
  have f1:=aK p2 (by decide)
  have f2:=aK (mZ hD p0 nD) (by omega)
  have ed:=jf (m:=D) (n:=p.2) (by omega) (aK p1 (by decide))
  have e0:cx (aj 0) ow [X,.d (.int D)] (shr p)=.ret (.int (ovr D p)):=by
   simp_arith [ow,shr,ed,f1,f2,ovr]
  rw [v9,bG,e0,Tr.ret_bind,lkq (c:=c) hD nD hb X ws λq hq=>hw q (v3 _ hq)]
  rfl
theorem ZhA {s:Shp} (h:s.Ok) (n8:s.n<=9) {one:Aa} (hd:DayB one) {m:Int×Int} {ws:List (Int×Int)} {ls:Aa} (hm:nb 230 m.2/\nb 1800 m.1) (hw:∀ p∈ws,nb 230 p.2/\nb 1800 p.1) (l1:ws.length=s.n) (l2:ls.length=s.n) :
  (LkP s one m ws ls/\ip [.d s.d,.d (tI one),.d (ba m ws ls)]=.ret (.d (.bool true)))\/(¬ LkP s one m ws ls/\ip [.d s.d,.d (tI one),.d (ba m ws ls)]=.ret (.d (.bool false))):=by
 rcases Zok h (m:=m) (ws:=ws) (ls:=ls) (aP hm.1 (by decide)) (λp hp=>aP (hw p hp).1 (by decide)) l1 l2 with ⟨⟨f1,f2⟩,ef⟩ | ⟨f1,ef⟩
 ·have hn:=h.n_eq
  have t0:=h.t0
  have d0:=h.d0
  have w0:∀ p∈ws,0 < p.2:=λp hp=>by
   obtain ⟨i,hi,rfl⟩:=yY.mp hp
   obtain ⟨⟨q,h1,h2⟩,_⟩:=f2 i (by omega)
   rw [v6 hi] at h1
   cases h1
   exact ((iO _).mp h2).pos
  have hlv:∀ i (hi:i < ls.length),(i:Int) - s.depth<=ls[i]/\ls[i]<=s.top:=λi hi=>by
   obtain ⟨_,y,h1,h2,h3⟩:=f2 i (by omega)
   rw [v6 hi] at h1
   cases h1
   exact ⟨h2,h3⟩
  have hD:=qi f1.pos w0
  have nD:nb 2300 (bW m.2 ws):=aP (Zii (c:=230) hm.1 λp hp=>(hw p hp).1) (by rw [l1]; omega)
  obtain ⟨K4,e1⟩:=lk1 (c:=230) (by decide) (.d s.d) (.d (tI one)) (.d (ba m ws ls)) [.un,.un,.un,.un,.un,.un,.un,.un,.un,.un,.un] ws 230 m.2 .un hm.1 (λp hp=>(hw p hp).1) (by rw [l1]; omega)
  have e2:=lkq (c:=0) hD nD (by decide) .un ws λp hp=>⟨w0 p hp,aP (hw p hp).1 (by decide),aP (hw p hp).2 (by decide)⟩
  have ed:=jf (m:=bW m.2 ws) (n:=m.2) (by have:=f1.pos; omega) (aK hm.1 (by decide))
  have g1:=aK hm.2 (by decide)
  have g2:=aK (mZ hD f1.pos nD) (by decide)
  have hsm:small (ws.map shr).length=true:=cj (by rw [vZ]; omega)
  have nO:∀ p:Int×Int,0 < p.2->nb 1800 p.1->nb 4200 (ovr (bW m.2 ws) p):=λp h1 h2=>aP (bF h2 (mZ hD h1 nD)) (by decide)
  have hA:Bd s 4200 (eX s m ws):=Ziu λv hv=>by
   obtain ⟨p,hp,rfl⟩:=wP.mp hv
   exact nO p (w0 p hp) (hw p hp).2
  have er:(ws.map (ovr (bW m.2 ws)))=s.row (eX s m ws):=(sK h (by rw [vZ,l1])).symm
  have hM:=nO m f1.pos hm.2
  have em:ovr (bW m.2 ws) m=m.1 * (bW m.2 ws).fdiv m.2:=rfl
  have elen:((s.row (eX s m ws)).map PyData.int).length=s.n:=by rw [vZ,iS]
  have r1:fG [.int (s.n:Int)]=.ret (aL 0 s.n):=iB (eZ (by omega) (by omega))
  have kf:=mX (g:=aj 8) (s:=jV) (r:=Re.d (.bool false)) (xs:=aL 0 s.n) (ρ:=cZ s one (ba m ws ls) (bW m.2 ws) K4 (eX s m ws) (ovr (bW m.2 ws) m) .un .un .un .un .un .un .un .un) (λpre _=>∃ hi:pre.length < ls.length,¬ dW s one (eX s m ws) (bW m.2 ws) (ovr (bW m.2 ws) m) ((pre.length:Int) - s.depth) ls[pre.length])
   (λ_ ρ=>∃ a b c d e f g k:Sl,ρ=cZ s one (ba m ws ls) (bW m.2 ws) K4 (eX s m ws) (ovr (bW m.2 ws) m) a b c d e f g k) ⟨_,_,_,_,_,_,_,_,rfl⟩ (λpre x post ρ e hρ=>by
    obtain ⟨a,b,c,d,e',f,g,k,rfl⟩:=hρ
    obtain ⟨rfl,hpre⟩:=jD e
    refine ⟨_,rfl,?_⟩
    have ex:(0:Int)+(pre.length:Int)=(pre.length:Int):=by omega
    rw [ex]
    have hi:pre.length < ls.length:=by omega
    rcases lk4 h hd hA (aP nD (by decide)) (by decide) (m:=m) (ws:=ws) (ls:=ls) hM K4 (i:=pre.length) (by omega) l2 (hlv _ hi).1 (hlv _ hi).2 b c d e' f g k with ⟨q1,a1,a2,a3,a4,a5,a6,a7,q2⟩ | ⟨q1,q2⟩
    ·exact .inr ⟨λ⟨_,z⟩=>z q1,_,q2,_,a1,a2,a3,a4,a5,a6,a7,rfl⟩
    ·exact .inl ⟨⟨hi,q1⟩,q2⟩)
  have all_of:(∀ p x q,aL 0 (s.n:Int)=p++x::q->¬ ∃ hi:p.length < ls.length,¬ dW s one (eX s m ws) (bW m.2 ws) (ovr (bW m.2 ws) m) ((p.length:Int) - s.depth) ls[p.length])->∀ i (hi:i < ls.length),dW s one (eX s m ws) (bW m.2 ws) (ovr (bW m.2 ws) m) ((i:Int) - s.depth) ls[i]:=λz i hi=>by
   have hl:i < (aL 0 (s.n:Int)).length:=by rw [cM]; omega
   have z1:=z ((aL 0 (s.n:Int)).take i) _ ((aL 0 (s.n:Int)).drop (i+1)) (by rw [<- wR hl,xQ])
   have el:((aL 0 (s.n:Int)).take i).length=i:=by rw [wE,xt (by omega)]
   refine xE λc=>z1 ?_
   rw [show (∃ hi:((aL 0 (s.n:Int)).take i).length < ls.length,¬ dW s one (eX s m ws) (bW m.2 ws) (ovr (bW m.2 ws) m) ((((aL 0 (s.n:Int)).take i).length:Int) - s.depth) ls[((aL 0 (s.n:Int)).take i).length]) ↔ ∃ hi:i < ls.length,¬ dW s one (eX s m ws) (bW m.2 ws) (ovr (bW m.2 ws) m) ((i:Int) - s.depth) ls[i] by simp only [el]]
   exact ⟨hi,c⟩
  simp only [cZ,lI] at kf
  rw [er] at e2
  rcases kf with ⟨⟨p,x,q,q1,⟨hi,q2⟩⟩,q3⟩ | ⟨q1,ρ2,q2,a,b,c,d,e,f,g,k,rfl⟩
  ·refine .inr ⟨λz=>q2 (z.lk _ hi),?_⟩
   rw [em] at q3
   simp only [ba,shr] at e1 ef q3 ⊢
   simp_arith only [ip,ef,we,e1,hsm,e2,ed,g1,g2,gy,elen,r1,q3]
  ·refine .inl ⟨⟨f1,f2,all_of q1⟩,?_⟩
   rw [em] at q2
   simp only [ba,shr] at e1 ef q2 ⊢
   simp_arith only [ip,ef,we,e1,hsm,e2,ed,g1,g2,gy,elen,r1,q2]
 ·refine .inr ⟨λz=>f1 ⟨z.sm,z.fm⟩,?_⟩
  simp_arith only [ip,ef,wt]
end My
set_option Elab.async false
set_option linter.all false
set_option maxRecDepth 100000
set_option exponentiation.threshold 9000
namespace My
open L2 Tw Bar
theorem ZiW {s:Shp} (h:s.Ok) {one:Aa} {A B:Int->Int} {D D' c e:Int} (hD:c * D=e * D') (hA:∀ x,-s.depth<=x->x<=s.top->c * A x=e * B x) {y:Int} (y2:y<=s.top):c * s.wg one y A D=e * s.wg one y B D':=by
 unfold Shp.wg
 rw [<- lD,<- lD]
 refine nQ λf hf=>?_
 have k:=hA _ (ig s y f) (ie h y2 hf)
 rw [xZ,xZ,k,<- Int.mul_assoc,<- Int.mul_assoc,hD]
theorem rn {s:Shp} (h:s.Ok) {one:Aa} {A B:Int->Int} {D D' c e:Int} (hD:c * D=e * D') (hA:∀ x,-s.depth<=x->x<=s.top->c * A x=e * B x) {x y:Int} (y2:y<=s.top):c * vB s one A D x y=e * vB s one B D' x y:=by
 unfold vB
 rw [xZ,xZ,ZiW h hD hA y2]
 have e1:c * (D * one.sum * s.ord x y)=c * D * (one.sum * s.ord x y):=by grind
 have e2:e * (D' * one.sum * s.ord x y)=e * D' * (one.sum * s.ord x y):=by grind
 rw [e1,e2,hD]
theorem Zdu {s:Shp} (h:s.Ok) {one:Aa} {A B:Int->Int} {D D' c e M M':Int} (c0:0 < c) (e0:0 < e) (hD:c * D=e * D') (hM:c * M=e * M') (hA:∀ x,-s.depth<=x->x<=s.top->c * A x=e * B x) {x y:Int} (x1:-s.depth<=x) (x2:x<=s.top) (y2:y<=s.top) (k:dW s one B D' M' x y):dW s one A D M x y:=by
 obtain ⟨k1,k2⟩:=k
 have eq:c * (one.sum * (M+A x))=e * (one.sum * (M'+B x)):=by
  have:c * (one.sum * (M+A x))=one.sum * (c * M+c * A x):=by grind
  rw [this,hM,hA x x1 x2]
  grind
 refine ⟨yC (xB c0) ?_,λz z1 z2=>yB ?_ c0⟩
 ·rw [eq,rn h hD hA y2,k1]
 ·rw [eq,rn h hD hA z2]
  exact wO (k2 z z1 z2) (wC e0)
theorem ZmS {s:Shp} {one:Aa} {lv:Nat->Int} (r:RuOk s one lv) (hf:bz s one lv=lv) {i:Nat} (hi:i < s.n):dW s one (wB s one lv) (aZ s one lv) (zB s one lv 0) ((i:Int) - s.depth) (lv i):=by
 refine ⟨ZhE r hi,λz z1 z2=>?_⟩
 rw [ZhE r hi]
 exact Zor r hf hi z1 z2
theorem Zah {f:Int->Int}:∀ {l:Aa} {k:Nat},(∀ w∈l,0<=w)->(∀ x:Int,f x<=1)->ws f k l<=l.sum
 | [],k,_,_=>by rw [ws]; exact wK _
 | w::l,k,h0,hf=>by
  have ih:=Zah (l:=l) (k:=k+1) (λv hv=>h0 v (v3 _ hv)) hf
  have h1:=wO (hf k) (h0 w (by simp))
  rw [ws,xA]
  omega
theorem Zki {s:Shp} {one:Aa} {lv:Nat->Int} (r:RuOk s one lv) (s13:nb 13 one.sum):nb 208 (aZ s one lv):=by
 refine qa (b:=13) r.n9 (λi j hi hj=>?_) (v4 _)
 have p0:0<=jI s one (lv i) j:=nR r.hd.w0 λx=>by split <;> decide
 have p1:jI s one (lv i) j<=one.sum:=Zah r.hd.w0 λx=>by split <;> decide
 have sp:=r.hd.pos
 unfold cw
 rw [if_neg (by omega)]
 split
 ·exact s13
 ·unfold nb at *
  split <;> omega
noncomputable def dc (t b:Int):Int×Int:=(Gc.cp t b,Gc.b9 t b)
theorem iu {t b:Int} (h:0 < b):IsSh (dc t b):=by
 obtain ⟨_,_,a,b⟩:=Gc.mN (t:=t) (b:=b) (by omega)
 exact ⟨a,b⟩
theorem tS {t b:Int} (h:0 < b):(dc t b).1 * b=t * (dc t b).2:=by
 obtain ⟨e1,e2,_,_⟩:=Gc.mN (t:=t) (b:=b) (by omega)
 show Gc.cp t b * b=t * Gc.b9 t b
 generalize Gc.cp t b=p at *
 generalize Gc.b9 t b=q at *
 generalize Gc.den t b=g at *
 rw [e1,e2]
 grind
theorem ZcS {D t b:Int} (h:0 < b) (hd:(dc t b).2 ∣ D):b * ovr D (dc t b)=D * t:=by
 have e1:=mr (iu h).pos hd
 have e2:=tS (t:=t) h
 have p:=(iu (t:=t) h).pos
 refine xx (xB p) ?_
 have:b * ovr D (dc t b) * (dc t b).2=b * (ovr D (dc t b) * (dc t b).2):=by grind
 rw [this,e1]
 grind
theorem Zkd {t b u c:Int} (hb:0 < b) (hc:0 < c) (h:t * c=u * b):fj t b=fj u c:=by
 obtain ⟨a1,a2,a3,a4⟩:=Gc.mN (t:=t) (b:=b) (by omega)
 obtain ⟨b1,b2,b3,b4⟩:=Gc.mN (t:=u) (b:=c) (by omega)
 have hd:Gc.den t b≠0:=Gc.nh (by omega)
 have he:Gc.den u c≠0:=Gc.nh (by omega)
 obtain ⟨e1,e2⟩:=Gc.ZmO a3 b3 a4 b4 (by
  refine yC (Int.mul_ne_zero hd he) ?_
  have q1:Gc.den t b * Gc.den u c * (Gc.cp t b * Gc.b9 u c)=(Gc.den t b * Gc.cp t b) * (Gc.den u c * Gc.b9 u c):=by grind
  have q2:Gc.den t b * Gc.den u c * (Gc.cp u c * Gc.b9 t b)=(Gc.den u c * Gc.cp u c) * (Gc.den t b * Gc.b9 t b):=by grind
  rw [q1,q2,<- a1,<- a2,<- b1,<- b2,h])
 unfold fj
 rw [e1,e2]
noncomputable def fi (s:Shp) (one:Aa) (lv:Nat->Int):List (Int×Int):=(aI (-s.depth) s.n).map λx=>dc (wB s one lv x) (aZ s one lv)
theorem ZmN (s:Shp) (one:Aa) (lv:Nat->Int):mM s one lv=ba (dc (zB s one lv 0) (aZ s one lv)) (fi s one lv) (bR s lv):=by
 unfold mM ba fi
 rw [ww]
 rfl
theorem Zbi (s:Shp) (one:Aa) (lv:Nat->Int):(fi s one lv).length=s.n:=by unfold fi; rw [vZ,gA]
theorem jT (s:Shp) (lv:Nat->Int):(bR s lv).length=s.n:=by unfold bR; rw [vZ,wW]
theorem tR {s:Shp} {lv:Nat->Int} {i:Nat} (hi:i < (bR s lv).length):(bR s lv)[i]=lv i:=by
 have e:(bR s lv)[i]?=some (lv i):=by
  rw [jT] at hi
  unfold bR
  rw [v5,wm hi]
  rfl
 rw [v6 hi] at e
 exact wG e
theorem Zbj {s:Shp} {one:Aa} {lv:Nat->Int} {i:Nat} (hi:i < s.n):(fi s one lv)[i]?=some (dc (wB s one lv ((i:Int) - s.depth)) (aZ s one lv)):=by
 unfold fi aI
 rw [ww,v5,wm hi]
 have:-s.depth+(i:Int)=(i:Int) - s.depth:=by omega
 show some (dc (wB s one lv (-s.depth+(i:Int))) _)=_
 rw [this]
theorem ZmT {s:Shp} {one:Aa} {lv:Nat->Int} (r:RuOk s one lv) (hf:bz s one lv=lv):LkP s one (dc (zB s one lv 0) (aZ s one lv)) (fi s one lv) (bR s lv):=by
 have sp:=ga r
 have h:=r.h
 have hn:=h.n_eq
 refine ⟨iu sp,λi hi=>⟨⟨_,Zbj hi,(iO _).mpr (iu sp)⟩,lv i,?_,r.lo i hi,r.hi i hi⟩,λi hi=>?_⟩
 ·have hi':i < (bR s lv).length:=by rw [jT]; exact hi
  rw [v6 hi',tR hi']
 ·rw [tR hi]
  rw [jT] at hi
  have w0:∀ p∈fi s one lv,0 < p.2:=λp hp=>by
   unfold fi at hp
   obtain ⟨x,_,rfl⟩:=wP.mp hp
   exact (iu sp).pos
  refine Zdu h sp (qi (iu sp).pos w0) (yW _ _) (ZcS sp qj) (λx x1 x2=>?_) (by omega) (by omega) (r.hi i hi) (ZmS r hf hi)
  have hk:(x+s.depth).toNat < s.n:=by omega
  have ex:(((x+s.depth).toNat:Nat):Int) - s.depth=x:=by omega
  have e1:=Zbj (one:=one) (lv:=lv) hk
  rw [ex] at e1
  unfold eX cb
  rw [v5,e1]
  exact ZcS sp (u6 (xF e1))
end My
set_option Elab.async false
set_option linter.all false
set_option maxRecDepth 100000
set_option exponentiation.threshold 9000
namespace My
open L2 Tw
theorem aW (n:Int):cF [.pen,.d (.int n)]=.draw n λr=>.ret (.d (.int r)):=rfl
theorem Zkz:Al (pd [.pen]) 3 λr=>∃ p:Int,r=.d (.int p)/\0<=p/\p<=1000000:=by
 simp_arith [pd,aW]
 refine cG (n:=2) (by decide) (by decide) (by decide) λw w0 w1=>?_
 by_cases c:w < 4
 ·simp_arith [aW,decide_eq_true c]
  refine cG (n:=1) (by decide) (by decide) (by decide) λf f0 f1=>?_
  have g1:fit f=true:=aK (show nb 20 f from bM (by show -1048576 < _; omega) (by show _ < 1048576; omega)) (by decide)
  have g2:fit (1:Int)=true:=aK (show nb 20 (1:Int) from bM (by decide) (by decide)) (by decide)
  have g3:fit (0:Int)=true:=aK (show nb 20 (0:Int) from bM (by decide) (by decide)) (by decide)
  by_cases c2:w > 0
  ·simp_arith [aW,decide_eq_true c2,if_true,g1,g2,yL]
   refine ce ?_
   exact ⟨f,rfl,by omega,by omega⟩
  ·simp_arith [aW,decide_eq_false c2,xO,if_false,g1,g3,x6]
   refine ce ?_
   exact ⟨0,rfl,by decide,by decide⟩
 ·simp_arith [aW,decide_eq_false c]
  refine cG (n:=1) (by decide) (by decide) (by decide) λa a0 a1=>?_
  try simp_arith [aW]
  refine cG (n:=0) (by decide) (by decide) (by decide) λb b0 b1=>?_
  obtain ⟨y,hy,y0,y1⟩:=tw (xs:=[PyData.int a,.int (1000000 - b)]) (lo:=0) (hi:=1000000) (r:=w - 4) (by simp [kZ]; omega) (by omega) (by simp; omega)
  have e6:(10:Int) ^ Int.toNat 6=1000000:=rfl
  simp_arith [aW,e6,hy]
  exact ce ⟨y,rfl,y0,y1⟩
theorem Zkx {ns:Aa} (hl:ns.length<=100) (A B C:Sl):Al (t5 [.pen,A,B,.own (ns.map PyData.int),C]) 3 λo=>∃ y:Int,o=.next [.pen,A,B,.own ((ns++[y]).map PyData.int),C]/\0<=y/\y<=1000:=by
 have hs:small ((ns.map PyData.int).length+1)=true:=cj (by rw [vZ]; omega)
 simp_arith [t5,aW]
 refine cG (n:=2) (by decide) (by decide) (by decide) λa a0 a1=>?_
 try simp_arith [aW]
 refine cG (n:=1) (by decide) (by decide) (by decide) λb b0 b1=>?_
 try simp_arith [aW]
 refine cG (n:=0) (by decide) (by decide) (by decide) λw w0 w1=>?_
 obtain ⟨y,hy,y0,y1⟩:=tw (xs:=[PyData.int 0,.int 1,.int a,.int b]) (lo:=0) (hi:=1000) (by simp [kZ]; omega) w0 w1
 simp_arith [aW,hy,hs]
 have em:ns.map PyData.int++[PyData.int y]=(ns++[y]).map PyData.int:=by rw [xn]; rfl
 rw [em]
 exact ce ⟨y,rfl,y0,y1⟩
structure WtAt (many k:Nat) (ls:Aa):Prop where
 len:ls.length=many
 le:∀ n∈ls,0<=n/\n<=1000
 at':∃ v,ls[k]?=some v/\1<=v
theorem Zkw {many k:Nat} (m1:many<=20) (hk:k < many):Al (o8 [.pen,.d (.int many),.d (.int k)]) (3 * many) λr=>∃ ls:Aa,r=.d (tI ls)/\WtAt many k ls:=by
 have r1:fG [.int (many:Int)]=.ret (aL 0 many):=iB (eZ (by omega) (by omega))
 simp_arith only [o8,aW,r1]
 refine fb (n:=3 * many) (n':=0) (P:=λo=>∃ (ns:Aa) (C:Sl),o=.next [.pen,.d (.int many),.d (.int k),.own (ns.map PyData.int),C]/\ns.length=many/\∀ n∈ns,0<=n/\n<=1000) ?_ (by omega) ?_
 ·refine np (n:=3) (λpre ρ=>∃ (ns:Aa) (C:Sl),ρ=[.pen,.d (.int many),.d (.int k),.own (ns.map PyData.int),C]/\ns.length=pre.length/\∀ n∈ns,0<=n/\n<=1000) ⟨[],_,rfl,rfl,λ_ q=>by cases q⟩ (by rw [cM]; omega) ?_ ?_
  ·rintro pre x post ρ e ⟨ns,C,rfl,hl,hn⟩
   obtain ⟨rfl,hpre⟩:=jD e
   refine ⟨_,rfl,vp (Zkx (by omega) _ _ _) (v4 _) ?_⟩
   rintro _ ⟨y,rfl,y0,y1⟩
   refine ⟨_,rfl,ns++[y],_,rfl,by simp [hl],λn hn'=>?_⟩
   rcases wU.mp hn' with hq | hq
   ·exact hn n hq
   ·simp at hq
    subst hq
    exact ⟨y0,y1⟩
  ·rintro ρ ⟨ns,C,rfl,hl,hn⟩
   rw [cM] at hl
   exact ⟨ns,C,rfl,by omega,hn⟩
 ·rintro _ ⟨ns,C,rfl,hl,hn⟩
  have hkl:k < ns.length:=by omega
  have hi:de (ns.map PyData.int).length (k:Int)=some k:=by
   rw [vZ]
   unfold de
   rw [if_pos (by omega),if_pos (by omega)]
   congr 1
  have hat:bf (ns.map PyData.int) (k:Int)=some (.int ns[k]):=dl (by omega) (by rw [v5,show ((k:Int)).toNat=k by omega,v6 hkl]; rfl)
  have hv:=hn ns[k] (wN hkl)
  have es:(ns.map PyData.int).set k (.int (cf 1 ns[k]))=(ns.set k (cf 1 ns[k])).map PyData.int:=zi.symm
  have hm:1<=cf 1 ns[k]/\cf 1 ns[k]<=1000:=by unfold cf; split <;> omega
  simp_arith only [aW,hat,uz hi,es]
  refine ce ⟨ns.set k (cf 1 ns[k]),rfl,by rw [wx,hl],λn hn'=>?_,cf 1 ns[k],by rw [wA hkl],hm.1⟩
  rcases zF hn' with q | q
  ·exact hn n q
  ·subst q; omega
structure Cs (s:Shp) (one:Aa):Prop where
 dr:s.Dr
 td:s.top+s.depth<=7
 len:one.length<=8
 le:∀ n∈one,0<=n/\n<=1000
 big:∃ (k:Nat) (v:Int),s.top+s.depth<=k/\one[k]?=some v/\1<=v
theorem ZaU:∀ {ns:Aa} {k i:Nat} {v:Int},ns[i]?=some v->0 < v->((k+i:Nat):Int)∈fh k ns
 | [],k,i,v,h,_=>by simp at h
 | n::ns,k,0,v,h,hv=>by
  simp at h
  subst h
  rw [fh,if_pos hv]
  exact wX ..
 | n::ns,k,i+1,v,h,hv=>by
  have ih:=ZaU (ns:=ns) (k:=k+1) (i:=i) (by simpa using h) hv
  have e:k+1+i=k+(i+1):=by omega
  rw [e] at ih
  rw [fh]
  split
  ·exact v3 _ ih
  ·exact ih
theorem ZnC {one:Aa} {k:Nat} {v:Int} (h:one[k]?=some v) (hv:1<=v):(k:Int)<=great one:=by
 have hm:=ZaU (k:=0) h (by omega)
 rw [Nat.zero_add] at hm
 exact (oY (List.ne_nil_of_mem hm)).2 _ hm
theorem ZaO {c:Int}:∀ {l:Aa},(∀ n∈l,0<=n/\n<=c)->0<=l.sum/\l.sum<=c * l.length
 | [],_=>by simp
 | n::l,h=>by
  have ih:=ZaO (l:=l) λv hv=>h v (v3 _ hv)
  have h1:=h n (by simp)
  rw [xA,wc,Int.natCast_add,xZ]
  simp only [Int.natCast_one,yL]
  omega
theorem Cs.gr {s:Shp} {one:Aa} (h:Cs s one):s.top+s.depth<=great one:=by
 obtain ⟨k,v,h1,h2,h3⟩:=h.big
 exact Int.le_trans h1 (ZnC h2 h3)
theorem Cs.ps {s:Shp} {one:Aa} (h:Cs s one):∃ w∈one,w > 0:=by
 obtain ⟨k,v,h1,h2,h3⟩:=h.big
 exact ⟨v,xF h2,by omega⟩
theorem Cs.ok {s:Shp} {one:Aa} (h:Cs s one):DayOk 8 one:=⟨h.len,h.ps,λn hn=>by have:=h.le n hn; omega⟩
theorem Cs.B {s:Shp} {one:Aa} (h:Cs s one):DayB one:=h.ok.B (by decide)
theorem Cs.n8 {s:Shp} {one:Aa} (h:Cs s one):s.n<=8:=by have:=h.td; have:=h.dr.ok.n_eq; omega
theorem Cs.s13 {s:Shp} {one:Aa} (h:Cs s one):nb 13 one.sum:=by
 obtain ⟨a,b⟩:=ZaO h.le
 have:=h.len
 exact bM (by show -8192 < _; omega) (by show _ < 8192; omega)
theorem WtAt.cs {s:Shp} {many k:Nat} {ls:Aa} (h:WtAt many k ls) (hs:s.Dr) (t7:s.top+s.depth<=7) (hk:s.top+s.depth<=k) (m8:many<=8):Cs s ls:=by
 obtain ⟨v,h1,h2⟩:=h.at'
 exact ⟨hs,t7,by rw [h.len]; exact m8,h.le,k,v,hk,h1,h2⟩
theorem ZkB {few:Int} (f0:0<=few) (f1:few<=7):Al (ph [.pen,.d (.int few)]) 60 λr=>∃ (s:Shp) (one:Aa),r=.d (.tuple [s.d,tI one])/\Cs s one:=by
 have r1:fG [.int 7]=.ret (aL 0 7):=iB rfl
 have hs:small (aL 0 7).length=true:=cj (by rw [cM]; decide)
 simp_arith [ph,aW]
 refine cG (n:=59) (by decide) (by decide) (by decide) λt t0 t1=>?_
 obtain ⟨y,hy,y0,y1⟩:=tw (xs:=[PyData.int 8,.int (few+1)]) (lo:=1) (hi:=8) (r:=if decide (t > 0)=true then 1 else 0) (by simp [kZ]; omega) (by split <;> omega) (by simp; split <;> omega)
 simp_arith [aW,hy]
 refine cG (n:=58) (by omega) (by omega) (by decide) λpc p0 p1=>?_
 try simp_arith [aW]
 refine cG (n:=57) (by omega) (by omega) (by decide) λd d0 d1=>?_
 simp_arith [aW,r1,hs]
 refine fb (n:=21) (n':=36) (Zqw (n:=3) (P:=kZ 0 1000000) (Q:=λys=>∃ ps:Aa,ys=ps.map PyData.int/\ps.length=7/\∀ p∈ps,0<=p/\p<=1000000) (by rw [cM]; decide) (λx hx=>?_) λys hl hys=>?_) (by decide) ?_
 ·simp_arith [Zcz,aW]
  refine fb (n:=3) (n':=0) Zkz (by decide) ?_
  rintro _ ⟨p,rfl,p0,p1⟩
  simp_arith [aW]
  exact ce ⟨p,rfl,p0,p1⟩
 ·obtain ⟨ps,rfl,hp⟩:=ZdX hys
  rw [vZ,cM] at hl
  exact ⟨ps,rfl,hl,hp⟩
 ·rintro _ ⟨ps,rfl,hpl,hp⟩
  obtain ⟨a1,a2,a3,a4,a5,a6,a7,rfl⟩:=ZmW hpl
  simp_arith [aW]
  refine cG (n:=35) (by omega) (by omega) (by decide) λq q0 q1=>?_
  try simp_arith [aW]
  refine cG (n:=34) (by omega) (by omega) (by decide) λu u0 u1=>?_
  obtain ⟨many,em⟩:∃ many:Nat,pc+1+q=(many:Int):=⟨(pc+1+q).toNat,by omega⟩
  obtain ⟨k,ek⟩:∃ k:Nat,pc+u=(k:Int):=⟨(pc+u).toNat,by omega⟩
  rw [em] at u1
  simp_arith [aW,em,ek]
  refine fb (n:=3 * many) (n':=0) (Zkw (by omega) (by omega)) (by omega) ?_
  rintro _ ⟨ls,rfl,hls⟩
  simp_arith [aW]
  have hd:(Shp.mk (pc - d) d a1 a2 a3 a4 a5 a6 a7).Dr:=⟨by show 0<=pc - d; omega,d0,by show pc - d+d<=39; omega,hp⟩
  exact ce ⟨⟨pc - d,d,a1,a2,a3,a4,a5,a6,a7⟩,ls,by rw [<- Zkb],hls.cs hd (by show pc - d+d<=7; omega) (by show pc - d+d<=_; omega) (by omega)⟩
end My
set_option Elab.async false
set_option linter.all false
set_option maxRecDepth 100000
set_option exponentiation.threshold 9000
namespace My
open L2 Tw Bar
structure Lst (s:Shp) (one:Aa) (lv:Nat->Int):Prop where
 r:RuOk s one lv
 st:bz s one lv=lv
 e:mJ [.d s.d,.d (tI one)]=.ret (.d (mM s one lv))
theorem Cs.lst {s:Shp} {one:Aa} (h:Cs s one):∃ lv,Lst s one lv:=by
 obtain ⟨lv,r,hf,e⟩:=Zoj h.dr.ok h.n8 h.B h.gr h.ps
 exact ⟨lv,r,hf,e⟩
end My
set_option Elab.async false
set_option linter.all false
set_option maxRecDepth 100000
set_option exponentiation.threshold 9000
namespace My
open L2 Tw
noncomputable def dR:PyData->Bool
 | .int _=>true
 | _=>false
noncomputable def dt (x:PyData) (a b:Int):Bool:=match x with
 | .int n=>decide (a<=n) && decide (n<=b)
 | _=>false
noncomputable def eW (top:Int):Int->List PyData->Bool
 | _,[]=>true
 | lo,y::ys=>dt y lo top && eW top (lo+1) ys
noncomputable def lB (s:Shp):PyData->Bool
 | .tuple ys=>((ys.length:Int) == s.top+s.depth+1) && eW s.top (-s.depth) ys
 | _=>false
theorem mS (s:Shp) (ys:z9):lB s (.tuple ys)=(((ys.length:Int) == s.top+s.depth+1) && eW s.top (-s.depth) ys):=rfl
theorem j3 {x:PyData} (h:∀ xs,x≠.tuple xs):gJ "tuple" (fy x)=false:=by
 cases x with
 | tuple xs=>exact absurd rfl (h xs)
 | none=>rfl
 | bool _=>rfl
 | int _=>rfl
 | str _=>rfl
 | list _=>rfl
 | dict _=>rfl
theorem cQ (xs:z9):gJ "tuple" (fy (.tuple xs))=true:=rfl
theorem iz (x:PyData):kR [.d x]=.ret (.d (.bool (dR x))):=by
 cases x <;> (simp_arith [kR]; rfl)
theorem ZnG (x:PyData) (a b:Int):gE [.d x,.d (.int a),.d (.int b)]=.ret (.d (.bool (dt x a b))):=by
 cases x with
 | int n =>
  have e:=iz (.int n)
  simp_arith [gE,e,dR,dt]
  cases h1:decide (a<=n) <;> cases h2:decide (n<=b) <;> simp_arith [h1,h2,xr,xg,yM,xN]
 | none=>have e:=iz .none; simp_arith [gE,e,dR,dt]
 | bool c=>have e:=iz (.bool c); simp_arith [gE,e,dR,dt]
 | str c=>have e:=iz (.str c); simp_arith [gE,e,dR,dt]
 | list c=>have e:=iz (.list c); simp_arith [gE,e,dR,dt]
 | tuple c=>have e:=iz (.tuple c); simp_arith [gE,e,dR,dt]
 | dict c=>have e:=iz (.dict c); simp_arith [gE,e,dR,dt]
theorem Zdj {h:PyData->Tr PyData} {f:PyData->Bool}:∀ {xs:z9},(∀ x∈xs,h x=.ret (.bool (f x)))->bG h xs=.ret ((xs.map f).map PyData.bool)
 | [],_=>rfl
 | x::xs,hx=>by
  rw [bG,hx x wX,Tr.ret_bind,Zdj λy hy=>hx y (v3 _ hy)]
  rfl
theorem ZiD {f:PyData->Bool}:∀ xs:z9,(xs.map f).all id=xs.all f
 | []=>rfl
 | x::xs=>by rw [v9,yK,yK,ZiD xs]; rfl
theorem ZnJ (s:Shp) (x:Int) (y:PyData):pj [.d s.d,.d (.int x),.d y]=.ret (.d (.bool (dt y x s.top))):=by
 have e:=ZnG y x s.top
 simp_arith [pj,e]
theorem Zk2 (lo:Int) (n:Nat):aI lo (n+1)=lo::aI (lo+1) n:=by
 unfold aI
 rw [List.range_succ_eq_map,v9,ww]
 refine congr (congrArg List.cons (by show lo+((0:Nat):Int)=lo; omega)) (w6 λk _=>?_)
 show lo+((k+1:Nat):Int)=lo+1+(k:Int)
 omega
noncomputable def lvs (top:Int):Int->List PyData->List Bool
 | _,[]=>[]
 | lo,y::ys=>dt y lo top::lvs top (lo+1) ys
theorem Zdk (top:Int):∀ (ys:z9) (lo:Int),(lvs top lo ys).all id=eW top lo ys
 | [],_=>rfl
 | y::ys,lo=>by rw [lvs,yK,Zdk top ys,eW]; rfl
theorem Zdl (s:Shp):∀ (ys:z9) (lo:Int),bG (cx (bA (aJ (aj 0) (aJ (aj 1) bx))) sZ [.un,.un,.d s.d]) (b7 ((aI lo ys.length).map PyData.int) ys)=.ret ((lvs s.top lo ys).map PyData.bool)
 | [],lo=>rfl
 | y::ys,lo=>by
  have e:=ZnJ s lo y
  have ih:=Zdl s ys (lo+1)
  have ez:b7 ((aI lo (y::ys).length).map PyData.int) (y::ys)=.tuple [.int lo,y]::b7 ((aI (lo+1) ys.length).map PyData.int) ys:=by
   rw [wc,Zk2]; rfl
  rw [ez,bG,ih]
  simp_arith [sZ,e]
  rfl
theorem Zc7 {s:Shp} (h:s.Ok):(((aL (-s.depth) (s.top+1)).length:Nat):Int)=s.top+s.depth+1:=by
 have:=h.t0
 have:=h.d0
 rw [cM]
 omega
theorem ZnI {s:Shp} (h:s.Ok) {x:PyData} (hl:∀ ys,x=.tuple ys->ys.length<=200):kS [.d s.d,.d x]=.ret (.d (.bool (lB s x))):=by
 have es:=jh h
 have en:bZ cN [.tuple (aL (-s.depth) (s.top+1))]=.ret (.int (s.top+s.depth+1)):=by
  show Tr.ret (PyData.int ((aL (-s.depth) (s.top+1)).length:Nat))=_
  rw [Zc7 h]
 by_cases ht:∃ ys,x=.tuple ys
 ·obtain ⟨ys,rfl⟩:=ht
  have h200:=hl ys rfl
  rw [mS]
  cases h1:((ys.length:Int) == s.top+s.depth+1)
  ·simp_arith [kS,es,en,cQ,h1,we,wt,xg]
  ·have hlen:ys.length=(s.top+1 - -s.depth).toNat:=by have:=eq_of_beq h1; omega
   have em:=Zdl s ys (-s.depth)
   have ez:aL (-s.depth) (s.top+1)=(aI (-s.depth) ys.length).map PyData.int:=by unfold aL; rw [hlen]
   rw [<- ez] at em
   have hs:small (b7 (aL (-s.depth) (s.top+1)) ys).length=true:=cj (by unfold b7; rw [vZ,yr]; omega)
   simp_arith [kS,es,en,cQ,h1,em,hs,Zdk,we,xr]
 ·have hn:=j3 (x:=x) λxs e=>ht ⟨xs,e⟩
  have hd:lB s x=false:=by
   cases x with
   | tuple xs=>exact absurd ⟨xs,rfl⟩ ht
   | _=>rfl
  rw [hd]
  simp_arith [kS,es,hn,wt]
end My
set_option Elab.async false
set_option linter.all false
set_option maxRecDepth 100000
set_option exponentiation.threshold 9000
namespace My
open L2 Tw Bar
noncomputable def cz:PyData->Bool
 | .tuple [.int a,.int b]=>g9 (a,b)
 | _=>false
theorem Zbe (p:Int×Int):cz (shr p)=g9 p:=rfl
theorem Zbf {xs:z9} (h:xs.length≠2):cz (.tuple xs)=false:=by
 rcases xs with _ | ⟨a,_ | ⟨b,_ | ⟨c,r⟩⟩⟩
 ·rfl
 ·cases a <;> rfl
 ·exact absurd rfl h
 ·cases a <;> cases b <;> rfl
theorem n6 {u v:PyData} (h:(dR u && dR v)=false):cz (.tuple [u,v])=false:=by
 cases u <;> cases v <;> first | rfl | (simp [dR] at h)
theorem Zea {x:PyData} (hx:∀ a b,x=.tuple [.int a,.int b]->nb 7000 b):gF [.d x]=.ret (.d (.bool (cz x))):=by
 by_cases ht:∃ ys,x=.tuple ys
 ·obtain ⟨xs,rfl⟩:=ht
  by_cases hl:xs.length=2
  ·obtain ⟨u,v,rfl⟩:∃ u v,xs=[u,v]:=by
    rcases xs with _ | ⟨a,_ | ⟨b,_ | ⟨c,r⟩⟩⟩
    ·simp at hl
    ·simp at hl
    ·exact ⟨a,b,rfl⟩
    ·simp at hl
   have e1:=iz u
   have e2:=iz v
   cases hu:dR u
   ·rw [n6 (by rw [hu]; rfl)]
    rw [hu] at e1
    simp_arith [gF,cQ,iM,we,e1,wt]
   ·cases hv:dR v
    ·rw [n6 (by rw [hv,xN])]
     rw [hu] at e1
     rw [hv] at e2
     simp_arith [gF,cQ,iM,we,e1,e2,wt]
    ·obtain ⟨a,rfl⟩:∃ a:Int,u=.int a:=by cases u <;> first | exact ⟨_,rfl⟩ | cases hu
     obtain ⟨b,rfl⟩:∃ b:Int,v=.int b:=by cases v <;> first | exact ⟨_,rfl⟩ | cases hv
     have hb:=hx a b rfl
     have e3:=uI (a:=a) (b:=b) (aP hb (by decide))
     rw [hu] at e1
     rw [hv] at e2
     show _=Tr.ret (Re.d (.bool (decide (0 < b) && (Nat.gcd a.natAbs b.natAbs == 1))))
     by_cases hp:b < 1
     ·rw [decide_eq_false (show ¬ 0 < b by omega)]
      simp_arith [gF,cQ,iM,we,e1,e2,decide_eq_true hp,xg]
     ·have eg:(((Nat.gcd a.natAbs b.natAbs:Nat):Int) == 1)=(Nat.gcd a.natAbs b.natAbs == 1):=by
       by_cases h1:Nat.gcd a.natAbs b.natAbs=1
       ·rw [h1]; rfl
       ·rw [beq_eq_false_iff_ne.mpr h1]
        exact beq_eq_false_iff_ne.mpr (by omega)
      rw [decide_eq_true (show 0 < b by omega)]
      simp_arith [gF,cQ,iM,we,e1,e2,decide_eq_false hp,e3,eg,xr]
  ·rw [Zbf hl]
   have e:(!((xs.length:Nat):Int) == 2)=true:=by rw [beq_eq_false_iff_ne.mpr (by omega)]; rfl
   simp_arith [gF,cQ,we,e]
 ·have hn:=j3 (x:=x) λxs e=>ht ⟨xs,e⟩
  have hd:cz x=false:=by
   cases x with
   | tuple xs=>exact absurd ⟨xs,rfl⟩ ht
   | _=>rfl
  rw [hd]
  simp_arith [gF,hn,wt]
def Bt (x:PyData):Prop:=∀ a b,x=.tuple [.int a,.int b]->nb 7000 b
noncomputable def fY (s:Shp):PyData->Bool
 | .tuple ys=>((ys.length:Int) == s.top+s.depth+1) && ys.all cz
 | _=>false
theorem lE (s:Shp) (ys:z9):fY s (.tuple ys)=(((ys.length:Int) == s.top+s.depth+1) && ys.all cz):=rfl
theorem ZnF {s:Shp} (h:s.Ok) {x:PyData} (hl:∀ ys,x=.tuple ys->ys.length<=200/\∀ y∈ys,Bt y):kQ [.d s.d,.d x]=.ret (.d (.bool (fY s x))):=by
 have es:=jh h
 have en:bZ cN [.tuple (aL (-s.depth) (s.top+1))]=.ret (.int (s.top+s.depth+1)):=by
  show Tr.ret (PyData.int ((aL (-s.depth) (s.top+1)).length:Nat))=_
  rw [Zc7 h]
 by_cases ht:∃ ys,x=.tuple ys
 ·obtain ⟨ys,rfl⟩:=ht
  obtain ⟨h200,hy⟩:=hl ys rfl
  rw [lE]
  cases h1:((ys.length:Int) == s.top+s.depth+1)
  ·simp_arith [kQ,es,en,cQ,h1,we,wt,xg]
  ·have em:=Zdj (h:=cx (aj 0) sY [.un]) (f:=cz) (xs:=ys) λy hm=>by
    have e:=Zea (hy y hm)
    simp_arith [sY,e]
   have hs:small ys.length=true:=cj (by omega)
   simp_arith [kQ,es,en,cQ,h1,em,hs,ZiD,we,xr]
 ·have hn:=j3 (x:=x) λxs e=>ht ⟨xs,e⟩
  have hd:fY s x=false:=by
   cases x with
   | tuple xs=>exact absurd ⟨xs,rfl⟩ ht
   | _=>rfl
  rw [hd]
  simp_arith [kQ,es,hn,wt]
noncomputable def jd (s:Shp):PyData->Bool
 | .tuple [m,w,l]=>cz m && (fY s w && lB s l)
 | _=>false
theorem uv {s:Shp} {xs:z9} (h:xs.length≠3):jd s (.tuple xs)=false:=by
 rcases xs with _ | ⟨a,_ | ⟨b,_ | ⟨c,_ | ⟨d,r⟩⟩⟩⟩
 ·rfl
 ·rfl
 ·rfl
 ·exact absurd rfl h
 ·rfl
structure Tm (x:PyData):Prop where
 m:∀ m w l,x=.tuple [m,w,l]->Bt m
 w:∀ m w l,x=.tuple [m,w,l]->∀ ys,w=.tuple ys->ys.length<=200/\∀ y∈ys,Bt y
 l:∀ m w l,x=.tuple [m,w,l]->∀ ys,l=.tuple ys->ys.length<=200
theorem Zec {s:Shp} (h:s.Ok) {x:PyData} (hx:Tm x):iq [.d s.d,.d x]=.ret (.d (.bool (jd s x))):=by
 by_cases ht:∃ ys,x=.tuple ys
 ·obtain ⟨xs,rfl⟩:=ht
  by_cases hl:xs.length=3
  ·obtain ⟨m,w,l,rfl⟩:=tU hl
   have e1:=Zea (hx.m m w l rfl)
   have e2:=ZnF h (hx.w m w l rfl)
   have e3:=ZnI h (hx.l m w l rfl)
   show _=Tr.ret (Re.d (.bool (cz m && (fY s w && lB s l))))
   cases c1:cz m
   ·rw [c1] at e1
    simp_arith [iq,cQ,fZ,we,e1,xg]
   ·rw [c1] at e1
    cases c2:fY s w
    ·rw [c2] at e2
     simp_arith [iq,cQ,fZ,we,e1,e2,xg,xr]
    ·rw [c2] at e2
     simp_arith [iq,cQ,fZ,we,e1,e2,e3,xr]
  ·rw [uv hl]
   have e:(!((xs.length:Nat):Int) == 3)=true:=by rw [beq_eq_false_iff_ne.mpr (by omega)]; rfl
   simp_arith [iq,cQ,we,e]
 ·have hn:=j3 (x:=x) λxs e=>ht ⟨xs,e⟩
  have hd:jd s x=false:=by
   cases x with
   | tuple xs=>exact absurd ⟨xs,rfl⟩ ht
   | _=>rfl
  rw [hd]
  simp_arith [iq,hn,wt]
noncomputable def bE:Int->List (Int×Int)->Int
 | D,[]=>D
 | D,p::ws=>bE (D * p.2.fdiv ((Nat.gcd D.natAbs p.2.natAbs:Nat):Int)) ws
theorem uo {D b:Int} (hD:0 < D) (hb:0 < b):∃ g q r:Int,((Nat.gcd D.natAbs b.natAbs:Nat):Int)=g/\0 < g/\g<=b/\D=g * q/\b=g * r/\0 < r/\b.fdiv g=r:=by
 have g0:0 < Nat.gcd D.natAbs b.natAbs:=zL _ (by omega)
 have d1:((Nat.gcd D.natAbs b.natAbs:Nat):Int) ∣ D:=Int.ofNat_dvd_left.mpr (Nat.gcd_dvd_left _ _)
 have d2:((Nat.gcd D.natAbs b.natAbs:Nat):Int) ∣ b:=Int.ofNat_dvd_left.mpr (Nat.gcd_dvd_right _ _)
 generalize Nat.gcd D.natAbs b.natAbs=g at *
 obtain ⟨q,hq⟩:=d1
 obtain ⟨r,hr⟩:=d2
 have g0':(0:Int) < g:=by omega
 have r0:0 < r:=by
  rw [hr] at hb
  exact Int.pos_of_mul_pos_right hb g0'
 refine ⟨g,q,r,rfl,g0',?_,hq,hr,r0,?_⟩
 ·rw [hr]
  have:=wO (show (1:Int)<=r by omega) (wC g0')
  omega
 ·rw [hr,xw _ (wC g0'),yG _ (xB g0')]
theorem rS {c:Nat}:∀ {ws:List (Int×Int)} {b:Nat} {D:Int},0 < D->nb b D->(∀ p∈ws,0 < p.2/\nb c p.2)->0 < bE D ws/\nb (b+c * ws.length) (bE D ws)
 | [],b,D,h0,h,_=>⟨h0,aP h (by omega)⟩
 | p::ws,b,D,h0,h,hw=>by
  obtain ⟨p0,pn⟩:=hw p (by simp)
  obtain ⟨g,q,r,e1,e2,e3,e4,e5,e6,e7⟩:=uo h0 p0
  have hr:nb c r:=by
   have:r<=p.2:=by
    rw [e5]
    have:=yg (show (1:Int)<=g by omega) (wC e6)
    omega
   unfold nb at *
   omega
  have ih:=rS (ws:=ws) (xb h0 e6) (bF h hr) λq hq=>hw q (v3 _ hq)
  rw [bE,e1,e7,wc,zh]
  exact ⟨ih.1,aP ih.2 (by omega)⟩
theorem Zbm:∀ {ws:List (Int×Int)} {D:Int},D ∣ bE D ws
 | [],D=>Int.dvd_refl _
 | p::ws,D=>by rw [bE]; exact zc (Int.dvd_mul_right D _) Zbm
theorem rT:∀ {ws:List (Int×Int)} {D:Int} {p:Int×Int},0 < D->(∀ p∈ws,0 < p.2)->p∈ws->p.2 ∣ bE D ws
 | q::ws,D,p,h0,hw,h=>by
  obtain ⟨g,u,r,e1,e2,e3,e4,e5,e6,e7⟩:=uo h0 (hw q (by simp))
  rw [bE,e1,e7]
  rcases wo.mp h with rfl | h
  ·refine zc ?_ Zbm
   rw [e5,e4]
   exact ⟨u,by grind⟩
  ·exact rT (xb h0 e6) (λz hz=>hw z (v3 _ hz)) h
theorem os1 {c:Nat} (W:Sl):∀ (ws:List (Int×Int)) (b:Nat) (D:Int) (J2 J3:Sl),0 < D->nb b D->(∀ p∈ws,0 < p.2/\nb c p.2)->b+c * ws.length<=8000->c<=8000->∃ K2 K3:Sl,bV (bA (aJ (aj 2) (aJ (aj 3) bx))) pF (ws.map shr) [W,.d (.int D),J2,J3]=.ret (.next [W,.d (.int (bE D ws)),K2,K3])
 | [],b,D,J2,J3,_,_,_,_,_=>⟨J2,J3,rfl⟩
 | p::ws,b,D,J2,J3,h0,h,hw,hl,hc=>by
  obtain ⟨p0,pn⟩:=hw p (by simp)
  obtain ⟨g,q,r,e1,e2,e3,e4,e5,e6,e7⟩:=uo h0 p0
  rw [wc,zh] at hl
  have hr:nb c r:=by
   have:r<=p.2:=by
    rw [e5]
    have:=yg (show (1:Int)<=g by omega) (wC e6)
    omega
   unfold nb at *
   omega
  have hg:nb c g:=by unfold nb at *; omega
  obtain ⟨K2,K3,e⟩:=os1 W ws (b+c) (D * r) (.d (.int p.1)) (.d (.int p.2)) (xb h0 e6) (bF h hr) (λq hq=>hw q (v3 _ hq)) (by omega) hc
  refine ⟨K2,K3,?_⟩
  have ec:=uI (a:=D) (b:=p.2) (aP pn hc)
  rw [e1] at ec
  have ed:=jf (m:=p.2) (n:=g) (by omega) (aK hg hc)
  rw [e7] at ed
  have f1:=aK h (by omega)
  have f2:=aK hr hc
  have et:pF [W,.d (.int D),.d (.int p.1),.d (.int p.2)]=.ret (.next [W,.d (.int (D * r)),.d (.int p.1),.d (.int p.2)]):=by
   simp_arith [pF,ec,ed,f1,f2]
  have eg:(bA (aJ (aj 2) (aJ (aj 3) bx))) (shr p) [W,.d (.int D),J2,J3]=some [W,.d (.int D),.d (.int p.1),.d (.int p.2)]:=rfl
  rw [v9,eM,eg,Tr.of_some,Tr.ret_bind,gM,et,Tr.ret_bind,fv,e,bE,e1,e7]
theorem os2 {D:Int} (hD:0 < D) {b:Nat} (nD:nb b D) (hb:b<=4000) (X Y:Sl):∀ ws:List (Int×Int),(∀ p∈ws,0 < p.2/\nb 400 p.2/\nb 2000 p.1)->bG (cx (bA (aJ (aj 0) (aJ (aj 1) bx))) ou [X,Y,.d (.int D)]) (ws.map shr)=.ret ((ws.map (ovr D)).map PyData.int)
 | [],_=>rfl
 | p::ws,hw=>by
  obtain ⟨p0,p1,p2⟩:=hw p (by simp)
  have f1:=aK p2 (by decide)
  have f2:=aK (mZ hD p0 nD) (by omega)
  have ed:=jf (m:=D) (n:=p.2) (by omega) (aK p1 (by decide))
  have e0:cx (bA (aJ (aj 0) (aJ (aj 1) bx))) ou [X,Y,.d (.int D)] (shr p)=.ret (.int (ovr D p)):=by
   simp_arith [ou,shr,ed,f1,f2,ovr]
  rw [v9,bG,e0,Tr.ret_bind,os2 hD nD hb X Y ws λq hq=>hw q (v3 _ hq)]
  rfl
theorem Zoa {ws:List (Int×Int)} (hl:ws.length<=9) (hw:∀ p∈ws,0 < p.2/\nb 230 p.2/\nb 1800 p.1):o6 [.d (.tuple (ws.map shr))]=.ret (.d (.tuple [lI (ws.map (ovr (bE 1 ws))),.int (bE 1 ws)])):=by
 obtain ⟨D0,nD⟩:=rS (c:=230) (ws:=ws) (b:=1) (D:=1) (by decide) (by show (1:Int).natAbs < 2 ^ 1; decide) λp hp=>⟨(hw p hp).1,(hw p hp).2.1⟩
 obtain ⟨K2,K3,e1⟩:=os1 (c:=230) (.d (.tuple (ws.map shr))) ws 1 1 .un .un (by decide) (by show (1:Int).natAbs < 2 ^ 1; decide) (λp hp=>⟨(hw p hp).1,(hw p hp).2.1⟩) (by omega) (by decide)
 have e2:=os2 D0 (aP nD (show _<=2200 by omega)) (by decide) .un .un ws λp hp=>⟨(hw p hp).1,aP (hw p hp).2.1 (by decide),aP (hw p hp).2.2 (by decide)⟩
 have hsm:small (ws.map shr).length=true:=cj (by rw [vZ]; omega)
 simp_arith [o6,e1,hsm,e2]
 rfl
end My
set_option Elab.async false
set_option linter.all false
set_option maxRecDepth 100000
set_option exponentiation.threshold 9000
namespace My
open L2 Tw Bar
noncomputable def pw (s:Shp) (ws:List (Int×Int)) (x:Int):Int×Int:=(ws[(x+s.depth).toNat]?).getD (0,1)
theorem Zla {s:Shp} (h:s.Ok) {ws:List (Int×Int)} (hl:ws.length=s.n):(aI (-s.depth) s.n).map (pw s ws)=ws:=by
 apply xK
 intro i
 by_cases hi:i < s.n
 ·unfold aI
  rw [ww,v5,wm hi]
  show some (pw s ws (-s.depth+(i:Int)))=_
  unfold pw
  have ei:(-s.depth+(i:Int)+s.depth).toNat=i:=by omega
  rw [ei,v6 (by omega)]
  rfl
 ·rw [wH (by rw [vZ,gA]; omega),wH (by omega)]
theorem kD {s:Shp} (h:s.Ok) {ws:List (Int×Int)} (hl:ws.length=s.n) {x:Int} (x1:-s.depth<=x) (x2:x<=s.top):pw s ws x∈ws:=by
 have hn:=h.n_eq
 unfold pw
 rw [v6 (show (x+s.depth).toNat < ws.length by omega)]
 exact wN _
theorem vf {s:Shp} (h:s.Ok) {ws:List (Int×Int)} (hl:ws.length=s.n) (D:Int) {x:Int} (x1:-s.depth<=x) (x2:x<=s.top):cb s (ws.map (ovr D)) x=ovr D (pw s ws x):=by
 have hn:=h.n_eq
 unfold cb pw
 rw [v5,v6 (show (x+s.depth).toNat < ws.length by omega)]
 rfl
theorem ZmQ {t b u c:Int} (hb:0 < b) (hc:0 < c):(Gc.cp t b == Gc.cp u c && Gc.b9 t b == Gc.b9 u c)=true ↔ t * c=u * b:=by
 constructor
 ·intro e
  rw [wl,beq_iff_eq,beq_iff_eq] at e
  have e1:=tS (t:=t) hb
  have e2:=tS (t:=u) hc
  have e1:Gc.cp t b * b=t * Gc.b9 t b:=e1
  have e2:Gc.cp u c * c=u * Gc.b9 u c:=e2
  have p:0 < Gc.b9 t b:=(iu hb).pos
  rw [<- e.1,<- e.2] at e2
  generalize Gc.cp t b=p1 at *
  generalize Gc.b9 t b=q1 at *
  refine xx (xB p) ?_
  have a1:t * c * q1=t * q1 * c:=by grind
  have a2:u * b * q1=u * q1 * b:=by grind
  rw [a1,a2,<- e1,<- e2]
  grind
 ·intro e
  have q:=Zkd hb hc e
  unfold fj at q
  simp only [xJ,yu,PyData.int.injEq,and_true] at q
  rw [q.1,q.2]
  simp
structure Num (s:Shp) (m:Int×Int) (ws:List (Int×Int)) (D M:Int) (A:Int->Int):Prop where
 D0:0 < D
 m:m.1 * D=M * m.2
 w:∀ x,-s.depth<=x->x<=s.top->(pw s ws x).1 * D=A x * (pw s ws x).2
theorem ZcX {s:Shp} (h:s.Ok) {one:Aa} {m:Int×Int} {ws:List (Int×Int)} (hl:ws.length=s.n) (m0:0 < m.2) (w0:∀ p∈ws,0 < p.2) {D M D' M':Int} {A A':Int->Int} (u:Num s m ws D M A) (u':Num s m ws D' M' A') {x y:Int} (x1:-s.depth<=x) (x2:x<=s.top) (y2:y<=s.top) (k:dW s one A D M x y):dW s one A' D' M' x y:=by
 refine Zdu h u.D0 u'.D0 (yW D D') ?_ (λz z1 z2=>?_) x1 x2 y2 k
 ·refine xx (xB m0) ?_
  have a1:D * M' * m.2=D * (M' * m.2):=by grind
  have a2:D' * M * m.2=D' * (M * m.2):=by grind
  rw [a1,a2,<- u'.m,<- u.m]
  grind
 ·have p0:=w0 _ (kD h hl z1 z2)
  refine xx (xB p0) ?_
  have a1:D * A' z * (pw s ws z).2=D * (A' z * (pw s ws z).2):=by grind
  have a2:D' * A z * (pw s ws z).2=D' * (A z * (pw s ws z).2):=by grind
  rw [a1,a2,<- u'.w z z1 z2,<- u.w z z1 z2]
  grind
theorem ZcY {s:Shp} (h:s.Ok) {m:Int×Int} {ws:List (Int×Int)} (hl:ws.length=s.n) (m0:0 < m.2) (w0:∀ p∈ws,0 < p.2):Num s m ws (bW m.2 ws) (ovr (bW m.2 ws) m) (eX s m ws):=by
 refine ⟨qi m0 w0,(mr m0 qj).symm,λx x1 x2=>?_⟩
 unfold eX
 rw [vf h hl _ x1 x2]
 have hm:=kD h hl x1 x2
 exact (mr (w0 _ hm) (u6 hm)).symm
theorem Zmj {s:Shp} (h:s.Ok) {m:Int×Int} {ws:List (Int×Int)} (hl:ws.length=s.n) (m0:0 < m.2) (w0:∀ p∈ws,0 < p.2) (D0:0 < bE 1 ws):Num s m ws (m.2 * bE 1 ws) (m.1 * bE 1 ws) (λx=>m.2 * cb s (ws.map (ovr (bE 1 ws))) x):=by
 refine ⟨xb m0 D0,by grind,λx x1 x2=>?_⟩
 rw [vf h hl _ x1 x2]
 have hm:=kD h hl x1 x2
 have e:=mr (w0 _ hm) (rT (D:=1) (by decide) w0 hm)
 have a:m.2 * ovr (bE 1 ws) (pw s ws x) * (pw s ws x).2=m.2 * (ovr (bE 1 ws) (pw s ws x) * (pw s ws x).2):=by grind
 rw [a,e]
 grind
theorem ZmU {s:Shp} (h:s.Ok) {one:Aa} {m:Int×Int} {ws:List (Int×Int)} {ls:Aa} (l1:ws.length=s.n) (l2:ls.length=s.n) (sm:IsSh m) (sw:∀ p∈ws,IsSh p) (hv:ju s ls) {D M:Int} {A:Int->Int} (u:Num s m ws D M A) (k:∀ i (hi:i < ls.length),dW s one A D M ((i:Int) - s.depth) ls[i]):LkP s one m ws ls:=by
 have hn:=h.n_eq
 have w0:∀ p∈ws,0 < p.2:=λp hp=>(sw p hp).pos
 refine ⟨sm,λi hi=>⟨⟨ws[i],v6 (by omega),(iO _).mpr (sw _ (wN _))⟩,ls[i],v6 (by omega),hv i (by omega)⟩,λi hi=>?_⟩
 exact ZcX h l1 sm.pos w0 u (ZcY h l1 sm.pos w0) (by omega) (by omega) (hv i hi).2 (k i hi)
theorem LkP.num {s:Shp} (h:s.Ok) {one:Aa} {m:Int×Int} {ws:List (Int×Int)} {ls:Aa} (l1:ws.length=s.n) (l2:ls.length=s.n) (sw:∀ p∈ws,IsSh p) (hv:ju s ls) (k:LkP s one m ws ls) {D M:Int} {A:Int->Int} (u:Num s m ws D M A) {i:Nat} (hi:i < ls.length):dW s one A D M ((i:Int) - s.depth) ls[i]:=by
 have hn:=h.n_eq
 have w0:∀ p∈ws,0 < p.2:=λp hp=>(sw p hp).pos
 exact ZcX h l1 k.sm.pos w0 (ZcY h l1 k.sm.pos w0) u (by omega) (by omega) (hv i hi).2 (k.lk i hi)
theorem Zbd {α:Type} (a b:α->Int) (l:List α):SeqAt.shaped (.list (l.map λx=>.tuple [.int (a x),.int (b x)]))=true:=by
 have h1:PyData.canLayAll0 (l.map λx=>.tuple [.int (a x),.int (b x)])=true:=by
  induction l with
  | nil=>rfl
  | cons x l ih=>rw [v9,PyData.canLayAll0,ih]; rfl
 have h2:PyData.depthAll (l.map λx=>.tuple [.int (a x),.int (b x)])<=1:=by
  clear h1
  induction l with
  | nil=>exact wS 1
  | cons x l ih =>
   rw [v9,PyData.depthAll]
   have:PyData.depth (.tuple [.int (a x),.int (b x)])=1:=rfl
   rw [this]
   omega
 unfold SeqAt.shaped
 rw [PyData.canLay0,PyData.depth,h1]
 simp
 omega
theorem Zht {α:Type} (a b c d:α->Int):∀ l:List α,PyData.eqvAll (l.map λx=>.tuple [.int (a x),.int (b x)]) (l.map λx=>.tuple [.int (c x),.int (d x)])=l.all λx=>a x == c x && b x == d x
 | []=>rfl
 | x::l=>by
  have ih:=Zht a b c d l
  rw [v9,v9,PyData.eqvAll,ih,yK]
  congr 1
  show (a x == c x && (b x == d x && true))=_
  rw [yM]
theorem oZ {α:Type} {h:PyData->Tr PyData} {D F:α->PyData}:∀ {l:List α},(∀ x∈l,h (D x)=.ret (F x))->bG h (l.map D)=.ret (l.map F)
 | [],_=>rfl
 | x::l,hx=>by
  rw [v9,bG,hx x (by simp),Tr.ret_bind,oZ λy hy=>hx y (v3 _ hy)]
  rfl
theorem Zn9 {p q:Int×Int} (p0:0 < p.2) (q0:0 < q.2) (hp:nb 230 p.2/\nb 1800 p.1) (hq:nb 230 q.2/\nb 1800 q.1):o5 [.d (shr p),.d (shr q)]=.ret (.d (fj (p.1 * q.2+q.1 * p.2) (p.2 * q.2))):=by
 have f1:=aK hp.1 (by decide)
 have f2:=aK hp.2 (by decide)
 have f3:=aK hq.1 (by decide)
 have f4:=aK hq.2 (by decide)
 have b0:=xb p0 q0
 have es:=pZ (t:=p.1 * q.2+q.1 * p.2) (b:=p.2 * q.2) (by omega) (aP (bF hp.1 hq.1) (by decide))
 simp_arith [o5,shr,f1,f2,f3,f4,es]
theorem ZhD {s:Shp} {one:Aa} (hd:DayB one) (gr:s.top+s.depth<=great one) (ps:∃ w∈one,w > 0):jS [.d s.d,.d (tI one)]=.ret (.d .none):=by
 have eg:=ZhC ps (by have:=hd.len; omega)
 have ca:decide (great one < s.top+s.depth)=false:=decide_eq_false (by omega)
 simp_arith [jS,eg,ca]
theorem ZhB {s:Shp} (h:s.Ok) (n8:s.n<=9) {one:Aa} (hd:DayB one) (gr:s.top+s.depth<=great one) (ps:∃ w∈one,w > 0) {m:Int×Int} {ws:List (Int×Int)} {ls:Aa} (hm:nb 230 m.2/\nb 1800 m.1) (hw:∀ p∈ws,nb 230 p.2/\nb 1800 p.1) (l1:ws.length=s.n) (l2:ls.length=s.n) (sm:IsSh m) (sw:∀ p∈ws,IsSh p) (hv:ju s ls)
  (ef:iq [.d s.d,.d (ba m ws ls)]=.ret (.d (.bool true))) :
  (LkP s one m ws ls/\gi [.d s.d,.d (tI one),.d (ba m ws ls)]=.ret (.d (.bool true)))\/(¬ LkP s one m ws ls/\gi [.d s.d,.d (tI one),.d (ba m ws ls)]=.ret (.d (.bool false))):=by
 have hn:=h.n_eq
 have t0:=h.t0
 have d0:=h.d0
 have td:=h.td
 have w0:∀ p∈ws,0 < p.2:=λp hp=>(sw p hp).pos
 have e0:=ZhD hd gr ps
 have e1:=Zoa (ws:=ws) (by omega) λp hp=>⟨w0 p hp,hw p hp⟩
 obtain ⟨D0,nD⟩:=rS (c:=230) (ws:=ws) (b:=1) (D:=1) (by decide) (by show (1:Int).natAbs < 2 ^ 1; decide) λp hp=>⟨w0 p hp,(hw p hp).1⟩
 have nD:nb 2200 (bE 1 ws):=aP nD (by omega)
 have us:=Zmj h l1 sm.pos w0 D0
 have er:ws.map (ovr (bE 1 ws))=s.row (cb s (ws.map (ovr (bE 1 ws)))):=(sK h (by rw [vZ,l1])).symm
 have hA:Bd s 4100 (cb s (ws.map (ovr (bE 1 ws)))):=Ziu λv hv=>by
  obtain ⟨p,hp,rfl⟩:=wP.mp hv
  exact aP (bF (hw p hp).2 (mZ D0 (w0 p hp) nD)) (by decide)
 have eA:∀ x,-s.depth<=x->x<=s.top->cb s (ws.map (ovr (bE 1 ws))) x * (pw s ws x).2=(pw s ws x).1 * bE 1 ws:=λx x1 x2=>by
  rw [vf h l1 _ x1 x2]
  have hm:=kD h l1 x1 x2
  exact mr (w0 _ hm) (rT (by decide) w0 hm)
 rw [er] at e1
 have hg:s.RlOk (cb s ls):=λx x1 x2=>by
  have hk:(x+s.depth).toNat < ls.length:=by omega
  have:=hv _ hk
  unfold cb
  rw [v6 hk]
  show x<=ls[(x+s.depth).toNat]/\ls[(x+s.depth).toNat]<=s.top
  omega
 have e2:=Zon h hd hA (aP nD (by decide)) (by decide) hg (LV:=tI ls) (by rw [sK h l2]; rfl)
 have e3:=Zob h hd (C:=cby s one (cb s (ws.map (ovr (bE 1 ws)))) (bE 1 ws) (cb s ls)) hA (aP nD (by decide)) (by decide)
 have hC:∀ x,cby s one (cb s (ws.map (ovr (bE 1 ws)))) (bE 1 ws) (cb s ls) x=vB s one (cb s (ws.map (ovr (bE 1 ws)))) (bE 1 ws) x (cb s ls x):=λx=>rfl
 have hNL:qS s one (cby s one (cb s (ws.map (ovr (bE 1 ws)))) (bE 1 ws) (cb s ls)) (cb s (ws.map (ovr (bE 1 ws)))) (bE 1 ws) ↔ ∀ x y,-s.depth<=x->x<=y->y<=s.top->vB s one (cb s (ws.map (ovr (bE 1 ws)))) (bE 1 ws) x (cb s ls x)<=vB s one (cb s (ws.map (ovr (bE 1 ws)))) (bE 1 ws) x y:=Iff.rfl
 generalize cby s one (cb s (ws.map (ovr (bE 1 ws)))) (bE 1 ws) (cb s ls)=C at *
 generalize cb s (ws.map (ovr (bE 1 ws)))=A at *
 generalize bE 1 ws=sc at *
 have S0:=hd.pos
 have sn:=dN hd
 have B0:0 < sc * one.sum:=xb D0 S0
 have nB:nb 7000 (sc * one.sum):=aP (bF nD sn) (by decide)
 have g1:=aK nD (by decide)
 have g2:=aK sn (by decide)
 have m1:=oZ (h:=cx (aj 0) sW [.un,.d (.int sc),.d (tI one)]) (D:=λx=>PyData.int (C x)) (F:=λx=>PyData.tuple [.int (Gc.cp (C x) (sc * one.sum)),.int (Gc.b9 (C x) (sc * one.sum))]) (l:=aI (-s.depth) s.n) λx hx=>by
  have es:=pZ (t:=C x) (b:=sc * one.sum) (by omega) nB
  have e3:∀ (q:zS) (a:PyData),cx (aj 0) q [.un,.d (.int sc),.d (tI one)] a=q [.d a,.d (.int sc),.d (tI one)]:=λq a=>rfl
  rw [e3]
  simp_arith [sW,gy,g1,g2,es]
  rfl
 have em1:(aI (-s.depth) s.n).map (λx=>PyData.int (C x))=(s.row C).map PyData.int:=by unfold Shp.row; rw [ww]; rfl
 rw [em1] at m1
 have m2:=oZ (h:=cx (aj 0) sV [.un,.d (shr m)]) (D:=λx=>shr (pw s ws x)) (F:=λx=>PyData.tuple [.int (Gc.cp (m.1 * (pw s ws x).2+(pw s ws x).1 * m.2) (m.2 * (pw s ws x).2)),.int (Gc.b9 (m.1 * (pw s ws x).2+(pw s ws x).1 * m.2) (m.2 * (pw s ws x).2))]) (l:=aI (-s.depth) s.n) λx hx=>by
  have hx':=ma hx
  have hmem:=kD h l1 (x:=x) (by omega) (by omega)
  have ep:=Zn9 sm.pos (w0 _ hmem) hm (hw _ hmem)
  have e3:∀ (q:zS) (a:PyData),cx (aj 0) q [.un,.d (shr m)] a=q [.d a,.d (shr m)]:=λq a=>rfl
  rw [e3]
  simp_arith [sV,ep]
  rfl
 have em2:(aI (-s.depth) s.n).map (λx=>shr (pw s ws x))=ws.map shr:=by
  have:(aI (-s.depth) s.n).map (λx=>shr (pw s ws x))=((aI (-s.depth) s.n).map (pw s ws)).map shr:=by rw [ww]; rfl
  rw [this,Zla h l1]
 rw [em2] at m2
 have hne:aV cX (.list ((aI (-s.depth) s.n).map λx=>PyData.tuple [.int (Gc.cp (C x) (sc * one.sum)),.int (Gc.b9 (C x) (sc * one.sum))])) (.list ((aI (-s.depth) s.n).map λx=>PyData.tuple [.int (Gc.cp (m.1 * (pw s ws x).2+(pw s ws x).1 * m.2) (m.2 * (pw s ws x).2)),.int (Gc.b9 (m.1 * (pw s ws x).2+(pw s ws x).1 * m.2) (m.2 * (pw s ws x).2))]))=.ret (.bool (!((aI (-s.depth) s.n).all λx=>Gc.cp (C x) (sc * one.sum) == Gc.cp (m.1 * (pw s ws x).2+(pw s ws x).1 * m.2) (m.2 * (pw s ws x).2) && Gc.b9 (C x) (sc * one.sum) == Gc.b9 (m.1 * (pw s ws x).2+(pw s ws x).1 * m.2) (m.2 * (pw s ws x).2)))):=by
  rw [ZnY (Zbd _ _ _) (Zbd _ _ _),Zht]
 have keyx:∀ x,-s.depth<=x->x<=s.top->((Gc.cp (C x) (sc * one.sum) == Gc.cp (m.1 * (pw s ws x).2+(pw s ws x).1 * m.2) (m.2 * (pw s ws x).2) && Gc.b9 (C x) (sc * one.sum) == Gc.b9 (m.1 * (pw s ws x).2+(pw s ws x).1 * m.2) (m.2 * (pw s ws x).2))=true ↔ one.sum * (m.1 * sc+m.2 * A x)=m.2 * C x):=λx x1 x2=>by
  have p0:=w0 _ (kD h l1 x1 x2)
  rw [ZmQ B0 (xb sm.pos p0)]
  have ea:=eA x x1 x2
  generalize (pw s ws x).1=p1 at *
  generalize (pw s ws x).2=p2 at *
  have k1:(m.1 * p2+p1 * m.2) * (sc * one.sum)=p2 * (one.sum * (m.1 * sc+m.2 * A x)):=by
   have:(m.1 * p2+p1 * m.2) * (sc * one.sum)=m.1 * p2 * sc * one.sum+m.2 * (p1 * sc) * one.sum:=by grind
   rw [this,<- ea]
   grind
  have k2:C x * (m.2 * p2)=p2 * (m.2 * C x):=by grind
  rw [k1,k2]
  exact ⟨λz=>(yC (xB p0) z).symm,λz=>by rw [z]⟩
 have vm:∀ x y,y<=s.top->vB s one (λz=>m.2 * A z) (m.2 * sc) x y=m.2 * vB s one A sc x y:=λx y y2=>by
  have:=rn h (one:=one) (A:=λz=>m.2 * A z) (B:=A) (D:=m.2 * sc) (D':=sc) (c:=1) (e:=m.2) (by omega) (λz _ _=>by omega) (x:=x) y2
  rw [<- this,zt]
 have lsx:∀ i (hi:i < ls.length),cb s ls ((i:Int) - s.depth)=ls[i]:=λi hi=>Zql hi
 have key:LkP s one m ws ls ↔ ((aI (-s.depth) s.n).all λx=>Gc.cp (C x) (sc * one.sum) == Gc.cp (m.1 * (pw s ws x).2+(pw s ws x).1 * m.2) (m.2 * (pw s ws x).2) && Gc.b9 (C x) (sc * one.sum) == Gc.b9 (m.1 * (pw s ws x).2+(pw s ws x).1 * m.2) (m.2 * (pw s ws x).2))=true/\qS s one C A sc:=by
  constructor
  ·intro k
   have kk:∀ x,-s.depth<=x->x<=s.top->dW s one (λz=>m.2 * A z) (m.2 * sc) (m.1 * sc) x (cb s ls x):=λx x1 x2=>by
    have hk:(x+s.depth).toNat < ls.length:=by omega
    have ex:(((x+s.depth).toNat:Nat):Int) - s.depth=x:=by omega
    have:=k.num h l1 l2 sw hv us hk
    rw [<- lsx _ hk,ex] at this
    exact this
   refine ⟨xM.mpr λx hx=>?_,hNL.mpr λx y x1 xy y2=>?_⟩
   ·have hx':=ma hx
    have q:=(kk x (by omega) (by omega)).1
    rw [vm _ _ (hg x (by omega) (by omega)).2,<- hC] at q
    exact (keyx x (by omega) (by omega)).mpr q
   ·have q:=kk x x1 (by omega)
    have q1:=q.1
    have q2:=q.2 y xy y2
    rw [q1,vm _ _ (hg x (by omega) (by omega)).2,vm _ _ y2] at q2
    exact yB q2 sm.pos
  ·rintro ⟨k1,k2⟩
   refine ZmU h l1 l2 sm sw hv us λi hi=>?_
   have hx:-s.depth<=(i:Int) - s.depth:=by omega
   have hx2:(i:Int) - s.depth<=s.top:=by omega
   have q:=(keyx _ hx hx2).mp (xM.mp k1 _ (by unfold aI; exact wP.mpr ⟨i,wV.mpr (by omega),by omega⟩))
   have hy:=(hv i hi)
   rw [hC,lsx i hi] at q
   refine ⟨by rw [vm _ _ hy.2]; exact q,λz z1 z2=>?_⟩
   show one.sum * (m.1 * sc+m.2 * A ((i:Int) - s.depth))<=_
   rw [q,vm _ _ z2]
   have:=hNL.mp k2 ((i:Int) - s.depth) z hx z1 z2
   rw [lsx i hi] at this
   exact wO this (wC sm.pos)
 have itw:dC (.tuple (ws.map shr))=.ret (ws.map shr):=rfl
 have itc:dC (.list ((s.row C).map PyData.int))=.ret ((s.row C).map PyData.int):=rfl
 have hs1:small ((s.row C).map PyData.int).length=true:=cj (by rw [vZ,iS]; omega)
 have hs2:small (ws.map shr).length=true:=cj (by rw [vZ]; omega)
 have eLC:PyData.list ((s.row C).map PyData.int)=lI (s.row C):=rfl
 by_cases hc:((aI (-s.depth) s.n).all λx=>Gc.cp (C x) (sc * one.sum) == Gc.cp (m.1 * (pw s ws x).2+(pw s ws x).1 * m.2) (m.2 * (pw s ws x).2) && Gc.b9 (C x) (sc * one.sum) == Gc.b9 (m.1 * (pw s ws x).2+(pw s ws x).1 * m.2) (m.2 * (pw s ws x).2))=true
 ·rw [hc] at hne
  rcases e3 with ⟨q,e3⟩ | ⟨q,e3⟩
  ·refine .inl ⟨key.mpr ⟨hc,q⟩,?_⟩
   rw [ba] at ef ⊢
   simp_arith [gi,m9,nc,e0,ef,we,e1,e2,itw,itc,hs1,hs2,m1,m2,hne]
   simp_arith [eLC,e3]
  ·refine .inr ⟨λz=>q (key.mp z).2,?_⟩
   rw [ba] at ef ⊢
   simp_arith [gi,m9,nc,e0,ef,we,e1,e2,itw,itc,hs1,hs2,m1,m2,hne]
   simp_arith [eLC,e3]
 ·have hc':=hc
  rw [yj] at hc'
  rw [hc'] at hne
  refine .inr ⟨λz=>hc (key.mp z).1,?_⟩
  rw [ba] at ef ⊢
  simp_arith [gi,m9,nc,e0,ef,we,e1,e2,itw,itc,hs1,hs2,m1,m2,hne,wt]
end My
set_option Elab.async false
set_option linter.all false
set_option maxRecDepth 100000
set_option exponentiation.threshold 9000
namespace My
open L2 Tw Bar
theorem Zdm {top:Int}:∀ (ls:Aa) (lo:Int),(∀ i (h:i < ls.length),lo+i<=ls[i]/\ls[i]<=top)->eW top lo (ls.map PyData.int)=true
 | [],_,_=>rfl
 | y::ls,lo,h=>by
  have h0:=h 0 (by simp)
  rw [v9,eW,Zdm ls (lo+1) λi hi=>?_]
  ·show ((decide (lo<=y) && decide (y<=top)) && true)=true
   have a:lo+((0:Nat):Int)<=y:=h0.1
   rw [decide_eq_true (show lo<=y by omega),decide_eq_true (show y<=top from h0.2)]
   rfl
  ·have:=h (i+1) (by simp; omega)
   have e:(y::ls)[i+1]'(by simp; omega)=ls[i]:=rfl
   rw [e] at this
   omega
theorem ZnU {s:Shp} (h:s.Ok) {m:Int×Int} {ws:List (Int×Int)} {ls:Aa} (l1:ws.length=s.n) (l2:ls.length=s.n) (sm:IsSh m) (sw:∀ p∈ws,IsSh p) (hv:ju s ls):jd s (ba m ws ls)=true:=by
 have hn:=h.n_eq
 show (cz (shr m) && (fY s (.tuple (ws.map shr)) && lB s (.tuple (ls.map PyData.int))))=true
 rw [Zbe,(iO m).mpr sm,lE,mS,vZ,vZ,l1,l2,Zdm ls (-s.depth) λi hi=>by have:=hv i hi; omega]
 have e:((s.n:Int) == s.top+s.depth+1)=true:=by rw [hn]; simp
 have e2:(ws.map shr).all cz=true:=xM.mpr λx hx=>by
  obtain ⟨p,hp,rfl⟩:=wP.mp hx
  rw [Zbe]
  exact (iO p).mpr (sw p hp)
 rw [e,e2]
 rfl
theorem u4 {p:Int×Int} (h:nb 7000 p.2):Bt (shr p):=λa b e=>by
 unfold shr at e
 simp only [xJ,yu,PyData.int.injEq,and_true] at e
 rw [<- e.2]
 exact h
theorem Zjj {m:Int×Int} {ws:List (Int×Int)} {ls:Aa} (hm:nb 7000 m.2) (hw:∀ p∈ws,nb 7000 p.2) (l1:ws.length<=200) (l2:ls.length<=200):Tm (ba m ws ls):=by
 unfold ba
 refine ⟨λa b c e=>?_,λa b c e ys hy=>?_,λa b c e ys hy=>?_⟩
 ·simp only [xJ,yu,and_true] at e
  rw [<- e.1]
  exact u4 hm
 ·simp only [xJ,yu,and_true] at e
  rw [<- e.2.1] at hy
  simp only [xJ] at hy
  subst hy
  refine ⟨by rw [vZ]; exact l1,λy hy=>?_⟩
  obtain ⟨p,hp,rfl⟩:=wP.mp hy
  exact u4 (hw p hp)
 ·simp only [xJ,yu,and_true] at e
  rw [<- e.2.2] at hy
  unfold tI at hy
  simp only [xJ] at hy
  subst hy
  rw [vZ]
  exact l2
theorem ZmZ {s:Shp} {one:Aa} (c:Cs s one) {m:Int×Int} {ws:List (Int×Int)} {ls:Aa} (hm:nb 230 m.2/\nb 1800 m.1) (hw:∀ p∈ws,nb 230 p.2/\nb 1800 p.1) (l1:ws.length=s.n) (l2:ls.length=s.n) (sw:∀ p∈ws,IsSh p) (hv:ju s ls) (k:LkP s one m ws ls):gi [.d s.d,.d (tI one),.d (ba m ws ls)]=.ret (.d (.bool true)):=by
 have h:=c.dr.ok
 have n8:=c.n8
 have ef:=Zec h (Zjj (m:=m) (ws:=ws) (ls:=ls) (aP hm.1 (by decide)) (λp hp=>aP (hw p hp).1 (by decide)) (by omega) (by omega))
 rw [ZnU h l1 l2 k.sm sw hv] at ef
 rcases ZhB h (by omega) c.B c.gr c.ps hm hw l1 l2 k.sm sw hv ef with ⟨_,e⟩ | ⟨q,_⟩
 ·exact e
 ·exact absurd k q
noncomputable def gf (p t:Int×Int):Int×Int:=dc (p.1 * t.2+t.1 * p.2) (p.2 * t.2)
theorem Zmv {p t:Int×Int} (p0:0 < p.2) (t0:0 < t.2):IsSh (gf p t):=iu (xb p0 t0)
theorem Zc9 {p t:Int×Int} (p0:0 < p.2) (t0:0 < t.2) (hp:nb 208 p.2/\nb 1702 p.1) (ht:nb 5 t.2/\nb 5 t.1):nb 230 (gf p t).2/\nb 1800 (gf p t).1:=by
 obtain ⟨a,b⟩:=Zdr (dQ (bF hp.2 ht.1) (bF ht.2 hp.1)) (bF hp.1 ht.1) (by have:=xb p0 t0; omega)
 exact ⟨aP b (by decide),aP a (by decide)⟩
end My
set_option Elab.async false
set_option linter.all false
set_option maxRecDepth 100000
set_option exponentiation.threshold 9000
namespace My
open L2 Tw Bar
theorem uq (x:PyData):ik [.d x]=.ret (.d (.bool (dR x))):=by
 cases x <;> (simp_arith [ik]; rfl)
theorem Zee {x:PyData} (hx:Bt x):fN [.d x]=.ret (.d (.bool (cz x))):=by
 by_cases ht:∃ ys,x=.tuple ys
 ·obtain ⟨xs,rfl⟩:=ht
  by_cases hl:xs.length=2
  ·obtain ⟨u,v,rfl⟩:∃ u v,xs=[u,v]:=by
    rcases xs with _ | ⟨a,_ | ⟨b,_ | ⟨c,r⟩⟩⟩
    ·simp at hl
    ·simp at hl
    ·exact ⟨a,b,rfl⟩
    ·simp at hl
   have e1:=uq u
   have e2:=uq v
   cases hu:dR u
   ·rw [n6 (by rw [hu]; rfl)]
    rw [hu] at e1
    simp_arith [fN,cQ,iM,we,e1,wt]
   ·cases hv:dR v
    ·rw [n6 (by rw [hv,xN])]
     rw [hu] at e1
     rw [hv] at e2
     simp_arith [fN,cQ,iM,we,e1,e2,wt]
    ·obtain ⟨a,rfl⟩:∃ a:Int,u=.int a:=by cases u <;> first | exact ⟨_,rfl⟩ | cases hu
     obtain ⟨b,rfl⟩:∃ b:Int,v=.int b:=by cases v <;> first | exact ⟨_,rfl⟩ | cases hv
     exact uH (p:=(a,b)) (hx a b rfl)
  ·rw [Zbf hl]
   have e:(!((xs.length:Nat):Int) == 2)=true:=by rw [beq_eq_false_iff_ne.mpr (by omega)]; rfl
   simp_arith [fN,cQ,we,e]
 ·have hn:=j3 (x:=x) λxs e=>ht ⟨xs,e⟩
  have hd:cz x=false:=by
   cases x with
   | tuple xs=>exact absurd ⟨xs,rfl⟩ ht
   | _=>rfl
  rw [hd]
  simp_arith [fN,hn,wt]
noncomputable def iN (n:Nat):PyData->Bool
 | .tuple ys=>ys.length == n
 | _=>false
theorem Zef {s:Shp} {n:Nat} (T y A B:Sl) (x:PyData):gj [.d s.d,T,.d (.int n),.d x,A,B]=.ret (if iN n x then .next [.d s.d,T,.d (.int n),.d x,A,B] else .ret (.d (.bool false))):=by
 by_cases ht:∃ ys,x=.tuple ys
 ·obtain ⟨ys,rfl⟩:=ht
  by_cases hl:ys.length=n
  ·have e:(((ys.length:Nat):Int) == (n:Int))=true:=by rw [hl]; simp
   have e2:iN n (.tuple ys)=true:=by show (ys.length == n)=true; rw [hl]; simp
   rw [e2]
   simp_arith [gj,cQ,we,e]
   rfl
  ·have e:(((ys.length:Nat):Int) == (n:Int))=false:=beq_eq_false_iff_ne.mpr (by omega)
   have e2:iN n (.tuple ys)=false:=by show (ys.length == n)=false; exact beq_eq_false_iff_ne.mpr hl
   rw [e2]
   simp_arith [gj,cQ,we,wt,e]
   rfl
 ·have hn:=j3 (x:=x) λxs e=>ht ⟨xs,e⟩
  have hd:iN n x=false:=by
   cases x with
   | tuple xs=>exact absurd ⟨xs,rfl⟩ ht
   | _=>rfl
  rw [hd]
  simp_arith [gj,hn,wt]
  rfl
theorem ZnK {s:Shp} {m:PyData} {ws ls:z9} (hw:∀ p∈ws,Bt p) {i:Nat} (i1:i < ws.length) (i2:i < ls.length) (A B J:Sl) :
  ((cz ws[i]=true/\dt ls[i] ((i:Int) - s.depth) s.top=true)/\∃ J',eh [.d s.d,.d (.tuple [m,.tuple ws,.tuple ls]),A,B,.d (.int i),J]=.ret (.next [.d s.d,.d (.tuple [m,.tuple ws,.tuple ls]),A,B,.d (.int i),J'])) \/
  (¬ (cz ws[i]=true/\dt ls[i] ((i:Int) - s.depth) s.top=true)/\eh [.d s.d,.d (.tuple [m,.tuple ws,.tuple ls]),A,B,.d (.int i),J]=.ret (.ret (.d (.bool false)))):=by
 have a1:bf ws (i:Int)=some ws[i]:=dl (by omega) (by rw [show ((i:Int)).toNat=i by omega,v6 i1])
 have a2:bf ls (i:Int)=some ls[i]:=dl (by omega) (by rw [show ((i:Int)).toNat=i by omega,v6 i2])
 have e1:=Zee (hw ws[i] (wN i1))
 have e2:=uq ls[i]
 generalize ws[i]=u at *
 generalize ls[i]=v at *
 by_cases c1:cz u=true
 ·rw [c1] at e1
  by_cases c2:∃ n:Int,v=.int n
  ·obtain ⟨n,rfl⟩:=c2
   have e2:ik [.d (.int n)]=.ret (.d (.bool true)):=e2
   have ew:dt (.int n) ((i:Int) - s.depth) s.top=(decide ((i:Int) - s.depth<=n) && decide (n<=s.top)):=rfl
   rw [ew]
   by_cases c3:(i:Int) - s.depth<=n
   ·by_cases c4:n<=s.top
    ·refine .inl ⟨⟨c1,by rw [decide_eq_true c3,decide_eq_true c4]; rfl⟩,.d (.int n),?_⟩
     simp_arith [eh,a1,a2,e1,e2,we,decide_eq_true c3,decide_eq_true c4]
    ·refine .inr ⟨λz=>(by have:=z.2; rw [decide_eq_false c4,xN] at this; cases this),?_⟩
     simp_arith [eh,a1,a2,e1,e2,we,wt,decide_eq_true c3,decide_eq_false c4]
   ·refine .inr ⟨λz=>(by have:=z.2; rw [decide_eq_false c3,xg] at this; cases this),?_⟩
    simp_arith [eh,a1,a2,e1,e2,we,wt,decide_eq_false c3]
  ·have hv:dR v=false/\dt v ((i:Int) - s.depth) s.top=false:=by
    cases v with
    | int n=>exact absurd ⟨n,rfl⟩ c2
    | _=>exact ⟨rfl,rfl⟩
   rw [hv.1] at e2
   refine .inr ⟨λz=>(by have:=z.2; rw [hv.2] at this; cases this),?_⟩
   simp_arith [eh,a1,a2,e1,e2,we,wt]
 ·have c1':=c1
  rw [yj] at c1'
  rw [c1'] at e1
  refine .inr ⟨λz=>c1 z.1,?_⟩
  simp_arith [eh,a1,a2,e1,wt]
theorem tQ {top:Int}:∀ (ys:z9) (lo:Int),eW top lo ys=true ↔ ∀ i (h:i < ys.length),dt ys[i] (lo+i) top=true
 | [],lo=>⟨λ_ i h=>absurd h (Nat.not_lt_zero i),λ_=>rfl⟩
 | y::ys,lo=>by
  rw [eW,wl,tQ ys (lo+1)]
  constructor
  ·rintro ⟨h1,h2⟩ i hi
   cases i with
   | zero =>
    have e:lo+((0:Nat):Int)=lo:=by omega
    rw [e]
    exact h1
   | succ i =>
    have:=h2 i (Nat.lt_of_succ_lt_succ hi)
    have e:lo+((i+1:Nat):Int)=lo+1+(i:Int):=by omega
    rw [e]
    exact this
  ·intro h
   refine ⟨?_,λi hi=>?_⟩
   ·have:=h 0 (Nat.zero_lt_succ _)
    have e:lo+((0:Nat):Int)=lo:=by omega
    rw [e] at this
    exact this
   ·have:=h (i+1) (Nat.succ_lt_succ hi)
    have e:lo+((i+1:Nat):Int)=lo+1+(i:Int):=by omega
    rw [e] at this
    exact this
theorem Zat {n:Nat} {x:PyData} (h:iN n x=false) (s:Shp) (en:(n:Int)=s.top+s.depth+1):fY s x=false/\lB s x=false:=by
 cases x with
 | tuple ys =>
  have h:(ys.length == n)=false:=h
  have e:((ys.length:Int) == s.top+s.depth+1)=false:=beq_eq_false_iff_ne.mpr (by have:=beq_eq_false_iff_ne.mp h; omega)
  rw [lE,mS,e]
  exact ⟨rfl,rfl⟩
 | _=>exact ⟨rfl,rfl⟩
theorem Zas {n:Nat} {x:PyData} (h:iN n x=true):∃ ys,x=.tuple ys/\ys.length=n:=by
 cases x with
 | tuple ys=>exact ⟨ys,rfl,eq_of_beq h⟩
 | _=>cases h
theorem ZnH {s:Shp} (h:s.Ok) {x:PyData} (hx:Tm x):eK [.d s.d,.d x]=.ret (.d (.bool (jd s x))):=by
 have t0:=h.t0
 have d0:=h.d0
 have td:=h.td
 have hn:=h.n_eq
 by_cases ht:∃ ys,x=.tuple ys
 ·obtain ⟨xs,rfl⟩:=ht
  by_cases hl:xs.length=3
  ·obtain ⟨m,w,l,rfl⟩:=tU hl
   have e1:=Zee (hx.m m w l rfl)
   show _=Tr.ret (Re.d (.bool (cz m && (fY s w && lB s l))))
   cases c1:cz m
   ·rw [c1] at e1
    simp_arith only [eK,cQ,fZ,we,wt,e1,xg]
   ·rw [c1] at e1
    have en:s.top+s.depth+1=(s.n:Int):=by omega
    have ec:L2.cV [m,w,l] (some 1) none=[w,l]:=rfl
    have q1:=λA B=>Zef (s:=s) (n:=s.n) (.d (.tuple [m,w,l])) .un A B w
    have q2:=λA B=>Zef (s:=s) (n:=s.n) (.d (.tuple [m,w,l])) .un A B l
    cases c2:iN s.n w
    ·rw [c2] at q1
     have ef:bV (aj 3) gj [w,l] [.d s.d,.d (.tuple [m,w,l]),.d (.int (s.n:Int)),.un,.un,.un]=.ret (.ret (.d (.bool false))):=by
      simp_arith only [eM,q1,xO,if_false]
     rw [(Zat c2 s hn).1]
     simp_arith only [eK,cQ,fZ,we,e1,en,ec,ef,xg,xr]
    ·rw [c2] at q1
     cases c3:iN s.n l
     ·rw [c3] at q2
      have ef:bV (aj 3) gj [w,l] [.d s.d,.d (.tuple [m,w,l]),.d (.int (s.n:Int)),.un,.un,.un]=.ret (.ret (.d (.bool false))):=by
       simp_arith only [eM,q1,q2,xO,if_false,if_true]
      rw [(Zat c3 s hn).2,xN]
      simp_arith only [eK,cQ,fZ,we,e1,en,ec,ef,xN]
     ·rw [c3] at q2
      have ef:bV (aj 3) gj [w,l] [.d s.d,.d (.tuple [m,w,l]),.d (.int (s.n:Int)),.un,.un,.un]=.ret (.next [.d s.d,.d (.tuple [m,w,l]),.d (.int (s.n:Int)),.d l,.un,.un]):=by
       simp_arith only [eM,q1,q2,if_true]
      obtain ⟨ws,rfl,l1⟩:=Zas c2
      obtain ⟨ls,rfl,l2⟩:=Zas c3
      have hw:=(hx.w m (.tuple ws) (.tuple ls) rfl ws rfl).2
      have r1:fG [.int (s.n:Int)]=.ret (aL 0 s.n):=iB (eZ (by omega) (by omega))
      have kf:=mX (g:=aj 4) (s:=eh) (r:=Re.d (.bool false)) (xs:=aL 0 s.n) (ρ:=[.d s.d,.d (.tuple [m,.tuple ws,.tuple ls]),.d (.int (s.n:Int)),.d (.tuple ls),.un,.un]) (λpre _=>∃ (h1:pre.length < ws.length) (h2:pre.length < ls.length),¬ (cz ws[pre.length]=true/\dt ls[pre.length] ((pre.length:Int) - s.depth) s.top=true))
       (λ_ ρ=>∃ J4 J5:Sl,ρ=[.d s.d,.d (.tuple [m,.tuple ws,.tuple ls]),.d (.int (s.n:Int)),.d (.tuple ls),J4,J5]) ⟨_,_,rfl⟩ (λpre x post ρ e hρ=>by
        obtain ⟨J4,J5,rfl⟩:=hρ
        obtain ⟨rfl,hpre⟩:=jD e
        refine ⟨_,rfl,?_⟩
        have ex:(0:Int)+(pre.length:Int)=(pre.length:Int):=by omega
        rw [ex]
        have h1:pre.length < ws.length:=by omega
        have h2:pre.length < ls.length:=by omega
        rcases ZnK (s:=s) (m:=m) hw h1 h2 (.d (.int (s.n:Int))) (.d (.tuple ls)) J5 with ⟨q1,J',q2⟩ | ⟨q1,q2⟩
        ·exact .inr ⟨λ⟨_,_,z⟩=>z q1,_,q2,_,_,rfl⟩
        ·exact .inl ⟨⟨h1,h2,q1⟩,q2⟩)
      have all_of:(∀ p x q,aL 0 (s.n:Int)=p++x::q->¬ ∃ (h1:p.length < ws.length) (h2:p.length < ls.length),¬ (cz ws[p.length]=true/\dt ls[p.length] ((p.length:Int) - s.depth) s.top=true))->∀ i (h1:i < ws.length) (h2:i < ls.length),cz ws[i]=true/\dt ls[i] ((i:Int) - s.depth) s.top=true:=λz i h1 h2=>by
       have hl:i < (aL 0 (s.n:Int)).length:=by rw [cM]; omega
       have z1:=z ((aL 0 (s.n:Int)).take i) _ ((aL 0 (s.n:Int)).drop (i+1)) (by rw [<- wR hl,xQ])
       have el:((aL 0 (s.n:Int)).take i).length=i:=by rw [wE,xt (by omega)]
       refine xE λc=>z1 ?_
       simp only [el]
       exact ⟨h1,h2,c⟩
      have ew:fY s (.tuple ws)=ws.all cz:=by
       rw [lE,show ((ws.length:Int) == s.top+s.depth+1)=true by rw [l1,en]; simp,xr]
      have el:lB s (.tuple ls)=eW s.top (-s.depth) ls:=by
       rw [mS,show ((ls.length:Int) == s.top+s.depth+1)=true by rw [l2,en]; simp,xr]
      rw [ew,el]
      rcases kf with ⟨⟨p,x,q,q1,h1,h2,q2⟩,q3⟩ | ⟨q1,ρ2,q2,J4,J5,rfl⟩
      ·have ex:(ws.all cz && eW s.top (-s.depth) ls)=false:=by
        rw [<- yj]
        intro z
        rw [wl] at z
        refine q2 ⟨xM.mp z.1 _ (wN h1),?_⟩
        have:=(tQ ls (-s.depth)).mp z.2 _ h2
        rw [show (p.length:Int) - s.depth=-s.depth+(p.length:Int) by omega]
        exact this
       rw [ex]
       simp_arith only [eK,cQ,fZ,we,e1,en,ec,ef,r1,q3,xN]
      ·have ex:(ws.all cz && eW s.top (-s.depth) ls)=true:=by
        have al:=all_of q1
        rw [wl]
        refine ⟨xM.mpr λy hy=>?_,(tQ ls (-s.depth)).mpr λi hi=>?_⟩
        ·obtain ⟨i,hi,rfl⟩:=yY.mp hy
         exact (al i hi (by omega)).1
        ·have:=(al i (by omega) hi).2
         rw [show -s.depth+(i:Int)=(i:Int) - s.depth by omega]
         exact this
       rw [ex]
       simp_arith only [eK,cQ,fZ,we,e1,en,ec,ef,r1,q2,yM]
  ·rw [uv hl]
   have e:(!((xs.length:Nat):Int) == 3)=true:=by rw [beq_eq_false_iff_ne.mpr (by omega)]; rfl
   simp_arith only [eK,cQ,we,e]
 ·have hn:=j3 (x:=x) λxs e=>ht ⟨xs,e⟩
  have hd:jd s x=false:=by
   cases x with
   | tuple xs=>exact absurd ⟨xs,rfl⟩ ht
   | _=>rfl
  rw [hd]
  simp_arith only [eK,hn,wt]
theorem Zbg {x:PyData} (h:cz x=true):∃ p,x=shr p/\IsSh p:=by
 cases x with
 | tuple xs =>
  rcases xs with _ | ⟨a,_ | ⟨b,_ | ⟨c,r⟩⟩⟩
  ·cases h
  ·cases a <;> cases h
  ·cases a <;> cases b <;> first | exact ⟨(_,_),rfl,(iO _).mp h⟩ | cases h
  ·cases a <;> cases b <;> cases h
 | _=>cases h
theorem Zbh:∀ {ys:z9},ys.all cz=true->∃ ws:List (Int×Int),ys=ws.map shr/\∀ p∈ws,IsSh p
 | [],_=>⟨[],rfl,λ_ q=>nomatch q⟩
 | y::ys,h=>by
  rw [yK,wl] at h
  obtain ⟨p,rfl,hp⟩:=Zbg h.1
  obtain ⟨ws,rfl,hw⟩:=Zbh h.2
  refine ⟨p::ws,rfl,λq hq=>?_⟩
  rcases wo.mp hq with e | e
  ·subst e; exact hp
  ·exact hw q e
theorem Zdn {top:Int}:∀ {ys:z9} {lo:Int},eW top lo ys=true->∃ ls:Aa,ys=ls.map PyData.int/\∀ i (h:i < ls.length),lo+i<=ls[i]/\ls[i]<=top
 | [],_,_=>⟨[],rfl,λi h=>absurd h (Nat.not_lt_zero i)⟩
 | y::ys,lo,h=>by
  rw [eW,wl] at h
  obtain ⟨ls,rfl,hl⟩:=Zdn h.2
  obtain ⟨n,rfl⟩:∃ n:Int,y=.int n:=by cases y <;> first | exact ⟨_,rfl⟩ | cases h.1
  have h1:(decide (lo<=n) && decide (n<=top))=true:=h.1
  rw [wl,decide_eq_true_iff,decide_eq_true_iff] at h1
  refine ⟨n::ls,rfl,λi hi=>?_⟩
  cases i with
  | zero=>exact ⟨by have:=h1.1; show lo+((0:Nat):Int)<=n; omega,h1.2⟩
  | succ i =>
   have:=hl i (Nat.lt_of_succ_lt_succ hi)
   refine ⟨?_,this.2⟩
   have e:lo+((i+1:Nat):Int)=lo+1+(i:Int):=by omega
   rw [e]
   exact this.1
theorem ZnV {s:Shp} (h:s.Ok) {x:PyData} (hf:jd s x=true):∃ m ws ls,x=ba m ws ls/\IsSh m/\(∀ p∈ws,IsSh p)/\ws.length=s.n/\ls.length=s.n/\ju s ls:=by
 have hn:=h.n_eq
 cases x with
 | tuple xs =>
  by_cases hl:xs.length=3
  ·obtain ⟨m,w,l,rfl⟩:=tU hl
   have hf:(cz m && (fY s w && lB s l))=true:=hf
   rw [wl,wl] at hf
   obtain ⟨h1,h2,h3⟩:=hf
   obtain ⟨p,rfl,hp⟩:=Zbg h1
   obtain ⟨ys,rfl⟩:∃ ys,w=.tuple ys:=by cases w <;> first | exact ⟨_,rfl⟩ | cases h2
   obtain ⟨zs,rfl⟩:∃ ys,l=.tuple ys:=by cases l <;> first | exact ⟨_,rfl⟩ | cases h3
   rw [lE,wl,beq_iff_eq] at h2
   rw [mS,wl,beq_iff_eq] at h3
   obtain ⟨ws,rfl,hw⟩:=Zbh h2.2
   obtain ⟨ls,rfl,hls⟩:=Zdn h3.2
   have a1:=h2.1
   have a2:=h3.1
   rw [vZ] at a1 a2
   exact ⟨p,ws,ls,rfl,hp,hw,by omega,by omega,λi hi=>by have:=hls i hi; omega⟩
  ·rw [uv hl] at hf
   cases hf
 | _=>cases hf
def Sp (y:PyData):Prop:=Bt y/\∀ p,y=shr p->IsSh p->nb 230 p.2/\nb 1800 p.1
def Wp (w:PyData):Prop:=∀ ys,w=.tuple ys->ys.length<=200/\∀ y∈ys,Sp y
def Lp (l:PyData):Prop:=∀ ys,l=.tuple ys->ys.length<=200
def Tg (x:PyData):Prop:=∀ m w l,x=.tuple [m,w,l]->Sp m/\Wp w/\Lp l
theorem Tg.tm {x:PyData} (h:Tg x):Tm x:=⟨λm w l e=>(h m w l e).1.1,λm w l e ys hy=>⟨((h m w l e).2.1 ys hy).1,λy hm=>(((h m w l e).2.1 ys hy).2 y hm).1⟩,λm w l e ys hy=>(h m w l e).2.2 ys hy⟩
theorem ZnL {s:Shp} {one:Aa} (c:Cs s one) {x:PyData} (hx:Tg x):∃ b:Bool,gi [.d s.d,.d (tI one),.d x]=.ret (.d (.bool b))/\ip [.d s.d,.d (tI one),.d x]=.ret (.d (.bool b)):=by
 have h:=c.dr.ok
 have n8:=c.n8
 have ef:=Zec h hx.tm
 have el:=ZnH h hx.tm
 cases hf:jd s x
 ·rw [hf] at ef el
  have e0:=ZhD c.B c.gr c.ps
  refine ⟨false,?_,?_⟩
  ·simp_arith [gi,m9,nc,e0,ef,wt]
  ·simp_arith [ip,el,wt]
 ·rw [hf] at ef
  obtain ⟨m,ws,ls,rfl,sm,sw,l1,l2,hv⟩:=ZnV h hf
  obtain ⟨k1,k2,_⟩:=hx _ _ _ (show ba m ws ls=.tuple [shr m,.tuple (ws.map shr),tI ls] from rfl)
  have hm:=k1.2 m rfl sm
  have hw:∀ p∈ws,nb 230 p.2/\nb 1800 p.1:=λp hp=>((k2 _ rfl).2 _ (wP.mpr ⟨p,hp,rfl⟩)).2 p rfl (sw p hp)
  rcases ZhB h (by omega) c.B c.gr c.ps hm hw l1 l2 sm sw hv ef with ⟨q,e⟩ | ⟨q,e⟩
  ·rcases ZhA h (by omega) c.B (m:=m) (ws:=ws) (ls:=ls) hm hw l1 l2 with ⟨_,e'⟩ | ⟨q',_⟩
   ·exact ⟨true,e,e'⟩
   ·exact absurd q q'
  ·rcases ZhA h (by omega) c.B (m:=m) (ws:=ws) (ls:=ls) hm hw l1 l2 with ⟨q',_⟩ | ⟨_,e'⟩
   ·exact absurd q' q
   ·exact ⟨false,e,e'⟩
end My
set_option Elab.async false
set_option linter.all false
set_option maxRecDepth 100000
set_option exponentiation.threshold 9000
namespace My
open L2 Tw
structure Sz (d:PyData) (k n:Nat):Prop where
 sh:d.showable=true
 dp:d.depth<=k
 ln:d.shown.length<=n
theorem ZaH {d:PyData} {k n k' n':Nat} (h:Sz d k n) (hk:k<=k') (hn:n<=n'):Sz d k' n':=⟨h.sh,wv h.dp hk,wv h.ln hn⟩
theorem rH {k n:Nat}:∀ {xs:z9},(∀ x∈xs,Sz x k n)->PyData.showableAll xs=true/\PyData.depthAll xs<=k/\((PyData.shownAll xs).map (·.length)).sum<=xs.length * n/\(PyData.shownAll xs).length=xs.length
 | [],_=>⟨rfl,wS _,by simp [PyData.shownAll],rfl⟩
 | x::xs,h=>by
  obtain ⟨h2,h3,h4,h5⟩:=rH (xs:=xs) λy hy=>h y (v3 _ hy)
  have hx:=h x (by simp)
  refine ⟨?_,?_,?_,?_⟩
  ·rw [PyData.showableAll,hx.sh,h2]; rfl
  ·rw [PyData.depthAll]; have:=hx.dp; omega
  ·rw [PyData.shownAll,v9,xA,wc,xP]; have:=hx.ln; omega
  ·rw [PyData.shownAll,wc,wc,h5]
theorem ZaF {xs:z9} {k n:Nat} (h:∀ x∈xs,Sz x k n):Sz (.tuple xs) (k+1) (xs.length * n+2 * xs.length+10):=by
 obtain ⟨h2,h3,h4,h5⟩:=rH h
 have c3:=tupleText_len_le (PyData.shownAll xs)
 refine ⟨?_,?_,?_⟩
 ·rw [PyData.showable,h2]
 ·rw [PyData.depth]; omega
 ·rw [PyData.shown]; omega
theorem ZjP {xs:z9} {k n:Nat} (h:∀ x∈xs,Sz x k n):Sz (.list xs) (k+1) (xs.length * n+2 * xs.length+10):=by
 obtain ⟨h2,h3,h4,h5⟩:=rH h
 have c3:=listText_len_le (PyData.shownAll xs)
 refine ⟨?_,?_,?_⟩
 ·rw [PyData.showable,h2]
 ·rw [PyData.depth]; omega
 ·rw [PyData.shown]; omega
theorem ZaG {d:PyData} {k n:Nat} (h:Rp d k n):Sz d k n:=⟨h.sh,h.dp,h.ln⟩
theorem ZjQ {i:Int} (h:nb 1900 i):Sz (.int i) 0 1901:=ZaG (Zb2 h)
theorem kL {i:Int} (h1:-100000<=i) (h2:i<=100000):nb 1900 i:=aP (Zms (k:=20) (b:=100000) ⟨h1,h2⟩ (by decide)) (by decide)
theorem oR:∀ {xs:z9},(∀ x∈xs,x.hasDict=false)->PyData.hasDictAll xs=false
 | [],_=>rfl
 | x::xs,h=>by rw [PyData.hasDictAll,h x (by simp),oR λy hy=>h y (v3 _ hy)]; rfl
theorem oQ:∀ {xs:z9},(∀ x∈xs,cq x=false)->gK xs=false
 | [],_=>by rw [gK]
 | x::xs,h=>by rw [gK,h x (by simp),oQ λy hy=>h y (v3 _ hy)]; rfl
def Rq (d:PyData) (k n:Nat):Prop:=(d.hasDict=false\/cq d=false)/\Sz d k n
theorem ZkK {d:PyData} {k n:Nat} (h:Rq d k n) (hk:k<=32) (hn:n<=10000000):jF d=true:=by
 unfold jF
 rw [h.2.sh,decide_eq_true (wv h.2.dp hk),decide_eq_true (wv h.2.ln (wv hn (by rw [sizeLine_eq]; decide)))]
 rcases h.1 with q | q
 ·rw [q]; rfl
 ·rw [q]; cases d.hasDict <;> rfl
structure Pn (d:PyData) (k n:Nat):Prop where
 nd:d.hasDict=false
 nl:cq d=false
 z:Sz d k n
theorem Pn.rq {d:PyData} {k n:Nat} (h:Pn d k n):Rq d k n:=⟨.inl h.nd,h.z⟩
theorem eG {d:PyData} {k n k' n':Nat} (h:Pn d k n) (hk:k<=k') (hn:n<=n'):Pn d k' n':=⟨h.nd,h.nl,ZaH h.z hk hn⟩
theorem cP {d:PyData} {k n k' n':Nat} (h:Rq d k n) (hk:k<=k') (hn:n<=n'):Rq d k' n':=⟨h.1,ZaH h.2 hk hn⟩
theorem iU {i:Int} (h:nb 1900 i):Pn (.int i) 0 1901:=⟨rfl,by rw [cq],ZjQ h⟩
theorem fq {xs:z9} {k n:Nat} (h:∀ x∈xs,Pn x k n):Pn (.tuple xs) (k+1) (xs.length * n+2 * xs.length+10) :=
 ⟨by rw [PyData.hasDict]; exact oR λx hx=>(h x hx).nd,by rw [cq]; exact oQ λx hx=>(h x hx).nl,ZaF λx hx=>(h x hx).z⟩
theorem oq {xs:z9} {k n:Nat} (h:∀ x∈xs,Pn x k n):Rq (.list xs) (k+1) (xs.length * n+2 * xs.length+10) :=
 ⟨.inl (by rw [PyData.hasDict]; exact oR λx hx=>(h x hx).nd),ZjP λx hx=>(h x hx).z⟩
theorem l4 {A B:z9} {x:PyData} {k n:Nat} (hA:∀ y∈A,Pn y k n) (hB:∀ y∈B,Pn y k n) (hx:Rq x k n):Rq (.tuple (A++[x]++B)) (k+1) ((A++[x]++B).length * n+2 * (A++[x]++B).length+10):=by
 have mem:∀ {P:PyData->Prop},(∀ y∈A,P y)->P x->(∀ y∈B,P y)->∀ y∈A++[x]++B,P y:=λ{P} a b c y hy=>by
  rcases wU.mp hy with h | h
  ·rcases wU.mp h with h | h
   ·exact a y h
   ·rw [List.mem_singleton] at h; subst h; exact b
  ·exact c y h
 refine ⟨?_,ZaF (mem (λy h=>(hA y h).z) hx.2 λy h=>(hB y h).z)⟩
 rcases hx.1 with q | q
 ·exact .inl (by rw [PyData.hasDict]; exact oR (mem (λy h=>(hA y h).nd) q λy h=>(hB y h).nd))
 ·exact .inr (by rw [cq]; exact oQ (mem (λy h=>(hA y h).nl) q λy h=>(hB y h).nl))
end My
set_option Elab.async false
set_option linter.all false
set_option maxRecDepth 100000
set_option exponentiation.threshold 9000
namespace My
open L2 Tw Bar
theorem fa {p:PyData->Prop} {a:PyData} {l:z9} (h:p a) (t:∀ x∈l,p x):∀ x∈a::l,p x:=λx hx=>by
 rcases wo.mp hx with e | e
 ·subst e; exact h
 ·exact t x e
theorem fn {p:PyData->Prop}:∀ x∈([]:z9),p x:=λ_ h=>nomatch h
theorem uO (xs:z9) (t:Nat) (h:t<=xs.length):L2.cV xs none (some (t:Int))=xs.take t:=by
 unfold L2.cV
 rw [HT.ky,HT.sG,xt h,zK,Nat.sub_zero]
theorem uP (xs:z9) (t:Nat):L2.cV xs (some (t:Int)) none=xs.drop (min t xs.length):=by
 unfold L2.cV
 rw [HT.ky,HT.sG,yR (by rw [xf]; exact v4 _)]
theorem Zpq (xs:z9) (t u:Nat):L2.cV xs (some (t:Int)) (some (u:Int))=(xs.drop (min t xs.length)).take (min u xs.length - min t xs.length):=by
 unfold L2.cV
 rw [HT.ky,HT.ky]
theorem iC {xs:z9} {a:Nat} (ha:a < xs.length) (h9:xs.length<=5000) (v:PyData):eV [.d (.tuple xs),.d (.int a),.d v]=.ret (.d (.tuple (xs.set a v))):=by
 have k1:=uO xs a (x0 ha)
 have k2:L2.cV xs (some ((a:Int)+1)) none=xs.drop (a+1):=by
  have:=uP xs (a+1)
  rw [xt (by omega)] at this
  exact this
 have b1:=ny (xs:=xs.take a) (ys:=[v]) (cj (by rw [wE]; show _+1<=_; omega))
 have b2:=ny (xs:=xs.take a++[v]) (ys:=xs.drop (a+1)) (cj (by rw [wu,wE,xf]; show _+1+_<=_; omega))
 have e:xs.take a++[v]++xs.drop (a+1)=xs.set a v:=by
  rw [xk,zb,if_pos ha]
  rfl
 rw [e] at b2
 simp_arith [eV,k1,k2,b1,b2]
structure Gs (p:Int×Int):Prop where
 sh:IsSh p
 b:nb 230 p.2
 t:nb 1800 p.1
structure Pq (n:Nat) (m:Int×Int) (ws:List (Int×Int)) (ls:Aa):Prop where
 m:Gs m
 w:∀ p∈ws,Gs p
 l1:ws.length=n
 l2:ls.length=n
 l:∀ y∈ls,-1000<=y/\y<=1000
structure Po (n:Nat) (m:Int×Int) (ws:List (Int×Int)) (ls:Aa):Prop where
 q:Pq n m ws ls
 m:nb 208 m.2/\nb 1702 m.1
 w:∀ p∈ws,nb 208 p.2/\nb 1702 p.1
theorem Zoc {p t:Int×Int} (p0:0 < p.2) (t0:0 < t.2) (hp:nb 208 p.2/\nb 1702 p.1) (ht:nb 5 t.2/\nb 5 t.1):jR [.d (shr p),.d (shr t)]=.ret (.d (shr (gf p t))):=by
 have f1:=aK hp.1 (by decide)
 have f2:=aK hp.2 (by decide)
 have f3:=aK ht.1 (by decide)
 have f4:=aK ht.2 (by decide)
 have es:=Zoe (t:=p.1 * t.2+t.1 * p.2) (b:=p.2 * t.2) (xb p0 t0) (aP (bF hp.1 ht.1) (by decide))
 simp_arith [jR,shr,f1,f2,f3,f4,es]
 rfl
theorem ZnB {p t:Int×Int} (h:IsSh p) (t0:0 < t.2) (hp:nb 208 p.2/\nb 1702 p.1) (ht:nb 5 t.2/\nb 5 t.1):Gs (gf p t) :=
 ⟨Zmv h.pos t0,(Zc9 h.pos t0 hp ht).1,(Zc9 h.pos t0 hp ht).2⟩
theorem kO {α:Type} {P:α->Prop} {l:List α} {a:Nat} {v:α} (h:∀ y∈l,P y) (hv:P v):∀ y∈l.set a v,P y:=λy hy=>by
 rcases zF hy with q | q
 ·exact h y q
 ·subst q; exact hv
theorem ZkA {s:Shp} {one:Aa} (c:Cs s one) {m:Int×Int} {ws:List (Int×Int)} {ls:Aa} (h:Po s.n m ws ls):Al (pe [.pen,.d s.d,.d (ba m ws ls)]) 5 λr=>∃ m' ws' ls',r=.d (ba m' ws' ls')/\Pq s.n m' ws' ls':=by
 have ok:=c.dr.ok
 have n8:=c.n8
 have hn:=ok.n_eq
 have t0:=ok.t0
 have d0:=ok.d0
 have td:=c.td
 have l1:=h.q.l1
 have l2:=h.q.l2
 have hl:(ws.map shr).length=s.n:=by rw [vZ,l1]
 have hl2:(ls.map PyData.int).length=s.n:=by rw [vZ,l2]
 have hsm:small (ws.map shr).length=true:=cj (by omega)
 rw [ba]
 simp_arith [pe,aW]
 refine cG (n:=4) (by decide) (by decide) (by decide) λw w0 w1=>?_
 try simp_arith [aW]
 refine cG (n:=3) (by decide) (by decide) (by decide) λa a0 a1=>?_
 try simp_arith [aW]
 refine cG (n:=2) (by decide) (by decide) (by decide) λb b0 b1=>?_
 simp_arith [aW,hl]
 refine cG (n:=1) (by omega) (by omega) (by decide) λk k0 k1=>?_
 obtain ⟨k,rfl⟩:=xq k0
 have hk:k < s.n:=Int.ofNat_lt.mp k1
 have tp:(0:Int) < 1+b:=by omega
 have tn:nb 5 (1+b)/\nb 5 (a - 4):=⟨bM (by show -32 < _; omega) (by show _ < 32; omega),bM (by show -32 < _; omega) (by show _ < 32; omega)⟩
 have em:∀ p:Int×Int,IsSh p->nb 208 p.2/\nb 1702 p.1->jR [.d (shr p),.d (.tuple [.int (a - 4),.int (1+b)])]=.ret (.d (shr (gf p (a - 4,1+b)))):=λp sp hp=>Zoc (t:=(a - 4,1+b)) sp.pos tp hp tn
 have gm:∀ p:Int×Int,IsSh p->nb 208 p.2/\nb 1702 p.1->Gs (gf p (a - 4,1+b)):=λp sp hp=>ZnB sp tp hp tn
 have cs:w=0\/w=1\/w=2\/w=3\/w=4\/w=5:=by omega
 rcases cs with rfl | rfl | rfl | rfl | rfl | rfl
 ·have e:=em m h.q.m.sh h.m
  simp_arith [aW,Int.reduceBEq,e]
  exact ce ⟨_,_,_,rfl,⟨gm m h.q.m.sh h.m,h.q.w,l1,l2,h.q.l⟩⟩
 ·have e:=oZ (h:=cx (aj 0) sX [.un,.d (.tuple [.int (a - 4),.int (1+b)])]) (D:=shr) (F:=λp=>shr (gf p (a - 4,1+b))) (l:=ws) λp hp=>by
   have e:=em p (h.q.w p hp).sh (h.w p hp)
   simp_arith [sX,e]
  simp_arith [aW,Int.reduceBEq,hsm,e]
  refine ce ⟨m,ws.map λp=>gf p (a - 4,1+b),ls,?_,⟨h.q.m,λp hp=>?_,by rw [vZ,l1],l2,h.q.l⟩⟩
  ·rw [ba,ww]
   rfl
  ·obtain ⟨q,hq,rfl⟩:=wP.mp hp
   exact gm q (h.q.w q hq).sh (h.w q hq)
 ·have hkw:k < ws.length:=by omega
  have ia:bf (ws.map shr) (k:Int)=some (shr ws[k]):=dl (xC k) (by rw [wD,v5,v6 hkw]; rfl)
  have hm:=wN hkw
  have e:=em ws[k] (h.q.w _ hm).sh (h.w _ hm)
  have ep:=iC (xs:=ws.map shr) (a:=k) (by omega) (by omega) (shr (gf ws[k] (a - 4,1+b)))
  simp_arith [aW,Int.reduceBEq,ia,e,ep]
  refine ce ⟨m,ws.set k (gf ws[k] (a - 4,1+b)),ls,?_,⟨h.q.m,kO h.q.w (gm _ (h.q.w _ hm).sh (h.w _ hm)),by rw [wx,l1],l2,h.q.l⟩⟩
  rw [ba,zi]
 ·rw [tI]
  simp_arith [aW,Int.reduceBEq,hl2]
  refine cG (n:=0) (by omega) (by omega) (by decide) λr r0 r1=>?_
  have ep:=iC (xs:=ls.map PyData.int) (a:=k) (by omega) (by omega) (.int ((k:Int) - s.depth+r))
  simp_arith [aW,Int.reduceBEq,ep]
  refine ce ⟨m,ws,ls.set k ((k:Int) - s.depth+r),?_,⟨h.q.m,h.q.w,l1,by rw [wx,l2],kO h.q.l (by omega)⟩⟩
  rw [ba,tI,zi]
 ·rw [tI]
  simp_arith [aW,Int.reduceBEq,hl2]
  refine cG (n:=0) (by omega) (by omega) (by decide) λr r0 r1=>?_
  have ep:=iC (xs:=ls.map PyData.int) (a:=k) (by omega) (by omega) (.int (r - s.depth - 1))
  simp_arith [aW,Int.reduceBEq,ep]
  refine ce ⟨m,ws,ls.set k (r - s.depth - 1),?_,⟨h.q.m,h.q.w,l1,by rw [wx,l2],kO h.q.l (by omega)⟩⟩
  rw [ba,tI,zi]
 ·simp_arith [aW,Int.reduceBEq]
  exact ce ⟨_,_,_,rfl,h.q⟩
theorem fD {x:PyData} (h:∀ a b,x≠.tuple [.int a,.int b]):Sp x:=⟨λa b e=>absurd e (h a b),λp e=>absurd e (h p.1 p.2)⟩
theorem rO {a b:Int} (hb:nb 7000 b) (h:¬ IsSh (a,b)):Sp (.tuple [.int a,.int b]):=⟨λc d e=>by cases e; exact hb,λp e q=>by
 obtain ⟨p1,p2⟩:=p
 cases e
 exact absurd q h⟩
theorem rN {p:Int×Int} (h:Gs p):Sp (shr p):=⟨u4 (aP h.b (by decide)),λq e _=>by
 obtain ⟨p1,p2⟩:=p
 obtain ⟨q1,q2⟩:=q
 cases e
 exact ⟨h.b,h.t⟩⟩
def Oq (x:PyData):Prop:=Sp x/\Rq x 2 50000
theorem kI {x:PyData} (h5:∀ a b,x≠.tuple [.int a,.int b]) (h:x.hasDict=false\/cq x=false) (h2:x.showable=true) (h3:x.depth<=2) (h4:x.shown.length<=50000):Oq x:=⟨fD h5,⟨h,h2,h3,h4⟩⟩
theorem oB (b:Bool):Pn (.bool b) 0 20000:=by cases b <;> exact ⟨rfl,by rw [cq],rfl,wS _,by trivial⟩
theorem ZcG:Pn .none 0 20000:=⟨rfl,by rw [cq],rfl,wS _,by trivial⟩
theorem Zdt {i:Int} (h:nb 1900 i):i.natAbs.log2 < 1920:=by
 by_cases h0:i.natAbs=0
 ·rw [h0]; decide
 ·exact Nat.lt_trans ((yZ h0).mpr h) (by decide)
theorem ZcF {i:Int} (h:nb 1900 i):Pn (.str (toString i)) 0 20000:=by
 have h1:i.natAbs.log2 < 1900:=by
  by_cases h0:i.natAbs=0
  ·rw [h0]; decide
  ·exact (yZ h0).mpr h
 have h2:=int_text_length_le (k:=1900) (by decide) h1
 have h3:((toString i:String):Str).length<=1901:=by rw [PySem.ofString_length]; exact h2
 have h4:=PySem.StrLaws.reprText_len ((toString i:String):Str) (Codes.of _)
 refine ⟨rfl,by rw [cq],rfl,wS _,?_⟩
 rw [PyData.shown]
 omega
theorem gC {i:Int} (h:nb 1900 i):Pn (.int i) 0 20000:=eG (iU h) (v4 _) (by decide)
theorem Zbv {p:Int×Int} (h:Gs p):Al (mH [.pen,.d (shr p)]) 1 λr=>∃ x,r=.d x/\Oq x:=by
 obtain ⟨t,b⟩:=p
 have b0:0 < b:=h.sh.pos
 have one:Nat.gcd t.natAbs b.natAbs=1:=h.sh.one
 have nB:nb 230 b:=h.b
 have nT:nb 1800 t:=h.t
 have f0:fit (2:Int)=true:=aK (show nb 20 (2:Int) from bM (by decide) (by decide)) (by decide)
 have f1:=aK nT (by decide)
 have f2:=aK nB (by decide)
 have n2:nb 2 (2:Int):=bM (by decide) (by decide)
 have tn:nb 1900 t:=aP nT (by decide)
 have bn:nb 1900 b:=aP nB (by decide)
 have st:bZ jA [.int t]=.ret (.str (toString t)):=ZeP (Zdt tn)
 have ad:aV aX (.list [PyData.tuple [.int (2 * t),.int (2 * b)],.tuple [.int (0 - t),.int (0 - b)],.list [.int t,.int b],.tuple [.int t],.tuple [.int t,.int b,.int 1],.tuple [.str (toString t),.int b]]) (.list [PyData.tuple [.bool (t == 1),.int b],.tuple [.int t,.bool (b == 1)],.tuple [.int t,.int 0],.none,.bool true,.int 0,.str "0/1",.tuple [],.dict [],.tuple [.tuple [.int t,.int b]],.tuple [.int b,.none]])=.ret (.list [PyData.tuple [.int (2 * t),.int (2 * b)],.tuple [.int (0 - t),.int (0 - b)],.list [.int t,.int b],.tuple [.int t],.tuple [.int t,.int b,.int 1],.tuple [.str (toString t),.int b],PyData.tuple [.bool (t == 1),.int b],.tuple [.int t,.bool (b == 1)],.tuple [.int t,.int 0],.none,.bool true,.int 0,.str "0/1",.tuple [],.dict [],.tuple [.tuple [.int t,.int b]],.tuple [.int b,.none]]):=ld rfl
 simp_arith [mH,shr,aW,f0,f1,f2,st,ad]
 refine cG (n:=0) (by decide) (by decide) (by decide) λr r0 r1=>?_
 obtain ⟨x,hx,hm⟩:=pick (xs:=[PyData.tuple [.int (2 * t),.int (2 * b)],.tuple [.int (0 - t),.int (0 - b)],.list [.int t,.int b],.tuple [.int t],.tuple [.int t,.int b,.int 1],.tuple [.str (toString t),.int b],PyData.tuple [.bool (t == 1),.int b],.tuple [.int t,.bool (b == 1)],.tuple [.int t,.int 0],.none,.bool true,.int 0,.str "0/1",.tuple [],.dict [],.tuple [.tuple [.int t,.int b]],.tuple [.int b,.none]]) r0 r1
 simp_arith [aW,hx]
 refine ce ⟨x,rfl,?_⟩
 have tu:∀ {xs:z9},xs.length<=2->(∀ y∈xs,Pn y 0 20000)->Rq (.tuple xs) 2 50000:=λ{xs} hl hp=>cP (fq hp).rq (by decide) (by have:xs.length * 20000<=2 * 20000:=xi _ hl; omega)
 have it:=gC tn
 have ib:=gC bn
 refine (fa (p:=Oq) ⟨rO (aP (bF n2 nB) (by decide)) λz=>?_,tu (v4 _) (fa (gC (aP (bF n2 nT) (by decide))) (fa (gC (aP (bF n2 nB) (by decide))) fn))⟩ (fa ⟨rO (aP (eJ (show nb 1 (0:Int) from bM (by decide) (by decide)) nB) (by decide)) λz=>?_,tu (v4 _) (fa (gC (aP (eJ (show nb 1 (0:Int) from bM (by decide) (by decide)) nT) (by decide))) (fa (gC (aP (eJ (show nb 1 (0:Int) from bM (by decide) (by decide)) nB) (by decide))) fn))⟩ (fa ⟨fD (by intro a b e; cases e),cP (oq (xs:=[.int t,.int b]) (fa it (fa ib fn))) (by decide) (show 2 * 20000+2 * 2+10<=50000 by decide)⟩ (fa ⟨fD (by intro a b e; cases e),tu (xs:=[.int t]) (show 1<=2 by decide) (fa it fn)⟩ (fa ⟨fD (by intro a b e; cases e),?_⟩ (fa ⟨fD (by intro a b e; cases e),tu (v4 _) (fa (ZcF tn) (fa ib fn))⟩ ?_)))))) x hm
 ·have:=z.one
  rw [show ((2 * t,2 * b):Int×Int).1=2 * t from rfl,show ((2 * t,2 * b):Int×Int).2=2 * b from rfl,xl,xl,Nat.gcd_mul_left,one] at this
  exact absurd this (by decide)
 ·have:=z.pos
  have:0 < 0 - b:=this
  omega
 ·exact cP (fq (xs:=[.int t,.int b,.int 1]) (k:=0) (n:=2600) (fa (eG (iU tn) (v4 _) (by decide)) (fa (eG (iU bn) (v4 _) (by decide)) (fa (eG (iU (kL (by decide) (by decide))) (v4 _) (by decide)) fn)))).rq (by decide) (show 3 * 2600+2 * 3+10<=50000 by decide)
 refine fa ⟨fD (by intro a b e; cases e),tu (v4 _) (fa (oB _) (fa ib fn))⟩ (fa ⟨fD (by intro a b e; cases e),tu (v4 _) (fa it (fa (oB _) fn))⟩ (fa ⟨rO (aP (show nb 1 (0:Int) from bM (by decide) (by decide)) (by decide)) λz=>(by have:(0:Int) < 0:=z.pos; omega),tu (v4 _) (fa it (fa (gC (kL (by decide) (by decide))) fn))⟩ ?_))
 refine fa (kI (by intro a b e; cases e) (.inl rfl) rfl (wS _) (by trivial)) (fa (kI (by intro a b e; cases e) (.inl rfl) rfl (wS _) (by trivial)) (fa (kI (by intro a b e; cases e) (.inl rfl) rfl (wS _) (by trivial)) (fa (kI (by intro a b e; cases e) (.inl rfl) rfl (wS _) (by trivial)) (fa (kI (by intro a b e; cases e) (.inl rfl) rfl (by decide) (by trivial)) (fa (kI (by intro a b e; cases e) (.inr (by rw [cq]; rfl)) rfl (by decide) (by trivial)) ?_)))))
 exact fa ⟨fD (by intro a b e; cases e),cP (fq (xs:=[.tuple [.int t,.int b]]) (fa (fq (xs:=[.int t,.int b]) (k:=0) (n:=20000) (fa it (fa ib fn))) fn)).rq (by decide) (show 1 * (2 * 20000+2 * 2+10)+2 * 1+10<=50000 by decide)⟩ (fa ⟨fD (by intro a b e; cases e),tu (v4 _) (fa ib (fa ZcG fn))⟩ fn)
end My
set_option Elab.async false
set_option linter.all false
set_option maxRecDepth 100000
set_option exponentiation.threshold 9000
namespace My
open L2 Tw Bar
def Th (x:PyData):Prop:=Tg x/\Rq x 5 2000000
theorem oA {p:Int×Int} (h:Gs p):Pn (shr p) 1 4000:=eG (fq (xs:=[.int p.1,.int p.2]) (fa (iU (aP h.t (by decide))) (fa (iU (aP h.b (by decide))) fn))) (v4 _) (show 2 * 1901+2 * 2+10<=4000 by decide)
section
variable {n:Nat} {m:Int×Int} {ws:List (Int×Int)} {ls:Aa}
theorem Pq.pw (h:Pq n m ws ls):∀ y∈ws.map shr,Pn y 1 4000/\Sp y:=λy hy=>by
 obtain ⟨p,hp,rfl⟩:=wP.mp hy
 exact ⟨oA (h.w p hp),rN (h.w p hp)⟩
theorem Pq.pl (h:Pq n m ws ls):∀ y∈ls.map PyData.int,Pn y 1 4000:=λy hy=>by
 obtain ⟨p,hp,rfl⟩:=wP.mp hy
 have:=h.l p hp
 exact eG (iU (kL (by omega) (by omega))) (by decide) (by decide)
theorem iT {Z:z9} (hl:Z.length<=9) (h:∀ y∈Z,Pn y 1 4000):Pn (.tuple Z) 2 70000:=eG (fq h) (v4 _) (by have:Z.length * 4000<=9 * 4000:=xi _ hl; omega)
theorem Zjm (hn:n<=8) (h:Pq n m ws ls) {x:PyData} (hx:Oq x):Th (.tuple [x,.tuple (ws.map shr),tI ls]):=by
 have l1:=h.l1
 have l2:=h.l2
 refine ⟨λa b c e=>?_,?_⟩
 ·cases e
  refine ⟨hx.1,λys e=>?_,λys e=>?_⟩
  ·cases e
   exact ⟨by rw [vZ]; omega,λy hy=>(h.pw y hy).2⟩
  ·cases e
   rw [vZ]
   omega
 ·exact cP (l4 (A:=[]) (x:=x) (B:=[.tuple (ws.map shr),tI ls]) (k:=2) (n:=70000) fn (fa (iT (by rw [vZ]; omega) λy hy=>(h.pw y hy).1) (fa (iT (by rw [vZ]; omega) h.pl) fn)) (cP hx.2 (by decide) (by decide))) (by decide) (show 3 * 70000+2 * 3+10<=2000000 by decide)
theorem Zau (hn:n<=8) (h:Pq n m ws ls) {w:PyData} (hw:Wp w) (hr:Rq w 3 450000):Th (.tuple [shr m,w,tI ls]):=by
 have l2:=h.l2
 refine ⟨λa b c e=>?_,?_⟩
 ·cases e
  refine ⟨rN h.m,hw,λys e=>?_⟩
  cases e
  rw [vZ]
  omega
 ·exact cP (l4 (A:=[shr m]) (x:=w) (B:=[tI ls]) (k:=3) (n:=450000) (fa (eG (oA h.m) (by decide) (by decide)) fn) (fa (eG (iT (by rw [vZ]; omega) h.pl) (by decide) (by decide)) fn) hr) (by decide) (show 3 * 450000+2 * 3+10<=2000000 by decide)
theorem rC (hn:n<=8) (h:Pq n m ws ls) {l:PyData} (hl:Lp l) (hr:Rq l 3 450000):Th (.tuple [shr m,.tuple (ws.map shr),l]):=by
 have l1:=h.l1
 refine ⟨λa b c e=>?_,?_⟩
 ·cases e
  refine ⟨rN h.m,λys e=>?_,hl⟩
  cases e
  exact ⟨by rw [vZ]; omega,λy hy=>(h.pw y hy).2⟩
 ·exact cP (l4 (A:=[shr m,.tuple (ws.map shr)]) (x:=l) (B:=[]) (k:=3) (n:=450000) (fa (eG (oA h.m) (by decide) (by decide)) (fa (eG (iT (by rw [vZ]; omega) λy hy=>(h.pw y hy).1) (by decide) (by decide)) fn)) fn hr) (by decide) (show 3 * 450000+2 * 3+10<=2000000 by decide)
theorem Zav (hn:n<=8) (h:Pq n m ws ls):Th (ba m ws ls):=rC hn h (λys e=>by cases e; rw [vZ]; have:=h.l2; omega) (cP (iT (by rw [vZ]; have:=h.l2; omega) h.pl).rq (by decide) (by decide))
theorem Zb1 {Z:z9} {a:Nat} (ha:a < Z.length) (hl:Z.length<=8) (h:∀ y∈Z,Pn y 1 4000) {x:PyData} (hx:Rq x 2 50000):Rq (.tuple (Z.set a x)) 3 450000:=by
 have e:Z.take a++[x]++Z.drop (a+1)=Z.set a x:=by
  rw [xk,zb,if_pos ha]
  rfl
 have r:=l4 (A:=Z.take a) (x:=x) (B:=Z.drop (a+1)) (k:=2) (n:=50000) (λy hy=>eG (h y (yn hy)) (by decide) (by decide)) (λy hy=>eG (h y (yo hy)) (by decide) (by decide)) hx
 rw [e,wx] at r
 exact cP r (v4 _) (wv (Nat.add_le_add (Nat.add_le_add (xi 50000 hl) (Nat.mul_le_mul_left 2 hl)) (v4 10)) (by decide))
theorem Zld (hn:n<=8) (h:Pq n m ws ls) {wh:Int} {Z Z':z9} (hz:(wh=1/\Z=ws.map shr)\/(wh=2/\Z=ls.map PyData.int)) (hs:∀ y∈Z',y∈Z) (hl:Z'.length<=9) {v:PyData} (hv:v=.tuple Z'\/v=.list Z'):∃ x,eV [.d (.tuple [shr m,.tuple (ws.map shr),tI ls]),.d (.int wh),.d v]=.ret (.d x)/\Th x:=by
 have p:∀ y∈Z',Pn y 1 4000:=λy hy=>by
  rcases hz with ⟨_,rfl⟩ | ⟨_,rfl⟩
  ·exact (h.pw y (hs y hy)).1
  ·exact h.pl y (hs y hy)
 have r:Rq v 3 450000:=by
  rcases hv with rfl | rfl
  ·exact cP (iT hl p).rq (by decide) (by decide)
  ·exact cP (oq p) (by decide) (by have:Z'.length * 4000<=9 * 4000:=xi _ hl; omega)
 rcases hz with ⟨rfl,rfl⟩ | ⟨rfl,rfl⟩
 ·refine ⟨.tuple [shr m,v,tI ls],iC (xs:=[shr m,.tuple (ws.map shr),tI ls]) (a:=1) (show 1 < 3 by decide) (show 3<=5000 by decide) v,Zau hn h (λys e=>?_) r⟩
  rcases hv with rfl | rfl
  ·cases e
   exact ⟨by omega,λy hy=>(h.pw y (hs y hy)).2⟩
  ·cases e
 ·refine ⟨.tuple [shr m,.tuple (ws.map shr),v],iC (xs:=[shr m,.tuple (ws.map shr),tI ls]) (a:=2) (show 2 < 3 by decide) (show 3<=5000 by decide) v,rC hn h (λys e=>?_) r⟩
  rcases hv with rfl | rfl
  ·cases e
   omega
  ·cases e
noncomputable def nN:Int:=100000000000000000000000000000
theorem Zlp:aV mj (.int 10) (.int 29)=.ret (.int nN):=rfl
theorem Zrt:nb 1900 nN:=aP (show nb 100 nN by unfold nN; show (100000000000000000000000000000:Int).natAbs < 2 ^ 100; decide) (by decide)
theorem lK {x:PyData} (h:∀ a b c,x≠.tuple [a,b,c]):Tg x:=λa b c e=>absurd e (h a b c)
theorem lJ {x:PyData} (h5:∀ a b c,x≠.tuple [a,b,c]) (h:x.hasDict=false\/cq x=false) (h2:x.showable=true) (h3:x.depth<=5) (h4:x.shown.length<=2000000):Th x:=⟨lK h5,⟨h,h2,h3,h4⟩⟩
theorem Zky (hn:n<=8) (n1:1<=n) (h:Pq n m ws ls):Al (o9 [.pen,.d (ba m ws ls)]) 5 λr=>∃ x,r=.d x/\Th x:=by
 have l1:=h.l1
 have l2:=h.l2
 have hl:(ws.map shr).length=n:=by rw [vZ,l1]
 have hl2:(ls.map PyData.int).length=n:=by rw [vZ,l2]
 rw [ba]
 simp_arith [o9,aW]
 refine cG (n:=4) (by decide) (by decide) (by decide) λw w0 w1=>?_
 simp_arith [aW,hl]
 refine cG (n:=3) (by omega) (by omega) (by decide) λa a0 a1=>?_
 try simp_arith [aW,hl]
 refine cG (n:=2) (by omega) (by omega) (by decide) λo o0 o1=>?_
 try simp_arith [aW]
 refine cG (n:=1) (by decide) (by decide) (by decide) λd d0 d1=>?_
 obtain ⟨a,rfl⟩:=xq a0
 obtain ⟨o,rfl⟩:=xq o0
 have ha:a < n:=Int.ofNat_lt.mp a1
 have ho:o < n:=Int.ofNat_lt.mp o1
 have hwh:1+d=1\/1+d=2:=by omega
 generalize 1+d=wh at *
 obtain ⟨Z,i9,hz,zl⟩:∃ Z,bf [shr m,.tuple (ws.map shr),tI ls] wh=some (.tuple Z)/\((wh=1/\Z=ws.map shr)\/(wh=2/\Z=ls.map PyData.int))/\Z.length=n:=by
  rcases hwh with rfl | rfl
  ·exact ⟨ws.map shr,rfl,.inl ⟨rfl,rfl⟩,hl⟩
  ·exact ⟨ls.map PyData.int,rfl,.inr ⟨rfl,rfl⟩,hl2⟩
 have key:=λZ' hs hl v hv=>Zld (Z:=Z) (Z':=Z') (v:=v) (wh:=wh) hn h hz hs hl hv
 have fin:∀ {Z':z9},(∀ y∈Z',y∈Z)->Z'.length<=9->(∃ x,eV [.d (.tuple [shr m,.tuple (ws.map shr),tI ls]),.d (.int wh),.d (.tuple Z')]=.ret (.d x)/\Th x)/\∃ x,eV [.d (.tuple [shr m,.tuple (ws.map shr),tI ls]),.d (.int wh),.d (.list Z')]=.ret (.d x)/\Th x:=λ{Z'} hs hl=>⟨key Z' hs hl _ (.inl rfl),key Z' hs hl _ (.inr rfl)⟩
 have ll:∀ Z':z9,ni ir [.tuple Z']=.ret Z':=λ_=>rfl
 have cs:w=0\/w=1\/w=2\/w=3\/w=4\/w=5\/w=6:=by omega
 rcases cs with rfl | rfl | rfl | rfl | rfl | rfl | rfl
 ·simp_arith [aW,i9,Int.reduceBEq]
  refine fb (n:=1) (n':=0) (Zbv h.m) (by decide) ?_
  rintro _ ⟨x,rfl,hx⟩
  simp_arith [aW]
  exact ce ⟨_,rfl,Zjm hn h hx⟩
 ·have hkw:a < ws.length:=by omega
  have ia:bf (ws.map shr) (a:Int)=some (shr ws[a]):=dl (xC a) (by rw [wD,v5,v6 hkw]; rfl)
  simp_arith [aW,i9,Int.reduceBEq,ia]
  refine fb (n:=1) (n':=0) (Zbv (h.w _ (wN hkw))) (by decide) ?_
  rintro _ ⟨x,rfl,hx⟩
  have ep:=iC (xs:=ws.map shr) (a:=a) (by omega) (by omega) x
  simp_arith [aW,ep]
  refine ce ⟨_,rfl,Zau hn h (λys e=>?_) (Zb1 (by omega) (by omega) (λy hy=>(h.pw y hy).1) hx.2)⟩
  cases e
  exact ⟨by rw [wx]; omega,kO (λy hy=>(h.pw y hy).2) hx.1⟩
 ·have hkw:a < ls.length:=by omega
  have ia:bf (ls.map PyData.int) (a:Int)=some (.int ls[a]):=dl (xC a) (by rw [wD,v5,v6 hkw]; rfl)
  have hv:=h.l _ (wN hkw)
  have el:tI ls=.tuple (ls.map PyData.int):=rfl
  generalize ls[a]=v at *
  have nv:nb 1900 v:=kL (by omega) (by omega)
  have st:bZ jA [.int v]=.ret (.str (toString v)):=ZeP (Zdt nv)
  rw [el] at i9 ⊢
  simp_arith [aW,i9,Int.reduceBEq,ia,st,Zlp]
  refine cG (n:=0) (by decide) (by decide) (by decide) λr r0 r1=>?_
  obtain ⟨x,hx,hm⟩:=pick (xs:=[PyData.bool (v == 1),.str (toString v),.none,.list [.int v],.tuple [.int v,.int 1],.bool true,.int nN,.dict []]) r0 r1
  have ep:=iC (xs:=ls.map PyData.int) (a:=a) (by omega) (by omega) x
  simp_arith [aW,hx,ep]
  have iv:=gC nv
  have rx:Rq x 2 50000:=(fa (p:=λx=>Rq x 2 50000) (cP (oB _).rq (by decide) (by decide)) (fa (cP (ZcF nv).rq (by decide) (by decide)) (fa (cP ZcG.rq (by decide) (by decide)) (fa (cP (oq (xs:=[.int v]) (fa iv fn)) (by decide) (show 1 * 20000+2 * 1+10<=50000 by decide)) (fa (cP (fq (xs:=[.int v,.int 1]) (fa iv (fa (gC (kL (by decide) (by decide))) fn))).rq (by decide) (show 2 * 20000+2 * 2+10<=50000 by decide)) (fa (cP (oB _).rq (by decide) (by decide)) (fa (cP (gC Zrt).rq (by decide) (by decide)) (fa ⟨.inr (by rw [cq]; rfl),rfl,by decide,by trivial⟩ fn)))))))) x hm
  refine ce ⟨_,rfl,rC hn h (λys e=>?_) (Zb1 (by omega) (by omega) h.pl rx)⟩
  cases e
  rw [wx]
  omega
 ·have kt:=uO Z a (by omega)
  have kf:L2.cV Z (some ((a:Int)+1)) none=Z.drop (min (a+1) Z.length):=uP Z (a+1)
  have b1:=ny (xs:=Z.take a) (ys:=Z.drop (min (a+1) Z.length)) (cj (by rw [wE,xf]; omega))
  obtain ⟨⟨x,e1,h1⟩,y,e2,h2⟩:=fin (Z':=Z.take a++Z.drop (min (a+1) Z.length)) (λy hy=>by
   rcases wU.mp hy with q | q
   ·exact yn q
   ·exact yo q) (by rw [wu,wE,xf]; omega)
  simp_arith [aW,i9,Int.reduceBEq,kt,kf,b1]
  refine cG (n:=0) (by decide) (by decide) (by decide) λr r0 r1=>?_
  cases hr:(r == 0)
  ·simp_arith [aW,hr,e1]
   exact ce ⟨_,rfl,h1⟩
  ·simp_arith [aW,hr,ll,e2]
   exact ce ⟨_,rfl,h2⟩
 ·have kt:=uO Z a (by omega)
  have km:L2.cV Z (some (a:Int)) (some ((a:Int)+1))=(Z.drop (min a Z.length)).take (min (a+1) Z.length - min a Z.length):=Zpq Z a (a+1)
  have kf:=uP Z a
  have b1:=ny (xs:=Z.take a) (ys:=(Z.drop (min a Z.length)).take (min (a+1) Z.length - min a Z.length)) (cj (by rw [wE,wE,xf]; omega))
  have b2:=ny (xs:=Z.take a++(Z.drop (min a Z.length)).take (min (a+1) Z.length - min a Z.length)) (ys:=Z.drop (min a Z.length)) (cj (by rw [wu,wE,wE,xf]; omega))
  obtain ⟨⟨x,e1,h1⟩,y,e2,h2⟩:=fin (Z':=Z.take a++(Z.drop (min a Z.length)).take (min (a+1) Z.length - min a Z.length)++Z.drop (min a Z.length)) (λy hy=>by
   rcases wU.mp hy with q | q
   ·rcases wU.mp q with q | q
    ·exact yn q
    ·exact yo (yn q)
   ·exact yo q) (by rw [wu,wu,wE,wE,xf]; omega)
  simp_arith [aW,i9,Int.reduceBEq,kt,km,kf,b1,b2]
  refine cG (n:=0) (by decide) (by decide) (by decide) λr r0 r1=>?_
  cases hr:(r == 0)
  ·simp_arith [aW,hr,e1]
   exact ce ⟨_,rfl,h1⟩
  ·simp_arith [aW,hr,ll,e2]
   exact ce ⟨_,rfl,h2⟩
 ·have ia:bf Z (a:Int)=some Z[a]:=dl (xC a) (by rw [wD]; exact v6 (by omega))
  have io:bf Z (o:Int)=some Z[o]:=dl (xC o) (by rw [wD]; exact v6 (by omega))
  have p1:=iC (xs:=Z) (a:=a) (by omega) (by omega) Z[o]
  have p2:=iC (xs:=Z.set a Z[o]) (a:=o) (by rw [wx]; omega) (by rw [wx]; omega) Z[a]
  obtain ⟨⟨x,e1,h1⟩,y,e2,h2⟩:=fin (Z':=(Z.set a Z[o]).set o Z[a]) (kO (kO (λy hy=>hy) (wN _)) (wN _)) (by rw [wx,wx]; omega)
  simp_arith [aW,i9,Int.reduceBEq,ia,io,p1,p2]
  refine cG (n:=0) (by decide) (by decide) (by decide) λr r0 r1=>?_
  cases hr:(r == 0)
  ·simp_arith [aW,hr,e1]
   exact ce ⟨_,rfl,h1⟩
  ·simp_arith [aW,hr,ll,e2]
   exact ce ⟨_,rfl,h2⟩
 ·have ad:aV aX (.tuple [shr m,.tuple (ws.map shr),tI ls]) (.tuple [tI ls])=.ret (.tuple [shr m,.tuple (ws.map shr),tI ls,tI ls]):=uB rfl rfl
  have k1:L2.cV [shr m,.tuple (ws.map shr),tI ls] none (some 2)=[shr m,.tuple (ws.map shr)]:=rfl
  have k2:L2.cV [shr m,.tuple (ws.map shr),tI ls] (some 2) none=[tI ls]:=rfl
  simp_arith [aW,i9,Int.reduceBEq,k1,k2,ad,ll]
  refine cG (n:=0) (by decide) (by decide) (by decide) λr r0 r1=>?_
  obtain ⟨x,hx,hm⟩:=pick (xs:=[PyData.list [shr m,.tuple (ws.map shr),tI ls],.tuple [shr m,.tuple (ws.map shr)],.tuple [shr m,.tuple (ws.map shr),tI ls,tI ls],.tuple [.tuple [shr m,.tuple (ws.map shr),tI ls]],.none,.dict [],.bool true,.str "",.tuple [],.tuple [.tuple (ws.map shr),shr m,tI ls]]) r0 r1
  simp_arith [aW,hx]
  refine ce ⟨x,rfl,?_⟩
  have im:Pn (shr m) 2 70000:=eG (oA h.m) (by decide) (by decide)
  have iw:Pn (.tuple (ws.map shr)) 2 70000:=iT (by omega) λy hy=>(h.pw y hy).1
  have il:Pn (tI ls) 2 70000:=iT (by omega) h.pl
  refine (fa (p:=Th) ⟨lK (by intro a b c e; cases e),cP (oq (fa im (fa iw (fa il fn)))) (by decide) (show 3 * 70000+2 * 3+10<=2000000 by decide)⟩ (fa ⟨lK (by intro a b c e; cases e),cP (fq (fa im (fa iw fn))).rq (by decide) (show 2 * 70000+2 * 2+10<=2000000 by decide)⟩ (fa ⟨lK (by intro a b c e; cases e),cP (fq (fa im (fa iw (fa il (fa il fn))))).rq (by decide) (show 4 * 70000+2 * 4+10<=2000000 by decide)⟩ (fa ⟨lK (by intro a b c e; cases e),cP (fq (xs:=[.tuple [shr m,.tuple (ws.map shr),tI ls]]) (fa (fq (fa im (fa iw (fa il fn)))) fn)).rq (by decide) (show 1 * (3 * 70000+2 * 3+10)+2 * 1+10<=2000000 by decide)⟩ ?_)))) x hm
  refine fa (lJ (by intro a b c e; cases e) (.inl rfl) rfl (wS _) (by trivial)) (fa (lJ (by intro a b c e; cases e) (.inr (by rw [cq]; rfl)) rfl (by decide) (by trivial)) (fa (lJ (by intro a b c e; cases e) (.inl rfl) rfl (wS _) (by trivial)) (fa (lJ (by intro a b c e; cases e) (.inl rfl) rfl (wS _) (by trivial)) (fa (lJ (by intro a b c e; cases e) (.inl rfl) rfl (by decide) (by trivial)) (fa ⟨λa b c e=>?_,cP (fq (fa iw (fa im (fa il fn)))).rq (by decide) (show 3 * 70000+2 * 3+10<=2000000 by decide)⟩ fn)))))
  cases e
  refine ⟨fD λa b e=>?_,λys e=>?_,λys e=>?_⟩
  ·rcases ws with _ | ⟨p,ws⟩
   ·cases e
   ·cases e
  ·cases e
   exact ⟨(show 2<=200 by decide),fa (fD (by intro a b e; cases e)) (fa (fD (by intro a b e; cases e)) fn)⟩
  ·cases e
   omega
end
end My
set_option Elab.async false
set_option linter.all false
set_option maxRecDepth 100000
set_option exponentiation.threshold 9000
namespace My
open L2 Tw Bar
theorem Lst.po {s:Shp} {one:Aa} {lv:Nat->Int} (h:Lst s one lv) (c:Cs s one):Po s.n (dc (zB s one lv 0) (aZ s one lv)) (fi s one lv) (bR s lv)/\ju s (bR s lv):=by
 have sp:=ga h.r
 have ns:=Zki h.r c.s13
 have hn:=c.dr.ok.n_eq
 have t0:=c.dr.t0
 have d0:=c.dr.d0
 have td:=c.td
 have nz:∀ {t:Int},nb 1702 t->nb 208 (dc t (aZ s one lv)).2/\nb 1702 (dc t (aZ s one lv)).1:=λht=>by
  obtain ⟨a,b⟩:=Zdr ht ns (by omega)
  exact ⟨b,a⟩
 have gs:∀ {t:Int},nb 1702 t->Gs (dc t (aZ s one lv)):=λht=>⟨iu sp,aP (nz ht).1 (by decide),aP (nz ht).2 (by decide)⟩
 have zn:=Zad h.r (show 0 < s.n by omega)
 have wn:∀ p∈fi s one lv,∃ t,p=dc t (aZ s one lv)/\nb 1702 t:=λp hp=>by
  unfold fi at hp
  obtain ⟨x,hx,rfl⟩:=wP.mp hp
  have:=ma hx
  exact ⟨_,rfl,rj h.r x (by omega) (by omega)⟩
 have lv':ju s (bR s lv):=λi hi=>by
  rw [tR hi]
  rw [jT] at hi
  exact ⟨h.r.lo i hi,h.r.hi i hi⟩
 refine ⟨⟨⟨gs zn,λp hp=>?_,Zbi s one lv,jT s lv,λy hy=>?_⟩,nz zn,λp hp=>?_⟩,lv'⟩
 ·obtain ⟨t,rfl,ht⟩:=wn p hp
  exact gs ht
 ·obtain ⟨i,hi,rfl⟩:=yY.mp hy
  have:=lv' i hi
  rw [jT] at hi
  omega
 ·obtain ⟨t,rfl,ht⟩:=wn p hp
  exact nz ht
theorem Zjo {s:Shp} {one:Aa} (c:Cs s one) {m:Int×Int} {ws:List (Int×Int)} {ls:Aa} (h:Po s.n m ws ls) {T:z9} (hT:T.length<=100) (k:Int) (J2 J8 J9 J10:Sl):Al (ua [.un,.pen,J2,.d s.d,.d (tI one),.d (ba m ws ls),.own T,.d (.int k),J8,J9,J10]) 10 λo=>∃ x,o=.next [.un,.pen,J2,.d s.d,.d (tI one),.d (ba m ws ls),.own (T++[x]),.d (.int k),.d x,J9,J10]/\Th x:=by
 have hs:small (T.length+1)=true:=cj (by omega)
 have e2:aV ij (.int k) (.int 2)=.ret (.int (k.fmod 2)):=pW (by decide)
 have n8:=c.n8
 have n1:1<=s.n:=by
  have:=c.dr.ok.n_eq
  have:=c.dr.t0
  have:=c.dr.d0
  omega
 simp_arith [ua,aW]
 refine fb (n:=5) (n':=5) (ZkA c h) (by decide) ?_
 rintro _ ⟨m',ws',ls',rfl,hq⟩
 cases hk:(k.fmod 2 == 1)
 ·simp_arith [aW,e2,hk,hs]
  exact ce ⟨_,rfl,Zav n8 hq⟩
 ·simp_arith [aW,e2,hk]
  refine fb (n:=5) (n':=0) (Zky n8 n1 hq) (by decide) ?_
  rintro _ ⟨x,rfl,hx⟩
  simp_arith [aW,hs]
  exact ce ⟨_,rfl,hx⟩
theorem ZkJ {s:Shp} {one:Aa} (c:Cs s one) {x:PyData} (hx:Th x):jF (.tuple [s.d,tI one,x])=true:=by
 have ok:=c.dr.ok
 have i1:Pn (tI one) 5 2000000:=by
  have p:∀ y∈one.map PyData.int,Pn y 0 1901:=λy hy=>by
   obtain ⟨q,hq,rfl⟩:=wP.mp hy
   have:=c.le q hq
   exact iU (kL (by omega) (by omega))
  have hl:=c.len
  exact eG (fq p) (by decide) (by rw [vZ]; have:one.length * 1901<=8 * 1901:=xi 1901 hl; omega)
 have i2:Pn s.d 5 2000000:=by
  have r:=sI (ZkN ok) (show _<=5 by decide) (show _<=2000000 by decide)
  refine ⟨?_,?_,ZaG r⟩
  ·unfold Shp.d; rfl
  ·unfold Shp.d
   rw [cq]
   exact oQ (fa (by rw [cq]) (fa (by rw [cq]) (fa (by rw [cq]) (fa (by rw [cq]) (fa (by rw [cq]) (fa (by rw [cq]) (fa (by rw [cq]) (fa (by rw [cq]) (fa (by rw [cq]) fn)))))))))
 exact ZkK (l4 (A:=[s.d,tI one]) (x:=x) (B:=[]) (k:=5) (n:=2000000) (fa i2 (fa i1 fn)) fn hx.2) (by decide) (show 3 * 2000000+2 * 3+10<=10000000 by decide)
theorem Zjp {s:Shp} {one:Aa} (c:Cs s one) {x:PyData} (hx:Th x) (J2 J5 J6 J7 J9 J10:Sl):∃ K9 K10:Sl,pK [.un,.pen,J2,.d s.d,.d (tI one),J5,J6,J7,.d x,J9,J10]=.ret (.next [.un,.pen,J2,.d s.d,.d (tI one),J5,J6,J7,.d x,K9,K10]):=by
 obtain ⟨b,e1,e2⟩:=ZnL c hx.1
 have r:=ZnX (ZkJ c hx)
 have ib:gJ "bool" (fy (.bool b))=true:=rfl
 have nb:aV cX (.bool b) (.bool b)=.ret (.bool false):=by cases b <;> rfl
 refine ⟨.d (.str (PyData.shown (.tuple [s.d,tI one,x]))),.d (.bool b),?_⟩
 simp_arith [pK,r,e1,e2,ib,nb,we,beq_self_eq_true]
theorem Zaw {s:Shp} {one:Aa} (c:Cs s one) (J2 J5 J6 J7:Sl):∀ (xs:z9) (J8 J9 J10:Sl),(∀ x∈xs,Th x)->∃ K8 K9 K10:Sl,bV (aj 8) pK xs [.un,.pen,J2,.d s.d,.d (tI one),J5,J6,J7,J8,J9,J10]=.ret (.next [.un,.pen,J2,.d s.d,.d (tI one),J5,J6,J7,K8,K9,K10])
 | [],J8,J9,J10,_=>⟨J8,J9,J10,rfl⟩
 | x::xs,J8,J9,J10,h=>by
  obtain ⟨k9,k10,et⟩:=Zjp c (h x (by simp)) J2 J5 J6 J7 J9 J10
  obtain ⟨K8,K9,K10,e⟩:=Zaw c J2 J5 J6 J7 xs (.d x) k9 k10 λy hy=>h y (v3 _ hy)
  refine ⟨K8,K9,K10,?_⟩
  have eg:aj 8 x [.un,.pen,J2,.d s.d,.d (tI one),J5,J6,J7,J8,J9,J10]=some [.un,.pen,J2,.d s.d,.d (tI one),J5,J6,J7,.d x,J9,J10]:=rfl
  rw [eM,eg,Tr.of_some,Tr.ret_bind,gM,et,Tr.ret_bind,fv,e]
theorem turn (J2 J3 J4 J5 J6 J7 J8 J9 J10:Sl):Al (t9 [.un,.pen,J2,J3,J4,J5,J6,J7,J8,J9,J10]) 180 λo=>∃ K3 K4 K5 K6 K7 K8 K9 K10:Sl,o=.next [.un,.pen,J2,K3,K4,K5,K6,K7,K8,K9,K10]:=by
 have r12:fG [.int 12]=.ret (aL 0 12):=iB rfl
 simp_arith [t9,aW]
 refine fb (n:=60) (n':=120) (ZkB (by decide) (by decide)) (by decide) ?_
 rintro _ ⟨s,one,rfl,c⟩
 obtain ⟨lv,L⟩:=c.lst
 obtain ⟨po,lv'⟩:=L.po c
 have eL:=L.e
 rw [ZmN] at eL
 have n8:=c.n8
 have eT:=ZmZ c ⟨po.q.m.b,po.q.m.t⟩ (λp hp=>⟨(po.q.w p hp).b,(po.q.w p hp).t⟩) (Zbi s one lv) (jT s lv) (λp hp=>(po.q.w p hp).sh) lv' (ZmT L.r L.st)
 generalize dc (zB s one lv 0) (aZ s one lv)=m at *
 generalize fi s one lv=ws at *
 generalize bR s lv=ls at *
 have hP:=Zav n8 po.q
 have ib:aV mT (.bool true) (.bool true)=.ret (.bool false):=rfl
 simp_arith [aW,eL,r12]
 refine fb (n:=120) (n':=0) (P:=λo=>∃ (T:z9) (J7 J8:Sl),o=.next [.un,.pen,J2,.d s.d,.d (tI one),.d (ba m ws ls),.own T,J7,J8,J9,J10]/\T.length<=20/\∀ x∈T,Th x) ?_ (by decide) ?_
 ·refine np (n:=10) (λpre ρ=>∃ (T:z9) (J7 J8:Sl),ρ=[.un,.pen,J2,.d s.d,.d (tI one),.d (ba m ws ls),.own T,J7,J8,J9,J10]/\T.length=pre.length+1/\∀ x∈T,Th x) ⟨_,_,_,rfl,rfl,fa hP fn⟩ (by rw [cM]; decide) ?_ ?_
  ·rintro pre x post ρ e ⟨T,J7,J8,rfl,hl,hT⟩
   obtain ⟨rfl,hpre⟩:=jD e
   refine ⟨_,rfl,vp (Zjo c po (by omega) _ _ _ _ _) (v4 _) ?_⟩
   rintro _ ⟨y,rfl,hy⟩
   refine ⟨_,rfl,T++[y],_,_,rfl,by rw [wu,wu,hl]; rfl,λz hz=>?_⟩
   rcases wU.mp hz with q | q
   ·exact hT z q
   ·exact fa hy fn z q
  ·rintro ρ ⟨T,J7,J8,rfl,hl,hT⟩
   rw [cM] at hl
   exact ⟨T,J7,J8,rfl,by omega,hT⟩
 ·rintro _ ⟨T,J7,J8,rfl,hl,hT⟩
  have ad:aV aX (.list T) (.list [ba m ws ls])=.ret (.list (T++[ba m ws ls])):=ld (cj (by show T.length+1<=_; omega))
  obtain ⟨K8,K9,K10,e⟩:=Zaw c J2 (.d (ba m ws ls)) (.d (.list T)) J7 (T++[ba m ws ls]) J8 J9 J10 λz hz=>by
   rcases wU.mp hz with q | q
   ·exact hT z q
   ·exact fa hP fn z q
  simp_arith [aW,ad,e,eT,ib]
  exact ce ⟨_,_,_,_,_,_,_,_,rfl⟩
theorem law_true:Al (pi tY) 2000 λo=>o=.ret (.d (.bool true)):=by
 have r2:fG [.int 2]=.ret (aL 0 2):=iB rfl
 simp_arith [pi,tY,aW,r2]
 refine fb (n:=360) (n':=0) (P:=λo=>∃ ρ,o=.next ρ) ?_ (by decide) ?_
 ·refine Zqx (n:=180) (λρ=>∃ J2 J3 J4 J5 J6 J7 J8 J9 J10:Sl,ρ=[.un,.pen,J2,J3,J4,J5,J6,J7,J8,J9,J10]) ⟨_,_,_,_,_,_,_,_,_,rfl⟩ (by rw [cM]; decide) ?_ (λρ _=>⟨ρ,rfl⟩)
  rintro x ρ hx ⟨J2,J3,J4,J5,J6,J7,J8,J9,J10,rfl⟩
  refine ⟨_,rfl,vp (turn (.d x) J3 J4 J5 J6 J7 J8 J9 J10) (v4 _) ?_⟩
  rintro _ ⟨K3,K4,K5,K6,K7,K8,K9,K10,rfl⟩
  exact ⟨_,rfl,_,_,_,_,_,_,_,_,_,rfl⟩
 ·rintro _ ⟨ρ,rfl⟩
  simp_arith [aW]
  exact ce rfl
end My
set_option Elab.async false
set_option linter.all false
set_option maxRecDepth 100000
open PySem.W L2
theorem My.g_mk {K:zR} {mg:Ae} {h:Heap} (X:K.In h) (G:h.Ns mainGlobals mg) {n:Str} {v:Int} {t:Tok} (z:PySem.W.nsIn K mainGlobals n=some (some (.int v t))):∃ t,mg n=some (.int v t):=⟨_,PySem.W.mg_of X G z⟩
set_option maxRecDepth 100000 in
set_option maxHeartbeats 0 in
theorem PySem.Challenge.cw_twomarks_k37_lasting_papers_spoilt_holds : PySem.Challenge.rw_twomarks_k37_lasting_papers_spoilt.Holds := by
 refine My.hd ?_
 k_fill
 refine L2.ZiX (l:=PySem.Challenge.rw_twomarks_k37_lasting_papers_spoilt) (n:=63) (k:=8) (x:="_law_script") (CX:=iL) (sp:=L2.ZaS) rfl (by decide) rfl ⟨rfl,by decide,by decide,rfl⟩ (λw h Y=>PySem.W.kIn_of Y) ?F ?S ?C
 case F =>
  intro w mg fa h KX G hmg
  have T:My.Txt (L2.KOf KX) mg:=by
   dsimp only [L2.KOf]
   constructor
   all_goals first
    | (refine PySem.W.mg_none_of KX G ?_; k_is)
    | (refine' My.g_mk KX G ?z; (case z=>k_is))
    | (refine' L2.Zoy KX G ?a ?l ?c ?k ?b; (case a=>k_is); (case l=>k_is); (case c=>k_is); (case k=>k_is); (case b=>intro _ _ _ _ _ _ us hl; first | (obtain ⟨_,rfl⟩:=L2.ZdF hl; rfl) | (obtain ⟨_,_,rfl⟩:=L2.ZdE hl; rfl) | (obtain ⟨_,_,_,rfl⟩:=L2.ZdD hl; rfl) | (obtain ⟨_,_,_,_,rfl⟩:=L2.ZdC hl; rfl) | (obtain ⟨_,_,_,_,_,rfl⟩:=L2.Zm3 hl; rfl)))
  obtain ⟨f,fd,F,hm,_⟩:=T.ZoN.ex
  have e0:=hmg.symm.trans hm
  cases e0
  refine ⟨fd,?_,λbase _ _=>My.Zl9 T F (L2.Tr.ok_mono (L2.Tr.all_ok My.law_true.out (by decide)) λ_ _ h=>h.2)⟩
  obtain ⟨oc,od,kV,doc,pm,an,cdv,ct,osl,rfl,lk,hcd⟩:=F.ex
  exact λs u=>.of_eq rfl
 case S=>exact λK H a ns hl _ hS=>⟨a,ns,rfl,hS,hl,λ_=>rfl⟩
 case C=>exact λ_ _ _ _ z=>z
